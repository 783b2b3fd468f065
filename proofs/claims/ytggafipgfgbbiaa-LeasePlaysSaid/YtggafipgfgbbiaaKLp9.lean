/-
  What is wanted by the last of these texts, part 9.
  No condition.
-/
import Derived.Test.YtggafipgfgbbiaaProg
import Derived.Test.YtggafipgfgbbiaaKLp8
namespace Go.Proofs.Ytggafipgfgbbiaa.Le
set_option linter.unusedVariables false
set_option linter.unusedSimpArgs false
open Go.RowKit Go.Proofs.Ytggafipgfgbbiaa.Ba Go.Proofs.Ytggafipgfgbbiaa.Mem Go.Proofs.Ytggafipgfgbbiaa.Ty
open Go.Proofs.Ytggafipgfgbbiaa.Ls (LV leaC)
open Go.Proofs.Ytggafipgfgbbiaa.Fl (mayB btw cnt)
set_option maxRecDepth 100000
attribute [local irreducible] Go.wpList
set_option maxHeartbeats 4000000 in
theorem cloneNil (w : World) : Calls Try.prog 79 #[.slice none 0 0] w fun e w' => e = .returned (.slice none 0 0) ∧ Since w w' := by
  go_enter Try.func79, Try.ntmps79
  go_upto_region 1 with fail
  have HS1 := Lib.hid (Since.refl w)
  refine wp_region_lit ?_
  refine wpList_q (by rfl) (.slice none 0 0) ?he ?_
  case he => (first | rfl | (go_simp; (try with_reducible rfl)))
  (try simp only [Act.put, sA, sB, sC])
  refine wpList_q (by rfl) (.bool true) ?he ?_
  case he => (first | rfl | (go_simp; (try with_reducible rfl)))
  (try simp only [Act.put, sA, sB, sC])
  refine wpList_nil ?_
  go_upto_region 2 with fail
  refine wp_region_lit ?_
  refine wpList_q (by rfl) (.slice none 0 0) ?he ?_
  case he => (first | rfl | (go_simp; (try with_reducible rfl)))
  (try simp only [Act.put, sA, sB, sC])
  refine wpList_nil ?_
  (try go_wp2_with fail)
  go_ret
  exact ⟨rfl, HS1.out⟩
set_option maxHeartbeats 4000000 in
theorem cloneSome (ad : Addr) (n c : Nat) (ls : List LeaseV) (w : World) (hR : Reads w w.heap.size 10 (some ad) n (rowsOf leaC ls)) (hN : n ≤ 1000000) : Calls Try.prog 79 #[.slice (some ad) n c] w fun e w' => ∃ A' c', e = .returned (.slice A' n c') ∧ w'.ownsRow w.heap.size 56 10 (.slice A' n c') n (rowsOf leaC ls) ∧ Since w w' := by
  have HR := Lib.hid hR
  clear hR
  have HN := Lib.hid hN
  clear hN
  go_enter Try.func79, Try.ntmps79
  go_upto_region 1 with fail
  have HS1 := Lib.hid (Since.refl w)
  refine wp_region_lit ?_
  refine wpList_q (by rfl) (.slice (some ad) n c) ?he ?_
  case he => (first | rfl | (go_simp; (try with_reducible rfl)))
  (try simp only [Act.put, sA, sB, sC])
  refine wpList_q (by rfl) (.bool false) ?he ?_
  case he => (first | rfl | (go_simp; (try with_reducible rfl)))
  (try simp only [Act.put, sA, sB, sC])
  refine wpList_nil ?_
  go_upto_region 3 with fail
  refine wp_region_lit ?_
  refine wpList_wp (by rfl) (fun K hK => ?_)
  refine wp_new (fun b => .slice (some ⟨b, 0, none⟩) 0 0) 56 #[] (by rintro b rfl; first | rfl | kernel_rfl) ?_
  intro bn5 w2 hge hB hb
  refine hK.out _ _ ?_
  clear hK K
  (try simp only [Act.put, sA, sB, sC])
  have HGn5 := Lib.hid (show w.heap.size ≤ bn5 by have := Since.size HS1.out; omega)
  have HS2 := Lib.hid (Since.trans HS1.out hb)
  clear HS1 
  clear hb hge
  have HBn52 := Lib.hid hB
  clear hB
  refine wpList_q (by rfl) (.slice (some ad) n c) ?he ?_
  case he => (first | rfl | (go_simp; (try with_reducible rfl)))
  (try simp only [Act.put, sA, sB, sC])
  refine wpList_wp (by rfl) (fun K hK => ?_)
  have HOE := Lib.hid (own_empty (e := 56) (size := 10) HBn52.out HGn5.out)
  clear HBn52
  refine wp_append_row (.tmp 5) (.tmp 6) 24 rfl w.heap.size 56 (Value.agg #[.int .i64 0, .int .i64 0, .int .i64 0, .int .i64 0, .int .i64 0, .int .i64 0, .int .i64 0, .int .i64 0, .int .i64 0, .int .i64 0]) 10 80 Try.underlying24 (by kernel_rfl) rfl (by decide) (by decide) (some ⟨bn5, 0, none⟩) 0 0 ([]) rfl HOE.out _ (some ad) n c (rowsOf leaC ls) rfl (own_reads_since HS2.out (Nat.le_refl _) HR.out) (leas_one ls) (by have := HN.out; omega) HS2.out.size n (rowsOf leaC ls) (Nat.zero_add _) rfl ?_
  intro A_1 c_1 w3 hown hupd hfar
  refine hK.out _ _ ?_
  clear hK K
  (try simp only [Act.put, sA, sB, sC])
  have HS3 := Lib.hid (Since.upd HS2.out hupd (own_low HOE.out))
  have HFr3 := Lib.hid hown
  clear hupd hown hfar HS2 HOE
  refine wpList_q (by rfl) (.slice A_1 n c_1) ?he ?_
  case he => (first | rfl | (go_simp; (try with_reducible rfl)))
  (try simp only [Act.put, sA, sB, sC])
  refine wpList_nil ?_
  (try go_wp2_with fail)
  go_ret
  exact ⟨A_1, c_1, rfl, HFr3.out, HS3.out⟩
theorem cloneT (lo : Nat) (A : Option Addr) (c : Nat) (ls : List LeaseV) (w : World) (hO : w.ownsRow lo 56 10 (.slice A ls.length c) ls.length (rowsOf leaC ls)) (hl : ls.length ≤ 1000000) : Calls Try.prog 79 #[.slice A ls.length c] w fun e w' => ∃ A' c', e = .returned (.slice A' ls.length c') ∧ w'.ownsRow w.heap.size 56 10 (.slice A' ls.length c') ls.length (rowsOf leaC ls) ∧ Since w w' := by
  rcases own_at hO with ⟨rfl, h0, hx⟩ | ⟨g, cur, rfl, _⟩
  · have hc : c = 0 := by
      rcases hO.2 with ⟨hv, _⟩ | ⟨_, _, _, hv, _⟩
      · simp at hv; exact hv.2
      · simp at hv
    subst hc
    rw [hx, h0]
    refine (cloneNil w).mono ?_
    rintro e w1 ⟨rfl, hb⟩
    exact ⟨none, 0, rfl, World.ownsRow_nil _ _ _ _, hb⟩
  · exact cloneSome _ _ c ls w (own_reads hO) hl
set_option maxHeartbeats 4000000 in
theorem deleteT (lo g m c i : Nat) (ls : List LeaseV) (w : World) (hO : w.ownsRow lo 56 10 (.slice (some ⟨g, 0, none⟩) (m + 1) c) (m + 1) (rowsOf leaC ls)) (hl : ls.length = m + 1) (hi : i ≤ m) (hc : m + 1 ≤ c) (hm : m + 1 ≤ 1000000) : Calls Try.prog 78 #[.slice (some ⟨g, 0, none⟩) (m + 1) c, .int .i64 (i : Int), .int .i64 ((i : Int) + 1)] w fun e w' => e = .returned (.slice (some ⟨g, 0, none⟩) m c) ∧ w'.ownsRow lo 56 10 (.slice (some ⟨g, 0, none⟩) m c) m (rowsOf leaC (ls.eraseIdx i)) ∧ Upd [g] w w' := by
  have HOW := Lib.hid hO
  clear hO
  have HL := Lib.hid hl
  clear hl
  have HI := Lib.hid hi
  clear hi
  have HC := Lib.hid hc
  clear hc
  have HM := Lib.hid hm
  clear hm
  go_enter Try.func78, Try.ntmps78
  go_upto_region 1 with fail
  have HS1 := Lib.hid (Upd.refl [g] w)
  refine wp_region_lit ?_
  refine wpList_q (by rfl) (.slice (some ⟨g, 0, none⟩) (m + 1) c) ?he ?_
  case he => (first | rfl | (go_simp; (try with_reducible rfl)))
  (try simp only [Act.put, sA, sB, sC])
  refine wpList_q (by rfl) (.int .i64 (i : Int)) ?he ?_
  case he => (first | rfl | (go_simp; (try with_reducible rfl)))
  (try simp only [Act.put, sA, sB, sC])
  refine wpList_q (by rfl) (.int .i64 ((i : Int) + 1)) ?he ?_
  case he => (first | rfl | (go_simp; (try with_reducible rfl)))
  (try simp only [Act.put, sA, sB, sC])
  refine wpList_q (by rfl) (.slice (some ⟨g, 0, none⟩) (m + 1) c) ?he ?_
  case he => (first | rfl | (go_simp; (try with_reducible rfl)))
  (try simp only [Act.put, sA, sB, sC])
  refine wpList_q (by rfl) (.int .i64 ((m + 1 : Nat) : Int)) ?he ?_
  case he => (first | rfl | (go_simp; (try with_reducible rfl)))
  (try simp only [Act.put, sA, sB, sC])
  refine wpList_q (by rfl) (.slice (cutA (m + 1) i (some ⟨g, 0, none⟩ : Option Addr) 10) (i + 1 - i) (m + 1 - i)) ?he ?_
  case he => exact exec_slice (s := 10) 24 56 _ _ _ _ rfl rfl Try.underlying24 (by kernel_rfl) (sb_lhm _ _ _ _ (l := i) (h := i + 1) (m := m + 1) rfl (by push_cast; rfl) rfl (by omega) (by have q0 := HI.out; omega) HC.out) (by rfl) rfl rfl
  (try simp only [Act.put, sA, sB, sC])
  refine wpList_nil ?_
  go_upto_region 2 with fail
  refine wp_region_lit ?_
  refine wpList_q (by rfl) (.int .i64 (i : Int)) ?he ?_
  case he => (first | rfl | (go_simp; (try with_reducible rfl)))
  (try simp only [Act.put, sA, sB, sC])
  refine wpList_q (by rfl) (.int .i64 ((i : Int) + 1)) ?he ?_
  case he => (first | rfl | (go_simp; (try with_reducible rfl)))
  (try simp only [Act.put, sA, sB, sC])
  refine wpList_q (by rfl) (.bool false) ?he ?_
  case he => (go_simp; (first | done | rfl | omega))
  (try simp only [Act.put, sA, sB, sC])
  refine wpList_nil ?_
  go_upto_region 4 with fail
  refine wp_region_lit ?_
  refine wpList_q (by rfl) (.slice (some ⟨g, 0, none⟩) (m + 1) c) ?he ?_
  case he => (first | rfl | (go_simp; (try with_reducible rfl)))
  (try simp only [Act.put, sA, sB, sC])
  refine wpList_q (by rfl) (.int .i64 ((m + 1 : Nat) : Int)) ?he ?_
  case he => (first | rfl | (go_simp; (try with_reducible rfl)))
  (try simp only [Act.put, sA, sB, sC])
  refine wpList_q (by rfl) (.int .i64 ((m + 1 : Nat) : Int)) ?he ?_
  case he => (first | rfl | (go_simp; (try with_reducible rfl)))
  (try simp only [Act.put, sA, sB, sC])
  refine wpList_nil ?_
  go_upto_region 5 with fail
  have hrK : ∀ W W' : World, Since W W' → (Upd [g] w W) → (Upd [g] w W') := fun W W' k h => h.trans k
  have hrS : (fun W : World => Upd [g] w W) w := HS1.out
  have HRK := Lib.hid hrK
  have HRD := Lib.hid (show (fun W : World => Upd [g] w W) (World.drew w) from Upd.drew hrS)
  clear hrK hrS
  have HEr := Lib.hid (show ((World.drew w)).ownsRow lo 56 10 (.slice (some ⟨g, 0, none⟩) (m + 1) c) (m + 1) (rowsOf leaC ls) from HOW.out)
  clear HOW
  refine wp_region_held_drew (S := fun W : World => Upd [g] w W) (by kernel_rfl) HRD.out (fun hHeld => ?_)
  refine wpAnyH_take (i := 0) (oi := ?o5__0) (v := .slice (some ⟨g, 0, none⟩) (m + 1) c) ?h5__0 (by kernel_rfl) (by kernel_rfl) (by kernel_rfl) ?q5__0 ?y5__0 (by assumption) ?_
  case h5__0 => (first | (simp only [gA, gB, gC]; done) | (simp only [gA, gB, gC]; exact rfl))
  case q5__0 => exact fun _ _ _ h => h
  case y5__0 => (refine Or.inl ⟨rfl, ?_⟩; intro w hSw; (first | rfl | (go_simp; (try with_reducible rfl))))
  (try simp only [Act.put, sA, sB, sC])
  refine wpAnyH_take (i := 1) (oi := ?o5__1) (v := .int .i64 (i : Int)) ?h5__1 (by kernel_rfl) (by kernel_rfl) (by kernel_rfl) ?q5__1 ?y5__1 (by assumption) ?_
  case h5__1 => (first | (simp only [gA, gB, gC]; done) | (simp only [gA, gB, gC]; exact rfl))
  case q5__1 => exact fun _ _ _ h => h
  case y5__1 => (refine Or.inl ⟨rfl, ?_⟩; intro w hSw; (first | rfl | (go_simp; (try with_reducible rfl))))
  (try simp only [Act.put, sA, sB, sC])
  refine wpAnyH_take (i := 2) (oi := ?o5__2) (v := .slice (some ⟨g, 0, none⟩) i c) ?h5__2 (by kernel_rfl) (by kernel_rfl) (by kernel_rfl) ?q5__2 ?y5__2 (by assumption) ?_
  case h5__2 => (first | (simp only [gA, gB, gC]; done) | (simp only [gA, gB, gC]; exact rfl))
  case q5__2 => exact fun _ _ _ h => h
  case y5__2 => (refine Or.inl ⟨rfl, ?_⟩; intro w hSw; exact exec_slice (s := 10) 24 56 _ _ _ _ rfl rfl Try.underlying24 (by kernel_rfl) (sb_h _ _ (h := i) rfl (by have q0 := HI.out; have q1 := HC.out; omega)) (by split <;> simp [Addr.add]) rfl rfl)
  (try simp only [Act.put, sA, sB, sC])
  refine wpAnyH_take (i := 3) (oi := ?o5__3) (v := .slice (some ⟨g, 0, none⟩) (m + 1) c) ?h5__3 (by kernel_rfl) (by kernel_rfl) (by kernel_rfl) ?q5__3 ?y5__3 (by assumption) ?_
  case h5__3 => (first | (simp only [gA, gB, gC]; done) | (simp only [gA, gB, gC]; exact rfl))
  case q5__3 => exact fun _ _ _ h => h
  case y5__3 => (refine Or.inl ⟨rfl, ?_⟩; intro w hSw; (first | rfl | (go_simp; (try with_reducible rfl))))
  (try simp only [Act.put, sA, sB, sC])
  refine wpAnyH_take (i := 4) (oi := ?o5__4) (v := .int .i64 ((i : Int) + 1)) ?h5__4 (by kernel_rfl) (by kernel_rfl) (by kernel_rfl) ?q5__4 ?y5__4 (by assumption) ?_
  case h5__4 => (first | (simp only [gA, gB, gC]; done) | (simp only [gA, gB, gC]; exact rfl))
  case q5__4 => exact fun _ _ _ h => h
  case y5__4 => (refine Or.inl ⟨rfl, ?_⟩; intro w hSw; (first | rfl | (go_simp; (try with_reducible rfl))))
  (try simp only [Act.put, sA, sB, sC])
  refine wpAnyH_take (i := 5) (oi := ?o5__5) (v := .slice (cutA c (i + 1) (some ⟨g, 0, none⟩ : Option Addr) 10) (m + 1 - (i + 1)) (c - (i + 1))) ?h5__5 (by kernel_rfl) (by kernel_rfl) (by kernel_rfl) ?q5__5 ?y5__5 (by assumption) ?_
  case h5__5 => (first | (simp only [gA, gB, gC]; done) | (simp only [gA, gB, gC]; exact rfl))
  case q5__5 => exact fun _ _ _ h => h
  case y5__5 => (refine Or.inl ⟨rfl, ?_⟩; intro w hSw; exact exec_slice (s := 10) 24 56 _ _ _ _ rfl rfl Try.underlying24 (by kernel_rfl) (sb_l _ _ (l := i + 1) (by push_cast; rfl) (by have q0 := HI.out; omega)) (by rfl) rfl rfl)
  (try simp only [Act.put, sA, sB, sC])
  refine wpAnyH_ready (rs := [6]) (by kernel_rfl) (by simp) ?_
  refine AllReadyH.cons (o := ?o5__6) ?h5__6 (fun K hK => ?_) AllReadyH.nil
  case h5__6 => (first | (simp only [gA, gB, gC]; done) | (simp only [gA, gB, gC]; exact rfl))
  rw [if_pos (by rfl)]
  refine wp_append_room (.tmp 22) (.tmp 25) 24 rfl lo 56 10 Try.underlying24 (by kernel_rfl) g i c ((rowsOf leaC ls).take (i * 10)) rfl (own_prefix HEr.out (by have q0 := HI.out; omega)) _ (cutA c (i + 1) (some ⟨g, 0, none⟩ : Option Addr) 10) (m + 1 - (i + 1)) (c - (i + 1)) ((rowsOf leaC ls).drop ((i + 1) * 10)) rfl (reads_cut (own_reads HEr.out) (by have q0 := HI.out; omega) HC.out) (fun u hu => leas_one ls u (List.mem_of_mem_drop hu)) (by have q0 := HI.out; have q1 := HC.out; omega) m (rowsOf leaC (ls.eraseIdx i)) (by have q0 := HI.out; omega) (erase_rows leaC_len (by have q0 := HI.out; have q2 := HL.out; omega)) ?_
  intro w2 hown hupd
  skip
  have hHeld3 : (fun W : World => Upd [g] w W) w2 := Upd.comp hHeld hupd (fun _ h => .inl h)
  have HOW_w2 := Lib.hid hown
  refine hK.out _ _ hHeld3 (fun hHeld2 => ?_)
  clear hK K hHeld hHeld3 hupd hown  HEr 
  have hHeld := hHeld2
  clear hHeld2
  (try simp only [Act.put, sA, sB, sC])
  refine wpAnyH_take (i := 7) (oi := ?o5__7) (v := .slice (some ⟨g, 0, none⟩) m c) ?h5__7 (by kernel_rfl) (by kernel_rfl) (by kernel_rfl) ?q5__7 ?y5__7 (by assumption) ?_
  case h5__7 => (first | (simp only [gA, gB, gC]; done) | (simp only [gA, gB, gC]; exact rfl))
  case q5__7 => exact fun _ _ _ h => h
  case y5__7 => (refine Or.inl ⟨rfl, ?_⟩; intro w hSw; (first | rfl | (go_simp; (try with_reducible rfl))))
  (try simp only [Act.put, sA, sB, sC])
  refine wpAnyH_done (by kernel_rfl) ?_ _
  have HSd5 := Lib.hid hHeld
  clear hHeld HRK HRD HS1 
  have HFrd5 := Lib.hid HOW_w2.out
  clear HOW_w2
  go_upto_region 6 with fail
  refine wp_region_lit ?_
  refine wpList_q (by rfl) (.slice (some ⟨g, 0, none⟩) m c) ?he ?_
  case he => (first | rfl | (go_simp; (try with_reducible rfl)))
  (try simp only [Act.put, sA, sB, sC])
  refine wpList_q (by rfl) (.slice (some ⟨g, 0, none⟩) m c) ?he ?_
  case he => (first | rfl | (go_simp; (try with_reducible rfl)))
  (try simp only [Act.put, sA, sB, sC])
  refine wpList_q (by rfl) (.int .i64 (m : Int)) ?he ?_
  case he => (first | rfl | (go_simp; (try with_reducible rfl)))
  (try simp only [Act.put, sA, sB, sC])
  refine wpList_q (by rfl) (.int .i64 ((m + 1 : Nat) : Int)) ?he ?_
  case he => (first | rfl | (go_simp; (try with_reducible rfl)))
  (try simp only [Act.put, sA, sB, sC])
  refine wpList_q (by rfl) (.slice (some ⟨g, m * 10, none⟩) 1 (c - m)) ?he ?_
  case he => exact exec_slice (s := 10) 24 56 _ _ _ _ rfl rfl Try.underlying24 (by kernel_rfl) (sb_lh _ _ _ (l := m) (h := m + 1) rfl rfl (by omega) HC.out) (by have q1 := HC.out; rw [if_neg (by omega)]; simp [Go.WideShapes.add_plain]) (by omega) rfl
  (try simp only [Act.put, sA, sB, sC])
  refine wpList_wp (by rfl) (fun K hK => ?_)
  refine wp_clear_behind _ 24 rfl lo 56 (Value.agg #[.int .i64 0, .int .i64 0, .int .i64 0, .int .i64 0, .int .i64 0, .int .i64 0, .int .i64 0, .int .i64 0, .int .i64 0, .int .i64 0]) 10 80 Try.underlying24 (by kernel_rfl) rfl (by intro u hu; simp [Value.cells] at hu; (try rcases hu with rfl | rfl | rfl | rfl | rfl | rfl | rfl | rfl | rfl | rfl) <;> rfl) g m c _ HFrd5.out 1 (c - m) (by decide) HC.out rfl ?_
  intro w3 hown hupd
  refine hK.out _ _ ?_
  clear hK K
  (try simp only [Act.put, sA, sB, sC])
  have HSz := Lib.hid (Upd.comp HSd5.out hupd (fun _ h => .inl h))
  have HOWz := Lib.hid hown
  clear hown hupd HSd5 HFrd5
  refine wpList_nil ?_
  go_upto_region 7 with fail
  refine wp_region_lit ?_
  refine wpList_q (by rfl) (.slice (some ⟨g, 0, none⟩) m c) ?he ?_
  case he => (first | rfl | (go_simp; (try with_reducible rfl)))
  (try simp only [Act.put, sA, sB, sC])
  refine wpList_q (by rfl) (.slice (some ⟨g, 0, none⟩) m c) ?he ?_
  case he => (first | rfl | (go_simp; (try with_reducible rfl)))
  (try simp only [Act.put, sA, sB, sC])
  refine wpList_nil ?_
  (try go_wp2_with fail)
  go_ret
  exact ⟨rfl, HOWz.out, HSz.out⟩
theorem enterF {P : Program} {f : FuncId} {fn : Func} {c : Code} (hf : P.funcs[f]? = some fn) (hname : (fn.name == "runtime.NumGoroutine") = false) (hb : fn.body = some c) (args : Array Value) (w : World) : (callFunc f args).run P w = .ok (.enter f args) w := by
  have h1 : fn.name ≠ "runtime.NumGoroutine" := by simpa using hname
  simp [callFunc, hf, h1, hb]
def oI (y : Option Nat) : Int := match y with | some k => (k : Int) | none => -1
theorem indexV (lo : Nat) (A : Option Addr) (c : Nat) (ls : List LeaseV) (F : FuncId) (cp : Value) (p : LeaseV → Bool) (w : World) (ho : w.ownsRow lo 56 10 (.slice A ls.length c) ls.length (rowsOf leaC ls)) (hl : ls.length ≤ 10000)
    (hp : ∀ (l : LeaseV) (w1 : World), Since w w1 → Calls Try.prog F #[.agg #[.int .i64 l.se, .int .i64 l.fl, .int .i64 l.fm, .int .i64 l.to, .int .i64 l.ma, .int .i64 l.ca, .int .i64 l.ph, .int .i64 l.un, .int .i64 l.re, .int .i64 l.gr], cp] w1 fun e w2 => e = .returned (.bool (p l)) ∧ Since w1 w2) (hcf : ∀ (args : Array Value) (w1 : World), (callFunc F args).run Try.prog w1 = .ok (.enter F args) w1) :
    Calls Try.prog 92 #[.slice A ls.length c, .func (.func F) #[] #[cp]] w fun e w' => e = .returned (.int .i64 (oI (atP ls p))) ∧ Since w w' := by
  cases hf : atP ls p with
  | some k => exact indexHit lo A c ls F cp p k w ho hl hp hcf hf
  | none => exact indexMiss lo A c ls F cp p w ho hl hp hcf hf
set_option maxHeartbeats 4000000 in
theorem findT (lo t : Nat) (c : CfgV) (ls : List LeaseV) (A : Option Addr) (cap : Nat) (F : FuncId) (cp : Value) (p : LeaseV → Bool) (w : World) (hq : Blk w t 101 (tabC c (.slice A ls.length cap))) (ho : w.ownsRow lo 56 10 (.slice A ls.length cap) ls.length (rowsOf leaC ls)) (hl : ls.length ≤ 10000) (hp : ∀ (l : LeaseV) (w1 : World), Since w w1 → Calls Try.prog F #[.agg #[.int .i64 l.se, .int .i64 l.fl, .int .i64 l.fm, .int .i64 l.to, .int .i64 l.ma, .int .i64 l.ca, .int .i64 l.ph, .int .i64 l.un, .int .i64 l.re, .int .i64 l.gr], cp] w1 fun e w2 => e = .returned (.bool (p l)) ∧ Since w1 w2) (hcf : ∀ (args : Array Value) (w1 : World), (callFunc F args).run Try.prog w1 = .ok (.enter F args) w1) : Calls Try.prog 73 #[.pointer (some ⟨t, 0, none⟩), .func (.func F) #[] #[cp]] w fun e w' => e = .returned (.int .i64 (oI (atP ls p))) ∧ Since w w' := by
  have HBQ := Lib.hid (show Blk w t 101 #[.int .i64 c.ca, .int .i64 c.fl, .int .i64 c.ft, .int .i64 c.se, .int .i64 c.dr, .int .i64 c.dw, .int .i64 c.ho, .int .i64 c.re, .int .i64 c.yi, .int .i64 c.qu, .int .i64 c.qo, .int .i64 c.lo, .int .i64 c.sl, .int .i64 c.rt, .int .i64 c.cp, .int .i64 c.tr, .int .i64 c.de, .int .i64 c.wi, .slice A ls.length cap] from hq)
  clear hq
  have HOW := Lib.hid ho
  clear ho
  have HL := Lib.hid hl
  clear hl
  have HP := Lib.hid hp
  clear hp
  have HCF := Lib.hid hcf
  clear hcf
  go_enter Try.func73, Try.ntmps73
  go_upto_region 1 with fail
  have HS1 := Lib.hid (Since.refl w)
  refine wp_region_lit ?_
  refine wpList_q (by rfl) (.pointer (some ⟨t, 0, none⟩)) ?he ?_
  case he => (first | rfl | (go_simp; (try with_reducible rfl)))
  (try simp only [Act.put, sA, sB, sC])
  refine wpList_q (by rfl) (.bool false) ?he ?_
  case he => (first | rfl | (go_simp; (try with_reducible rfl)))
  (try simp only [Act.put, sA, sB, sC])
  refine wpList_nil ?_
  go_upto_region 3 with fail
  refine wp_region_lit ?_
  refine wpList_q (by rfl) (.pointer (some ⟨t, 0, none⟩)) ?he ?_
  case he => (first | rfl | (go_simp; (try with_reducible rfl)))
  (try simp only [Act.put, sA, sB, sC])
  refine wpList_q (by rfl) (.pointer (some ⟨t, 0, none⟩)) ?he ?_
  case he => (first | rfl | (go_simp; (try with_reducible rfl)))
  (try simp only [Act.put, sA, sB, sC])
  refine wpList_q (by rfl) (.pointer (some ⟨t, 18, none⟩)) ?he ?_
  case he => (first | rfl | (go_simp; (try with_reducible rfl)))
  (try simp only [Act.put, sA, sB, sC])
  refine wpList_q (by rfl) (.slice A ls.length cap) ?he ?_
  case he => exact exec_cell 24 _ _ HBQ.out rfl rfl rfl Try.underlying24 rfl
  (try simp only [Act.put, sA, sB, sC])
  refine wpList_q (by rfl) (.func (.func F) #[] #[cp]) ?he ?_
  case he => (first | rfl | (go_simp; (try with_reducible rfl)))
  (try simp only [Act.put, sA, sB, sC])
  refine wpList_wp (by rfl) (fun K hK => ?_)
  (try go_simp)
  refine (indexV lo A cap ls F cp p _ HOW.out HL.out (fun l w1 hs => HP.out l w1 (HS1.out.trans hs)) HCF.out).mono ?_
  rintro e w2 ⟨rfl, hb⟩
  (try go_wp2_with fail)
  refine hK.out _ _ ?_
  clear hK K
  (try simp only [Act.put, sA, sB, sC])
  have HS2 := Lib.hid (Since.trans HS1.out hb)
  have HBQ2 := Lib.hid (keep_blk hb HBQ.out)
  have HFr2 := Lib.hid (keep_own hb HOW.out)
  clear HS1 HBQ HOW
  clear hb
  refine wpList_q (by rfl) (.int .i64 (oI (atP ls p))) ?he ?_
  case he => (first | rfl | (go_simp; (try with_reducible rfl)))
  (try simp only [Act.put, sA, sB, sC])
  refine wpList_nil ?_
  (try go_wp2_with fail)
  go_ret
  exact ⟨rfl, HS2.out⟩
set_option maxHeartbeats 4000000 in
theorem ofA (lo t : Nat) (c : CfgV) (ls : List LeaseV) (A : Option Addr) (cap : Nat) (s : Int) (w : World) (hq : Blk w t 101 (tabC c (.slice A ls.length cap))) (ho : w.ownsRow lo 56 10 (.slice A ls.length cap) ls.length (rowsOf leaC ls)) (hl : ls.length ≤ 10000) : Calls Try.prog 76 #[.pointer (some ⟨t, 0, none⟩), .int .i64 s] w fun e w' => e = .returned (.int .i64 (oI (atP ls (isS s)))) ∧ Since w w' := by
  have HBQ := Lib.hid (show Blk w t 101 #[.int .i64 c.ca, .int .i64 c.fl, .int .i64 c.ft, .int .i64 c.se, .int .i64 c.dr, .int .i64 c.dw, .int .i64 c.ho, .int .i64 c.re, .int .i64 c.yi, .int .i64 c.qu, .int .i64 c.qo, .int .i64 c.lo, .int .i64 c.sl, .int .i64 c.rt, .int .i64 c.cp, .int .i64 c.tr, .int .i64 c.de, .int .i64 c.wi, .slice A ls.length cap] from hq)
  clear hq
  have HOW := Lib.hid ho
  clear ho
  have HL := Lib.hid hl
  clear hl
  go_enter Try.func76, Try.ntmps76
  go_upto_region 1 with fail
  obtain ⟨w1, hw1⟩ : ∃ w1, w1 = (w.alloc (.cells #[.int .i64 s] 3)) := ⟨_, rfl⟩
  rw [← hw1]
  have HBB1 := Lib.hid (show Blk w1 (w.heap.size) 3 #[.int .i64 s] by rw [hw1]; exact Blk.at_ (by (try simp only [size_alloc])) _ _)
  have HS1 := Lib.hid (show Since w w1 by rw [hw1]; exact Since.alloc (Since.refl w) _)
  have hNE : w.heap.size ≤ w.heap.size := by omega
  have HNE := Lib.hid hNE
  clear hNE hw1
  have HNE3 := Lib.hid (show w.heap.size ≤ w.heap.size from HNE.out)
  clear HNE
  have HBQ1 := Lib.hid (keep_blk HS1.out HBQ.out)
  have HOW1 := Lib.hid (keep_own HS1.out HOW.out)
  clear HBQ HOW
  refine wp_region_lit ?_
  refine wpList_q (by rfl) (.pointer (some ⟨t, 0, none⟩)) ?he ?_
  case he => (first | rfl | (go_simp; (try with_reducible rfl)))
  (try simp only [Act.put, sA, sB, sC])
  refine wpList_q (by rfl) (.func (.func 93) #[] #[.pointer (some ⟨w.heap.size, 0, none⟩)]) ?he ?_
  case he => (first | rfl | (go_simp; (try rfl)))
  (try simp only [Act.put, sA, sB, sC])
  refine wpList_wp (by rfl) (fun K hK => ?_)
  (try go_simp)
  refine (findT lo t c ls A cap 93 (.pointer (some ⟨w.heap.size, 0, none⟩)) (isS s) _ HBQ1.out HOW1.out HL.out (fun l w1 hs => of1T w.heap.size s l w1 (keep_blk hs HBB1.out)) (fun args w1 => enterF Try.func93 (by kernel_rfl) rfl args w1)).mono ?_
  rintro e w2 ⟨rfl, hb⟩
  (try go_wp2_with fail)
  refine hK.out _ _ ?_
  clear hK K
  (try simp only [Act.put, sA, sB, sC])
  have HS2 := Lib.hid (Since.trans HS1.out hb)
  have HBB2 := Lib.hid (keep_blk hb HBB1.out)
  have HBQ2 := Lib.hid (keep_blk hb HBQ1.out)
  have HFr2 := Lib.hid (keep_own hb HOW1.out)
  clear HS1 HBB1 HBQ1 HOW1
  clear hb
  refine wpList_q (by rfl) (.int .i64 (oI (atP ls (isS s)))) ?he ?_
  case he => (first | rfl | (go_simp; (try with_reducible rfl)))
  (try simp only [Act.put, sA, sB, sC])
  refine wpList_nil ?_
  (try go_wp2_with fail)
  go_ret
  exact ⟨rfl, HS2.out⟩
set_option maxHeartbeats 4000000 in
theorem atNo (t : Nat) (w : World) : Calls Try.prog 77 #[.pointer (some ⟨t, 0, none⟩), .int .i64 (-1)] w fun e w' => e = .returned (.tuple #[.agg #[.int .i64 0, .int .i64 0, .int .i64 0, .int .i64 0, .int .i64 0, .int .i64 0, .int .i64 0, .int .i64 0, .int .i64 0, .int .i64 0], .bool false]) ∧ Since w w' := by
  go_enter Try.func77, Try.ntmps77
  go_upto_region 1 with fail
  obtain ⟨w1, hw1⟩ : ∃ w1, w1 = (w.alloc (.cells #[.int .i64 0, .int .i64 0, .int .i64 0, .int .i64 0, .int .i64 0, .int .i64 0, .int .i64 0, .int .i64 0, .int .i64 0, .int .i64 0] 56)) := ⟨_, rfl⟩
  rw [← hw1]
  have HBR1 := Lib.hid (show Blk w1 (w.heap.size) 56 #[.int .i64 0, .int .i64 0, .int .i64 0, .int .i64 0, .int .i64 0, .int .i64 0, .int .i64 0, .int .i64 0, .int .i64 0, .int .i64 0] by rw [hw1]; exact Blk.at_ (by (try simp only [size_alloc])) _ _)
  have HS1 := Lib.hid (show Since w w1 by rw [hw1]; exact Since.alloc (Since.refl w) _)
  have hNE : w.heap.size ≤ w.heap.size := by omega
  have HNE := Lib.hid hNE
  clear hNE hw1
  have HNE3 := Lib.hid (show w.heap.size ≤ w.heap.size from HNE.out)
  clear HNE
  refine wp_region_lit ?_
  refine wpList_q (by rfl) (.int .i64 (-1)) ?he ?_
  case he => (first | rfl | (go_simp; (try with_reducible rfl)))
  (try simp only [Act.put, sA, sB, sC])
  refine wpList_q (by rfl) (.bool true) ?he ?_
  case he => (go_simp; (try with_reducible rfl))
  (try simp only [Act.put, sA, sB, sC])
  refine wpList_nil ?_
  go_upto_region 2 with fail
  refine wp_region_lit ?_
  refine wpList_q (by rfl) (.agg #[.int .i64 0, .int .i64 0, .int .i64 0, .int .i64 0, .int .i64 0, .int .i64 0, .int .i64 0, .int .i64 0, .int .i64 0, .int .i64 0]) ?he ?_
  case he => kernel_rfl
  (try simp only [Act.put, sA, sB, sC])
  refine wpList_wp (by rfl) (fun K hK => ?_)
  refine wp_st_row 56 _ _ rfl #[.int .i64 0, .int .i64 0, .int .i64 0, .int .i64 0, .int .i64 0, .int .i64 0, .int .i64 0, .int .i64 0, .int .i64 0, .int .i64 0] rfl rfl (HasRow.of HBR1.out rfl) rfl (by simp [Value.oneCell']) (by kernel_rfl) ?_
  intro w2 hw
  refine hK.out _ _ ?_
  clear hK K
  (try simp only [Act.put, sA, sB, sC])
  have HS2 := Lib.hid (show Since w w2 by rw [hw]; exact Since.setRow HS1.out (by have := HNE3.out; omega) _)
  have HBR2 := Lib.hid (show Blk w2 w.heap.size 56 #[.int .i64 0, .int .i64 0, .int .i64 0, .int .i64 0, .int .i64 0, .int .i64 0, .int .i64 0, .int .i64 0, .int .i64 0, .int .i64 0] by rw [hw]; exact Blk.row HBR1.out _)
  clear hw HS1 HBR1
  refine wpList_q (by rfl) (.bool false) ?he ?_
  case he => (first | rfl | (go_simp; (try with_reducible rfl)))
  (try simp only [Act.put, sA, sB, sC])
  refine wpList_nil ?_
  (try go_wp2_with fail)
  exact bodyPost_ret (results_row2 rfl _ _ w.heap.size 56 #[.int .i64 0, .int .i64 0, .int .i64 0, .int .i64 0, .int .i64 0, .int .i64 0, .int .i64 0, .int .i64 0, .int .i64 0, .int .i64 0] _ (.bool false) rfl rfl HBR2.out Try.underlying56 rfl (by kernel_rfl)) rfl ⟨rfl, HS2.out⟩
set_option maxHeartbeats 4000000 in
theorem atYes (lo t : Nat) (c : CfgV) (ls : List LeaseV) (A : Option Addr) (cap : Nat) (k : Nat) (w : World) (hq : Blk w t 101 (tabC c (.slice A ls.length cap))) (ho : w.ownsRow lo 56 10 (.slice A ls.length cap) ls.length (rowsOf leaC ls)) (hl : ls.length ≤ 10000) (hk : k < ls.length) : Calls Try.prog 77 #[.pointer (some ⟨t, 0, none⟩), .int .i64 (k : Int)] w fun e w' => e = .returned (.tuple #[.agg #[.int .i64 ((ls[k]'hk).se), .int .i64 ((ls[k]'hk).fl), .int .i64 ((ls[k]'hk).fm), .int .i64 ((ls[k]'hk).to), .int .i64 ((ls[k]'hk).ma), .int .i64 ((ls[k]'hk).ca), .int .i64 ((ls[k]'hk).ph), .int .i64 ((ls[k]'hk).un), .int .i64 ((ls[k]'hk).re), .int .i64 ((ls[k]'hk).gr)], .bool true]) ∧ Since w w' := by
  have HBQ := Lib.hid (show Blk w t 101 #[.int .i64 c.ca, .int .i64 c.fl, .int .i64 c.ft, .int .i64 c.se, .int .i64 c.dr, .int .i64 c.dw, .int .i64 c.ho, .int .i64 c.re, .int .i64 c.yi, .int .i64 c.qu, .int .i64 c.qo, .int .i64 c.lo, .int .i64 c.sl, .int .i64 c.rt, .int .i64 c.cp, .int .i64 c.tr, .int .i64 c.de, .int .i64 c.wi, .slice A ls.length cap] from hq)
  clear hq
  have HOW := Lib.hid ho
  clear ho
  have HL := Lib.hid hl
  clear hl
  have HK := Lib.hid hk
  go_enter Try.func77, Try.ntmps77
  go_upto_region 1 with fail
  obtain ⟨w1, hw1⟩ : ∃ w1, w1 = (w.alloc (.cells #[.int .i64 0, .int .i64 0, .int .i64 0, .int .i64 0, .int .i64 0, .int .i64 0, .int .i64 0, .int .i64 0, .int .i64 0, .int .i64 0] 56)) := ⟨_, rfl⟩
  rw [← hw1]
  have HBR1 := Lib.hid (show Blk w1 (w.heap.size) 56 #[.int .i64 0, .int .i64 0, .int .i64 0, .int .i64 0, .int .i64 0, .int .i64 0, .int .i64 0, .int .i64 0, .int .i64 0, .int .i64 0] by rw [hw1]; exact Blk.at_ (by (try simp only [size_alloc])) _ _)
  have HS1 := Lib.hid (show Since w w1 by rw [hw1]; exact Since.alloc (Since.refl w) _)
  have hNE : w.heap.size ≤ w.heap.size := by omega
  have HNE := Lib.hid hNE
  clear hNE hw1
  have HNE3 := Lib.hid (show w.heap.size ≤ w.heap.size from HNE.out)
  clear HNE
  have HNR := Lib.hid (show t ≠ w.heap.size by have := Blk.lt HBQ.out; omega)
  have HIR := Lib.hid (own_far HOW.out (Nat.le_refl _))
  have HIQ := Lib.hid (own_ne_ty HOW.out HBQ.out (by decide))
  have HBQ1 := Lib.hid (keep_blk HS1.out HBQ.out)
  have HOW1 := Lib.hid (keep_own HS1.out HOW.out)
  clear HBQ HOW
  refine wp_region_lit ?_
  refine wpList_q (by rfl) (.int .i64 (k : Int)) ?he ?_
  case he => (first | rfl | (go_simp; (try with_reducible rfl)))
  (try simp only [Act.put, sA, sB, sC])
  refine wpList_q (by rfl) (.bool false) ?he ?_
  case he => (go_simp; (first | done | rfl | omega))
  (try simp only [Act.put, sA, sB, sC])
  refine wpList_nil ?_
  obtain ⟨g, hg⟩ := own_addr HOW1.out (by have := HK.out; omega)
  subst hg
  go_upto_region 3 with fail
  refine wp_region_lit ?_
  refine wpList_q (by rfl) (.pointer (some ⟨t, 0, none⟩)) ?he ?_
  case he => (first | rfl | (go_simp; (try with_reducible rfl)))
  (try simp only [Act.put, sA, sB, sC])
  refine wpList_q (by rfl) (.pointer (some ⟨t, 0, none⟩)) ?he ?_
  case he => (first | rfl | (go_simp; (try with_reducible rfl)))
  (try simp only [Act.put, sA, sB, sC])
  refine wpList_q (by rfl) (.pointer (some ⟨t, 18, none⟩)) ?he ?_
  case he => (first | rfl | (go_simp; (try with_reducible rfl)))
  (try simp only [Act.put, sA, sB, sC])
  refine wpList_q (by rfl) (.slice (some ⟨g, 0, none⟩) ls.length cap) ?he ?_
  case he => exact exec_cell 24 _ _ HBQ1.out rfl rfl rfl Try.underlying24 rfl
  (try simp only [Act.put, sA, sB, sC])
  refine wpList_q (by rfl) (.int .i64 (k : Int)) ?he ?_
  case he => (first | rfl | (go_simp; (try with_reducible rfl)))
  (try simp only [Act.put, sA, sB, sC])
  refine wpList_q (by rfl) (.pointer (some ⟨g, (0 + k * 10), none⟩)) ?he ?_
  case he => exact exec_index (i := k) (s := 10) 24 56 _ _ rfl rfl rfl rfl HK.out Try.underlying24 (by kernel_rfl)
  (try simp only [Act.put, sA, sB, sC])
  refine wpList_q (by rfl) (.agg #[.int .i64 ((ls[k]'HK.out).se), .int .i64 ((ls[k]'HK.out).fl), .int .i64 ((ls[k]'HK.out).fm), .int .i64 ((ls[k]'HK.out).to), .int .i64 ((ls[k]'HK.out).ma), .int .i64 ((ls[k]'HK.out).ca), .int .i64 ((ls[k]'HK.out).ph), .int .i64 ((ls[k]'HK.out).un), .int .i64 ((ls[k]'HK.out).re), .int .i64 ((ls[k]'HK.out).gr)]) ?he ?_
  case he => exact exec_rng (l := leaC (ls[k]'HK.out)) 56 _ _ (by have q := row_at HOW1.out HK.out; simpa only [Nat.zero_add] using q) rfl rfl Try.underlying56 rfl (by kernel_rfl)
  (try simp only [Act.put, sA, sB, sC])
  refine wpList_wp (by rfl) (fun K hK => ?_)
  refine wp_st_row 56 _ _ rfl #[.int .i64 ((ls[k]'HK.out).se), .int .i64 ((ls[k]'HK.out).fl), .int .i64 ((ls[k]'HK.out).fm), .int .i64 ((ls[k]'HK.out).to), .int .i64 ((ls[k]'HK.out).ma), .int .i64 ((ls[k]'HK.out).ca), .int .i64 ((ls[k]'HK.out).ph), .int .i64 ((ls[k]'HK.out).un), .int .i64 ((ls[k]'HK.out).re), .int .i64 ((ls[k]'HK.out).gr)] rfl rfl (HasRow.of HBR1.out rfl) rfl (by simp [Value.oneCell']) (by kernel_rfl) ?_
  intro w2 hw
  refine hK.out _ _ ?_
  clear hK K
  (try simp only [Act.put, sA, sB, sC])
  have HS2 := Lib.hid (show Since w w2 by rw [hw]; exact Since.setRow HS1.out (by have := HNE3.out; omega) _)
  have HBR2 := Lib.hid (show Blk w2 w.heap.size 56 #[.int .i64 ((ls[k]'HK.out).se), .int .i64 ((ls[k]'HK.out).fl), .int .i64 ((ls[k]'HK.out).fm), .int .i64 ((ls[k]'HK.out).to), .int .i64 ((ls[k]'HK.out).ma), .int .i64 ((ls[k]'HK.out).ca), .int .i64 ((ls[k]'HK.out).ph), .int .i64 ((ls[k]'HK.out).un), .int .i64 ((ls[k]'HK.out).re), .int .i64 ((ls[k]'HK.out).gr)] by rw [hw]; exact Blk.row HBR1.out _)
  have HBQ2 := Lib.hid (show Blk w2 t 101 #[.int .i64 c.ca, .int .i64 c.fl, .int .i64 c.ft, .int .i64 c.se, .int .i64 c.dr, .int .i64 c.dw, .int .i64 c.ho, .int .i64 c.re, .int .i64 c.yi, .int .i64 c.qu, .int .i64 c.qo, .int .i64 c.lo, .int .i64 c.sl, .int .i64 c.rt, .int .i64 c.cp, .int .i64 c.tr, .int .i64 c.de, .int .i64 c.wi, .slice (some ⟨g, 0, none⟩) ls.length cap] by rw [hw]; exact Blk.row_far HBQ1.out HNR.out _)
  have HFr_2 := Lib.hid (show (w2).ownsRow lo 56 10 (.slice (some ⟨g, 0, none⟩) ls.length cap) ls.length (rowsOf leaC ls) by rw [hw]; exact own_row_far HOW1.out HIR.out _)
  clear hw HS1 HBR1 HBQ1 HOW1
  refine wpList_q (by rfl) (.bool true) ?he ?_
  case he => (first | rfl | (go_simp; (try with_reducible rfl)))
  (try simp only [Act.put, sA, sB, sC])
  refine wpList_nil ?_
  (try go_wp2_with fail)
  exact bodyPost_ret (results_row2 rfl _ _ w.heap.size 56 #[.int .i64 ((ls[k]'HK.out).se), .int .i64 ((ls[k]'HK.out).fl), .int .i64 ((ls[k]'HK.out).fm), .int .i64 ((ls[k]'HK.out).to), .int .i64 ((ls[k]'HK.out).ma), .int .i64 ((ls[k]'HK.out).ca), .int .i64 ((ls[k]'HK.out).ph), .int .i64 ((ls[k]'HK.out).un), .int .i64 ((ls[k]'HK.out).re), .int .i64 ((ls[k]'HK.out).gr)] _ (.bool true) rfl rfl HBR2.out Try.underlying56 rfl (by kernel_rfl)) rfl ⟨rfl, HS2.out⟩
/-- What Of and Car answer. -/
def atV (ls : List LeaseV) (y : Option Nat) : LeaseV × Bool := match y with | some k => (ls.getD k zeroL, true) | none => (zeroL, false)
theorem atT (lo t : Nat) (c : CfgV) (ls : List LeaseV) (A : Option Addr) (cap : Nat) (p : LeaseV → Bool) (x : LeaseV) (b : Bool) (w : World) (hq : Blk w t 101 (tabC c (.slice A ls.length cap))) (ho : w.ownsRow lo 56 10 (.slice A ls.length cap) ls.length (rowsOf leaC ls)) (hl : ls.length ≤ 10000) (hx : atV ls (atP ls p) = (x, b)) :
    Calls Try.prog 77 #[.pointer (some ⟨t, 0, none⟩), .int .i64 (oI (atP ls p))] w fun e w' => e = .returned (.tuple #[.agg #[.int .i64 x.se, .int .i64 x.fl, .int .i64 x.fm, .int .i64 x.to, .int .i64 x.ma, .int .i64 x.ca, .int .i64 x.ph, .int .i64 x.un, .int .i64 x.re, .int .i64 x.gr], .bool b]) ∧ Since w w' := by
  cases hf : atP ls p with
  | none =>
    rw [hf] at hx
    simp only [atV, Prod.mk.injEq] at hx
    obtain ⟨rfl, rfl⟩ := hx
    exact atNo t w
  | some k =>
    have hk := (atP_some hf).1
    have hg : ls.getD k zeroL = ls[k] := by simp [List.getD, hk]
    rw [hf] at hx
    simp only [atV, Prod.mk.injEq, hg] at hx
    obtain ⟨rfl, rfl⟩ := hx
    exact atYes lo t c ls A cap k w hq ho hl hk
set_option maxHeartbeats 4000000 in
theorem ofFA (lo t : Nat) (c : CfgV) (ls : List LeaseV) (A : Option Addr) (cap : Nat) (s : Int) (x : LeaseV) (b : Bool) (w : World) (hq : Blk w t 101 (tabC c (.slice A ls.length cap))) (ho : w.ownsRow lo 56 10 (.slice A ls.length cap) ls.length (rowsOf leaC ls)) (hl : ls.length ≤ 10000) (hx : atV ls (atP ls (isS s)) = (x, b)) : Calls Try.prog 40 #[.pointer (some ⟨t, 0, none⟩), .int .i64 s] w fun e w' => e = .returned (.tuple #[.agg #[.int .i64 x.se, .int .i64 x.fl, .int .i64 x.fm, .int .i64 x.to, .int .i64 x.ma, .int .i64 x.ca, .int .i64 x.ph, .int .i64 x.un, .int .i64 x.re, .int .i64 x.gr], .bool b]) ∧ Since w w' := by
  have HBQ := Lib.hid (show Blk w t 101 #[.int .i64 c.ca, .int .i64 c.fl, .int .i64 c.ft, .int .i64 c.se, .int .i64 c.dr, .int .i64 c.dw, .int .i64 c.ho, .int .i64 c.re, .int .i64 c.yi, .int .i64 c.qu, .int .i64 c.qo, .int .i64 c.lo, .int .i64 c.sl, .int .i64 c.rt, .int .i64 c.cp, .int .i64 c.tr, .int .i64 c.de, .int .i64 c.wi, .slice A ls.length cap] from hq)
  clear hq
  have HOW := Lib.hid ho
  clear ho
  have HL := Lib.hid hl
  clear hl
  have HX := Lib.hid hx
  clear hx
  go_enter Try.func40, Try.ntmps40
  go_upto_region 1 with fail
  obtain ⟨w1, hw1⟩ : ∃ w1, w1 = (w.alloc (.cells #[.int .i64 0, .int .i64 0, .int .i64 0, .int .i64 0, .int .i64 0, .int .i64 0, .int .i64 0, .int .i64 0, .int .i64 0, .int .i64 0] 56)) := ⟨_, rfl⟩
  rw [← hw1]
  have HBR1 := Lib.hid (show Blk w1 (w.heap.size) 56 #[.int .i64 0, .int .i64 0, .int .i64 0, .int .i64 0, .int .i64 0, .int .i64 0, .int .i64 0, .int .i64 0, .int .i64 0, .int .i64 0] by rw [hw1]; exact Blk.at_ (by (try simp only [size_alloc])) _ _)
  have HS1 := Lib.hid (show Since w w1 by rw [hw1]; exact Since.alloc (Since.refl w) _)
  have hNE : w.heap.size ≤ w.heap.size := by omega
  have HNE := Lib.hid hNE
  clear hNE hw1
  have HNE3 := Lib.hid (show w.heap.size ≤ w.heap.size from HNE.out)
  clear HNE
  have HNR := Lib.hid (show t ≠ w.heap.size by have := Blk.lt HBQ.out; omega)
  have HIR := Lib.hid (show w.heap.size ∉ blkOf A from own_far HOW.out (by omega))
  have HIQ := Lib.hid (own_ne_ty HOW.out HBQ.out (by decide))
  have HBQ1 := Lib.hid (keep_blk HS1.out HBQ.out)
  have HOW1 := Lib.hid (keep_own HS1.out HOW.out)
  clear HBQ HOW
  refine wp_region_lit ?_
  refine wpList_q (by rfl) (.pointer (some ⟨t, 0, none⟩)) ?he ?_
  case he => (first | rfl | (go_simp; (try with_reducible rfl)))
  (try simp only [Act.put, sA, sB, sC])
  refine wpList_q (by rfl) (.pointer (some ⟨t, 0, none⟩)) ?he ?_
  case he => (first | rfl | (go_simp; (try with_reducible rfl)))
  (try simp only [Act.put, sA, sB, sC])
  refine wpList_q (by rfl) (.int .i64 s) ?he ?_
  case he => (first | rfl | (go_simp; (try with_reducible rfl)))
  (try simp only [Act.put, sA, sB, sC])
  refine wpList_wp (by rfl) (fun K hK => ?_)
  (try go_simp)
  refine (ofA lo t c ls A cap s _ HBQ1.out HOW1.out HL.out).mono ?_
  rintro e w2 ⟨rfl, hb⟩
  (try go_wp2_with fail)
  refine hK.out _ _ ?_
  clear hK K
  (try simp only [Act.put, sA, sB, sC])
  have HS2 := Lib.hid (Since.trans HS1.out hb)
  have HBR2 := Lib.hid (keep_blk hb HBR1.out)
  have HBQ2 := Lib.hid (keep_blk hb HBQ1.out)
  have HFr2 := Lib.hid (keep_own hb HOW1.out)
  clear HS1 HBR1 HBQ1 HOW1
  clear hb
  refine wpList_wp (by rfl) (fun K hK => ?_)
  (try go_simp)
  refine (atT lo t c ls A cap (isS s) x b _ HBQ2.out HFr2.out HL.out HX.out).mono ?_
  rintro e w3 ⟨rfl, hb⟩
  (try go_wp2_with fail)
  refine hK.out _ _ ?_
  clear hK K
  (try simp only [Act.put, sA, sB, sC])
  have HS3 := Lib.hid (Since.trans HS2.out hb)
  have HBR3 := Lib.hid (keep_blk hb HBR2.out)
  have HBQ3 := Lib.hid (keep_blk hb HBQ2.out)
  have HFr3 := Lib.hid (keep_own hb HFr2.out)
  clear HS2 HBR2 HBQ2 HFr2
  clear hb
  refine wpList_q (by rfl) (.agg #[.int .i64 x.se, .int .i64 x.fl, .int .i64 x.fm, .int .i64 x.to, .int .i64 x.ma, .int .i64 x.ca, .int .i64 x.ph, .int .i64 x.un, .int .i64 x.re, .int .i64 x.gr]) ?he ?_
  case he => (first | rfl | (go_simp; (try with_reducible rfl)))
  (try simp only [Act.put, sA, sB, sC])
  refine wpList_q (by rfl) (.bool b) ?he ?_
  case he => (first | rfl | (go_simp; (try with_reducible rfl)))
  (try simp only [Act.put, sA, sB, sC])
  refine wpList_wp (by rfl) (fun K hK => ?_)
  refine wp_st_row 56 _ _ rfl #[.int .i64 x.se, .int .i64 x.fl, .int .i64 x.fm, .int .i64 x.to, .int .i64 x.ma, .int .i64 x.ca, .int .i64 x.ph, .int .i64 x.un, .int .i64 x.re, .int .i64 x.gr] rfl rfl (HasRow.of HBR3.out rfl) rfl (by simp [Value.oneCell']) (by kernel_rfl) ?_
  intro w4 hw
  refine hK.out _ _ ?_
  clear hK K
  (try simp only [Act.put, sA, sB, sC])
  have HS4 := Lib.hid (show Since w w4 by rw [hw]; exact Since.setRow HS3.out (by have := HNE3.out; omega) _)
  have HBR4 := Lib.hid (show Blk w4 w.heap.size 56 #[.int .i64 x.se, .int .i64 x.fl, .int .i64 x.fm, .int .i64 x.to, .int .i64 x.ma, .int .i64 x.ca, .int .i64 x.ph, .int .i64 x.un, .int .i64 x.re, .int .i64 x.gr] by rw [hw]; exact Blk.row HBR3.out _)
  have HBQ4 := Lib.hid (show Blk w4 t 101 #[.int .i64 c.ca, .int .i64 c.fl, .int .i64 c.ft, .int .i64 c.se, .int .i64 c.dr, .int .i64 c.dw, .int .i64 c.ho, .int .i64 c.re, .int .i64 c.yi, .int .i64 c.qu, .int .i64 c.qo, .int .i64 c.lo, .int .i64 c.sl, .int .i64 c.rt, .int .i64 c.cp, .int .i64 c.tr, .int .i64 c.de, .int .i64 c.wi, .slice A ls.length cap] by rw [hw]; exact Blk.row_far HBQ3.out HNR.out _)
  have HFr_4 := Lib.hid (show (w4).ownsRow lo 56 10 (.slice A ls.length cap) ls.length (rowsOf leaC ls) by rw [hw]; exact own_row_far HFr3.out HIR.out _)
  clear hw HS3 HBR3 HBQ3 HFr3
  refine wpList_q (by rfl) (.bool b) ?he ?_
  case he => (first | rfl | (go_simp; (try with_reducible rfl)))
  (try simp only [Act.put, sA, sB, sC])
  refine wpList_nil ?_
  (try go_wp2_with fail)
  exact bodyPost_ret (results_row2 rfl _ _ w.heap.size 56 #[.int .i64 x.se, .int .i64 x.fl, .int .i64 x.fm, .int .i64 x.to, .int .i64 x.ma, .int .i64 x.ca, .int .i64 x.ph, .int .i64 x.un, .int .i64 x.re, .int .i64 x.gr] _ (.bool b) rfl rfl HBR4.out Try.underlying56 rfl (by kernel_rfl)) rfl ⟨rfl, HS4.out⟩
theorem ofV (lo t : Nat) (c : CfgV) (ls : List LeaseV) (S : List Nat) (s : Int) (x : LeaseV) (b : Bool) (w : World) (h : TO lo t c ls S w) (hl : ls.length ≤ 10000) (hx : atV ls (atP ls (isS s)) = (x, b)) : Calls Try.prog 40 #[.pointer (some ⟨t, 0, none⟩), .int .i64 s] w fun e w' => e = .returned (.tuple #[.agg #[.int .i64 x.se, .int .i64 x.fl, .int .i64 x.fm, .int .i64 x.to, .int .i64 x.ma, .int .i64 x.ca, .int .i64 x.ph, .int .i64 x.un, .int .i64 x.re, .int .i64 x.gr], .bool b]) ∧ Since w w' := by
  obtain ⟨h0, A, cap, rfl, B, O⟩ := h
  exact ofFA lo t c ls A cap s x b w B O hl hx
set_option maxHeartbeats 4000000 in
theorem carFA (lo t : Nat) (c : CfgV) (ls : List LeaseV) (A : Option Addr) (cap : Nat) (s : Int) (x : LeaseV) (b : Bool) (w : World) (hq : Blk w t 101 (tabC c (.slice A ls.length cap))) (ho : w.ownsRow lo 56 10 (.slice A ls.length cap) ls.length (rowsOf leaC ls)) (hl : ls.length ≤ 10000) (hx : atV ls (atP ls (isC s)) = (x, b)) : Calls Try.prog 41 #[.pointer (some ⟨t, 0, none⟩), .int .i64 s] w fun e w' => e = .returned (.tuple #[.agg #[.int .i64 x.se, .int .i64 x.fl, .int .i64 x.fm, .int .i64 x.to, .int .i64 x.ma, .int .i64 x.ca, .int .i64 x.ph, .int .i64 x.un, .int .i64 x.re, .int .i64 x.gr], .bool b]) ∧ Since w w' := by
  have HBQ := Lib.hid (show Blk w t 101 #[.int .i64 c.ca, .int .i64 c.fl, .int .i64 c.ft, .int .i64 c.se, .int .i64 c.dr, .int .i64 c.dw, .int .i64 c.ho, .int .i64 c.re, .int .i64 c.yi, .int .i64 c.qu, .int .i64 c.qo, .int .i64 c.lo, .int .i64 c.sl, .int .i64 c.rt, .int .i64 c.cp, .int .i64 c.tr, .int .i64 c.de, .int .i64 c.wi, .slice A ls.length cap] from hq)
  clear hq
  have HOW := Lib.hid ho
  clear ho
  have HL := Lib.hid hl
  clear hl
  have HX := Lib.hid hx
  clear hx
  go_enter Try.func41, Try.ntmps41
  go_upto_region 1 with fail
  obtain ⟨w1, hw1⟩ : ∃ w1, w1 = ((w.alloc (.cells #[.int .i64 s] 3)).alloc (.cells #[.int .i64 0, .int .i64 0, .int .i64 0, .int .i64 0, .int .i64 0, .int .i64 0, .int .i64 0, .int .i64 0, .int .i64 0, .int .i64 0] 56)) := ⟨_, rfl⟩
  rw [← hw1]
  have HBB1 := Lib.hid (show Blk w1 (w.heap.size) 3 #[.int .i64 s] by rw [hw1]; exact Blk.alloc (Blk.at_ (by (try simp only [size_alloc])) _ _) _)
  have HBR1 := Lib.hid (show Blk w1 (w.heap.size + 1) 56 #[.int .i64 0, .int .i64 0, .int .i64 0, .int .i64 0, .int .i64 0, .int .i64 0, .int .i64 0, .int .i64 0, .int .i64 0, .int .i64 0] by rw [hw1]; exact Blk.at_ (by (try simp only [size_alloc])) _ _)
  have HS1 := Lib.hid (show Since w w1 by rw [hw1]; exact Since.alloc (Since.alloc (Since.refl w) _) _)
  have hNE : w.heap.size ≤ w.heap.size ∧ w.heap.size < w.heap.size + 1 := by omega
  have HNE := Lib.hid hNE
  clear hNE hw1
  generalize w.heap.size + 1 = bR at *
  have HNE3 := Lib.hid (show w.heap.size ≤ w.heap.size ∧ w.heap.size < bR from HNE.out)
  clear HNE
  have HNR := Lib.hid (show t ≠ bR by have := Blk.lt HBQ.out; have := HNE3.out; omega)
  have HIR := Lib.hid (show bR ∉ blkOf A from own_far HOW.out (by have := HNE3.out; omega))
  have HIQ := Lib.hid (own_ne_ty HOW.out HBQ.out (by decide))
  have HNB := Lib.hid (show t ≠ w.heap.size by have := Blk.lt HBQ.out; omega)
  have HIB := Lib.hid (show w.heap.size ∉ blkOf A from own_far HOW.out (Nat.le_refl _))
  have HBQ1 := Lib.hid (keep_blk HS1.out HBQ.out)
  have HOW1 := Lib.hid (keep_own HS1.out HOW.out)
  clear HBQ HOW
  refine wp_region_lit ?_
  refine wpList_q (by rfl) (.pointer (some ⟨t, 0, none⟩)) ?he ?_
  case he => (first | rfl | (go_simp; (try with_reducible rfl)))
  (try simp only [Act.put, sA, sB, sC])
  refine wpList_q (by rfl) (.pointer (some ⟨t, 0, none⟩)) ?he ?_
  case he => (first | rfl | (go_simp; (try with_reducible rfl)))
  (try simp only [Act.put, sA, sB, sC])
  refine wpList_q (by rfl) (.func (.func 80) #[] #[.pointer (some ⟨w.heap.size, 0, none⟩)]) ?he ?_
  case he => (first | rfl | (go_simp; (try rfl)))
  (try simp only [Act.put, sA, sB, sC])
  refine wpList_wp (by rfl) (fun K hK => ?_)
  (try go_simp)
  refine (findT lo t c ls A cap 80 (.pointer (some ⟨w.heap.size, 0, none⟩)) (isC s) _ HBQ1.out HOW1.out HL.out (fun l w1 hs => car1T w.heap.size s l w1 (keep_blk hs HBB1.out)) (fun args w1 => enterF Try.func80 (by kernel_rfl) rfl args w1)).mono ?_
  rintro e w2 ⟨rfl, hb⟩
  (try go_wp2_with fail)
  refine hK.out _ _ ?_
  clear hK K
  (try simp only [Act.put, sA, sB, sC])
  have HS2 := Lib.hid (Since.trans HS1.out hb)
  have HBB2 := Lib.hid (keep_blk hb HBB1.out)
  have HBR2 := Lib.hid (keep_blk hb HBR1.out)
  have HBQ2 := Lib.hid (keep_blk hb HBQ1.out)
  have HFr2 := Lib.hid (keep_own hb HOW1.out)
  clear HS1 HBB1 HBR1 HBQ1 HOW1
  clear hb
  refine wpList_wp (by rfl) (fun K hK => ?_)
  (try go_simp)
  refine (atT lo t c ls A cap (isC s) x b _ HBQ2.out HFr2.out HL.out HX.out).mono ?_
  rintro e w3 ⟨rfl, hb⟩
  (try go_wp2_with fail)
  refine hK.out _ _ ?_
  clear hK K
  (try simp only [Act.put, sA, sB, sC])
  have HS3 := Lib.hid (Since.trans HS2.out hb)
  have HBB3 := Lib.hid (keep_blk hb HBB2.out)
  have HBR3 := Lib.hid (keep_blk hb HBR2.out)
  have HBQ3 := Lib.hid (keep_blk hb HBQ2.out)
  have HFr3 := Lib.hid (keep_own hb HFr2.out)
  clear HS2 HBB2 HBR2 HBQ2 HFr2
  clear hb
  refine wpList_q (by rfl) (.agg #[.int .i64 x.se, .int .i64 x.fl, .int .i64 x.fm, .int .i64 x.to, .int .i64 x.ma, .int .i64 x.ca, .int .i64 x.ph, .int .i64 x.un, .int .i64 x.re, .int .i64 x.gr]) ?he ?_
  case he => (first | rfl | (go_simp; (try with_reducible rfl)))
  (try simp only [Act.put, sA, sB, sC])
  refine wpList_q (by rfl) (.bool b) ?he ?_
  case he => (first | rfl | (go_simp; (try with_reducible rfl)))
  (try simp only [Act.put, sA, sB, sC])
  refine wpList_wp (by rfl) (fun K hK => ?_)
  refine wp_st_row 56 _ _ rfl #[.int .i64 x.se, .int .i64 x.fl, .int .i64 x.fm, .int .i64 x.to, .int .i64 x.ma, .int .i64 x.ca, .int .i64 x.ph, .int .i64 x.un, .int .i64 x.re, .int .i64 x.gr] rfl rfl (HasRow.of HBR3.out rfl) rfl (by simp [Value.oneCell']) (by kernel_rfl) ?_
  intro w4 hw
  refine hK.out _ _ ?_
  clear hK K
  (try simp only [Act.put, sA, sB, sC])
  have HS4 := Lib.hid (show Since w w4 by rw [hw]; exact Since.setRow HS3.out (by have := HNE3.out; omega) _)
  have HBB4 := Lib.hid (show Blk w4 w.heap.size 3 #[.int .i64 s] by rw [hw]; exact Blk.row_far HBB3.out (by have := HNE3.out; omega) _)
  have HBR4 := Lib.hid (show Blk w4 bR 56 #[.int .i64 x.se, .int .i64 x.fl, .int .i64 x.fm, .int .i64 x.to, .int .i64 x.ma, .int .i64 x.ca, .int .i64 x.ph, .int .i64 x.un, .int .i64 x.re, .int .i64 x.gr] by rw [hw]; exact Blk.row HBR3.out _)
  have HBQ4 := Lib.hid (show Blk w4 t 101 #[.int .i64 c.ca, .int .i64 c.fl, .int .i64 c.ft, .int .i64 c.se, .int .i64 c.dr, .int .i64 c.dw, .int .i64 c.ho, .int .i64 c.re, .int .i64 c.yi, .int .i64 c.qu, .int .i64 c.qo, .int .i64 c.lo, .int .i64 c.sl, .int .i64 c.rt, .int .i64 c.cp, .int .i64 c.tr, .int .i64 c.de, .int .i64 c.wi, .slice A ls.length cap] by rw [hw]; exact Blk.row_far HBQ3.out HNR.out _)
  have HFr_4 := Lib.hid (show (w4).ownsRow lo 56 10 (.slice A ls.length cap) ls.length (rowsOf leaC ls) by rw [hw]; exact own_row_far HFr3.out HIR.out _)
  clear hw HS3 HBB3 HBR3 HBQ3 HFr3
  refine wpList_q (by rfl) (.bool b) ?he ?_
  case he => (first | rfl | (go_simp; (try with_reducible rfl)))
  (try simp only [Act.put, sA, sB, sC])
  refine wpList_nil ?_
  (try go_wp2_with fail)
  exact bodyPost_ret (results_row2 rfl _ _ bR 56 #[.int .i64 x.se, .int .i64 x.fl, .int .i64 x.fm, .int .i64 x.to, .int .i64 x.ma, .int .i64 x.ca, .int .i64 x.ph, .int .i64 x.un, .int .i64 x.re, .int .i64 x.gr] _ (.bool b) rfl rfl HBR4.out Try.underlying56 rfl (by kernel_rfl)) rfl ⟨rfl, HS4.out⟩
theorem carV (lo t : Nat) (c : CfgV) (ls : List LeaseV) (S : List Nat) (s : Int) (x : LeaseV) (b : Bool) (w : World) (h : TO lo t c ls S w) (hl : ls.length ≤ 10000) (hx : atV ls (atP ls (isC s)) = (x, b)) : Calls Try.prog 41 #[.pointer (some ⟨t, 0, none⟩), .int .i64 s] w fun e w' => e = .returned (.tuple #[.agg #[.int .i64 x.se, .int .i64 x.fl, .int .i64 x.fm, .int .i64 x.to, .int .i64 x.ma, .int .i64 x.ca, .int .i64 x.ph, .int .i64 x.un, .int .i64 x.re, .int .i64 x.gr], .bool b]) ∧ Since w w' := by
  obtain ⟨h0, A, cap, rfl, B, O⟩ := h
  exact carFA lo t c ls A cap s x b w B O hl hx
set_option maxHeartbeats 4000000 in
theorem listA (lo t : Nat) (c : CfgV) (ls : List LeaseV) (A : Option Addr) (cap : Nat) (w : World) (hq : Blk w t 101 (tabC c (.slice A ls.length cap))) (ho : w.ownsRow lo 56 10 (.slice A ls.length cap) ls.length (rowsOf leaC ls)) (hl : ls.length ≤ 10000) : Calls Try.prog 39 #[.pointer (some ⟨t, 0, none⟩)] w fun e w' => ∃ A' c', e = .returned (.slice A' ls.length c') ∧ w'.ownsRow w.heap.size 56 10 (.slice A' ls.length c') ls.length (rowsOf leaC ls) ∧ Since w w' := by
  have HBQ := Lib.hid (show Blk w t 101 #[.int .i64 c.ca, .int .i64 c.fl, .int .i64 c.ft, .int .i64 c.se, .int .i64 c.dr, .int .i64 c.dw, .int .i64 c.ho, .int .i64 c.re, .int .i64 c.yi, .int .i64 c.qu, .int .i64 c.qo, .int .i64 c.lo, .int .i64 c.sl, .int .i64 c.rt, .int .i64 c.cp, .int .i64 c.tr, .int .i64 c.de, .int .i64 c.wi, .slice A ls.length cap] from hq)
  clear hq
  have HOW := Lib.hid ho
  clear ho
  have HL := Lib.hid hl
  clear hl
  go_enter Try.func39, Try.ntmps39
  go_upto_region 1 with fail
  have HS1 := Lib.hid (Since.refl w)
  refine wp_region_lit ?_
  refine wpList_q (by rfl) (.pointer (some ⟨t, 0, none⟩)) ?he ?_
  case he => (first | rfl | (go_simp; (try with_reducible rfl)))
  (try simp only [Act.put, sA, sB, sC])
  refine wpList_q (by rfl) (.bool false) ?he ?_
  case he => (first | rfl | (go_simp; (try with_reducible rfl)))
  (try simp only [Act.put, sA, sB, sC])
  refine wpList_nil ?_
  go_upto_region 3 with fail
  refine wp_region_lit ?_
  refine wpList_q (by rfl) (.pointer (some ⟨t, 0, none⟩)) ?he ?_
  case he => (first | rfl | (go_simp; (try with_reducible rfl)))
  (try simp only [Act.put, sA, sB, sC])
  refine wpList_q (by rfl) (.pointer (some ⟨t, 0, none⟩)) ?he ?_
  case he => (first | rfl | (go_simp; (try with_reducible rfl)))
  (try simp only [Act.put, sA, sB, sC])
  refine wpList_q (by rfl) (.pointer (some ⟨t, 18, none⟩)) ?he ?_
  case he => (first | rfl | (go_simp; (try with_reducible rfl)))
  (try simp only [Act.put, sA, sB, sC])
  refine wpList_q (by rfl) (.slice A ls.length cap) ?he ?_
  case he => exact exec_cell 24 _ _ HBQ.out rfl rfl rfl Try.underlying24 rfl
  (try simp only [Act.put, sA, sB, sC])
  refine wpList_wp (by rfl) (fun K hK => ?_)
  (try go_simp)
  refine (cloneT lo A cap ls _ HOW.out (by have := HL.out; omega)).mono ?_
  rintro e w2 ⟨A2, c2, rfl, hown, hb⟩
  (try go_wp2_with fail)
  refine hK.out _ _ ?_
  clear hK K
  (try simp only [Act.put, sA, sB, sC])
  have hown2 := own_base (lo' := w.heap.size) hown (Since.size HS1.out)
  have HS2 := Lib.hid (Since.trans HS1.out hb)
  have HBQ2 := Lib.hid (keep_blk hb HBQ.out)
  have HFr2 := Lib.hid (keep_own hb HOW.out)
  clear HS1 HBQ HOW
  clear hb
  have HCL := Lib.hid hown2
  clear hown hown2
  refine wpList_q (by rfl) (.slice A2 ls.length c2) ?he ?_
  case he => (first | rfl | (go_simp; (try with_reducible rfl)))
  (try simp only [Act.put, sA, sB, sC])
  refine wpList_nil ?_
  (try go_wp2_with fail)
  go_ret
  exact ⟨A2, c2, rfl, HCL.out, HS2.out⟩
theorem listV (lo t : Nat) (c : CfgV) (ls : List LeaseV) (S : List Nat) (w : World) (h : TO lo t c ls S w) (hl : ls.length ≤ 10000) (n : Nat) (hn : ls.length = n) : Calls Try.prog 39 #[.pointer (some ⟨t, 0, none⟩)] w fun e w' => ∃ A' c', e = .returned (.slice A' n c') ∧ w'.ownsRow w.heap.size 56 10 (.slice A' n c') n (rowsOf leaC ls) ∧ Since w w' := by
  subst hn
  obtain ⟨h0, A, cap, rfl, B, O⟩ := h
  exact listA lo t c ls A cap w B O hl
set_option maxHeartbeats 4000000 in
theorem newA (c : CfgV) (w : World) : Calls Try.prog 33 #[.agg #[.int .i64 c.ca, .int .i64 c.fl, .int .i64 c.ft, .int .i64 c.se, .int .i64 c.dr, .int .i64 c.dw, .int .i64 c.ho, .int .i64 c.re, .int .i64 c.yi, .int .i64 c.qu, .int .i64 c.qo, .int .i64 c.lo, .int .i64 c.sl, .int .i64 c.rt, .int .i64 c.cp, .int .i64 c.tr, .int .i64 c.de, .int .i64 c.wi]] w fun e w' => ∃ t, e = .returned (.pointer (some ⟨t, 0, none⟩)) ∧ w.heap.size ≤ t ∧ Blk w' t 101 #[.int .i64 c.ca, .int .i64 c.fl, .int .i64 c.ft, .int .i64 c.se, .int .i64 c.dr, .int .i64 c.dw, .int .i64 c.ho, .int .i64 c.re, .int .i64 c.yi, .int .i64 c.qu, .int .i64 c.qo, .int .i64 c.lo, .int .i64 c.sl, .int .i64 c.rt, .int .i64 c.cp, .int .i64 c.tr, .int .i64 c.de, .int .i64 c.wi, .slice none 0 0] ∧ Since w w' := by
  go_enter Try.func33, Try.ntmps33
  go_upto_region 1 with fail
  obtain ⟨w1, hw1⟩ : ∃ w1, w1 = (w.alloc (.cells #[.int .i64 c.ca, .int .i64 c.fl, .int .i64 c.ft, .int .i64 c.se, .int .i64 c.dr, .int .i64 c.dw, .int .i64 c.ho, .int .i64 c.re, .int .i64 c.yi, .int .i64 c.qu, .int .i64 c.qo, .int .i64 c.lo, .int .i64 c.sl, .int .i64 c.rt, .int .i64 c.cp, .int .i64 c.tr, .int .i64 c.de, .int .i64 c.wi] 23)) := ⟨_, rfl⟩
  rw [← hw1]
  have HBC1 := Lib.hid (show Blk w1 (w.heap.size) 23 #[.int .i64 c.ca, .int .i64 c.fl, .int .i64 c.ft, .int .i64 c.se, .int .i64 c.dr, .int .i64 c.dw, .int .i64 c.ho, .int .i64 c.re, .int .i64 c.yi, .int .i64 c.qu, .int .i64 c.qo, .int .i64 c.lo, .int .i64 c.sl, .int .i64 c.rt, .int .i64 c.cp, .int .i64 c.tr, .int .i64 c.de, .int .i64 c.wi] by rw [hw1]; exact Blk.at_ (by (try simp only [size_alloc])) _ _)
  have HS1 := Lib.hid (show Since w w1 by rw [hw1]; exact Since.alloc (Since.refl w) _)
  have hNE : w.heap.size ≤ w.heap.size := by omega
  have HNE := Lib.hid hNE
  clear hNE hw1
  have HNE3 := Lib.hid (show w.heap.size ≤ w.heap.size from HNE.out)
  clear HNE
  refine wp_region_lit ?_
  refine wpList_q (by rfl) (.agg #[.int .i64 c.ca, .int .i64 c.fl, .int .i64 c.ft, .int .i64 c.se, .int .i64 c.dr, .int .i64 c.dw, .int .i64 c.ho, .int .i64 c.re, .int .i64 c.yi, .int .i64 c.qu, .int .i64 c.qo, .int .i64 c.lo, .int .i64 c.sl, .int .i64 c.rt, .int .i64 c.cp, .int .i64 c.tr, .int .i64 c.de, .int .i64 c.wi]) ?he ?_
  case he => exact exec_load_row 23 _ _ HBC1.out rfl rfl Try.underlying23 rfl (by kernel_rfl)
  (try simp only [Act.put, sA, sB, sC])
  refine wpList_q (by rfl) (.agg #[.int .i64 c.ca, .int .i64 c.fl, .int .i64 c.ft, .int .i64 c.se, .int .i64 c.dr, .int .i64 c.dw, .int .i64 c.ho, .int .i64 c.re, .int .i64 c.yi, .int .i64 c.qu, .int .i64 c.qo, .int .i64 c.lo, .int .i64 c.sl, .int .i64 c.rt, .int .i64 c.cp, .int .i64 c.tr, .int .i64 c.de, .int .i64 c.wi, .slice none 0 0]) ?he ?_
  case he => kernel_rfl
  (try simp only [Act.put, sA, sB, sC])
  refine wpList_wp (by rfl) (fun K hK => ?_)
  refine wp_new (fun b => .pointer (some ⟨b, 0, none⟩)) 101 #[.int .i64 c.ca, .int .i64 c.fl, .int .i64 c.ft, .int .i64 c.se, .int .i64 c.dr, .int .i64 c.dw, .int .i64 c.ho, .int .i64 c.re, .int .i64 c.yi, .int .i64 c.qu, .int .i64 c.qo, .int .i64 c.lo, .int .i64 c.sl, .int .i64 c.rt, .int .i64 c.cp, .int .i64 c.tr, .int .i64 c.de, .int .i64 c.wi, .slice none 0 0] (by rintro b rfl; first | rfl | kernel_rfl) ?_
  intro bn5 w2 hge hB hb
  refine hK.out _ _ ?_
  clear hK K
  (try simp only [Act.put, sA, sB, sC])
  have HNn5C := Lib.hid (show bn5 ≠ w.heap.size by have := Blk.lt HBC1.out; omega)
  have HGn5 := Lib.hid (show w.heap.size ≤ bn5 by have := Since.size HS1.out; omega)
  have HS2 := Lib.hid (Since.trans HS1.out hb)
  have HBC2 := Lib.hid (keep_blk hb HBC1.out)
  clear HS1 HBC1
  clear hb hge
  have HBn52 := Lib.hid hB
  clear hB
  refine wpList_q (by rfl) (.pointer (some ⟨bn5, 0, none⟩)) ?he ?_
  case he => (first | rfl | (go_simp; (try with_reducible rfl)))
  (try simp only [Act.put, sA, sB, sC])
  refine wpList_nil ?_
  (try go_wp2_with fail)
  go_ret
  exact ⟨bn5, rfl, HGn5.out, HBn52.out, HS2.out⟩
theorem newV (lo : Nat) (c : CfgV) (w : World) (hlo : lo ≤ w.heap.size) : Calls Try.prog 33 #[.agg #[.int .i64 c.ca, .int .i64 c.fl, .int .i64 c.ft, .int .i64 c.se, .int .i64 c.dr, .int .i64 c.dw, .int .i64 c.ho, .int .i64 c.re, .int .i64 c.yi, .int .i64 c.qu, .int .i64 c.qo, .int .i64 c.lo, .int .i64 c.sl, .int .i64 c.rt, .int .i64 c.cp, .int .i64 c.tr, .int .i64 c.de, .int .i64 c.wi]] w fun e w' => ∃ t, e = .returned (.pointer (some ⟨t, 0, none⟩)) ∧ TO lo t c [] [t] w' ∧ w.heap.size ≤ t ∧ Since w w' := by
  refine (newA c w).mono ?_
  rintro e w1 ⟨t, rfl, ht, hB, hb⟩
  exact ⟨t, rfl, ⟨by omega, none, 0, rfl, hB, World.ownsRow_nil _ _ _ _⟩, ht, hb⟩
end Go.Proofs.Ytggafipgfgbbiaa.Le
