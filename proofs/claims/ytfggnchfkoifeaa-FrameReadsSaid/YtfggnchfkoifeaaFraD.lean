/-
  a stream's Next: walked.
  Conditions: what stands ahead of each.
-/
import Derived.Defers
import Derived.Test.YtfggnchfkoifeaaProg
import Derived.Test.YtfggnchfkoifeaaFraC
namespace Go.Proofs.Ytfggnchfkoifeaa.Fq
set_option linter.unusedVariables false
set_option linter.unusedSimpArgs false
open Go.RowKit Go.Proofs.Ytfggnchfkoifeaa.Ba Go.Proofs.Ytfggnchfkoifeaa.Mem Go.Proofs.Ytfggnchfkoifeaa.Cm Go.Proofs.Ytfggnchfkoifeaa.Fm
open Go.Proofs.Ytfggnchfkoifeaa.Byt (BV isB cells)
set_option maxRecDepth 100000
attribute [local irreducible] Go.wpList
set_option maxHeartbeats 4000000 in
theorem nextNil (w : World) : Calls Try.prog 20 #[.pointer none] w fun e w' => e = .returned (.tuple #[.slice none 0 0, .bool false]) ∧ Since w w' := by
  go_enter_defers Try.func20, Try.ntmps20
  go_upto_region 1 with fail
  have HS1 := Lib.hid (Since.refl w)
  refine wp_region_lit ?_
  refine wpList_q (by rfl) (.pointer none) ?he ?_
  case he => (first | rfl | (go_simp; (try with_reducible rfl)))
  (try simp only [Act.put, sA, sB, sC])
  refine wpList_q (by rfl) (.bool true) ?he ?_
  case he => (first | rfl | (go_simp; (try with_reducible rfl)))
  (try simp only [Act.put, sA, sB, sC])
  refine wpList_nil ?_
  go_upto_region 2 with fail
  refine wp_region_lit ?_
  refine wpList_q (by rfl) (.slice none 0 0) ?he ?_
  case he => (first | rfl | (go_simp; (try with_reducible rfl)))
  (try simp only [Act.put, sA, sB, sC])
  refine wpList_q (by rfl) (.bool false) ?he ?_
  case he => (first | rfl | (go_simp; (try with_reducible rfl)))
  (try simp only [Act.put, sA, sB, sC])
  refine wpList_nil ?_
  (try go_wp2_with fail)
  (try simp only [Exit.inBlock, Exit.then])
  exact ⟨_, results_tmp2 rfl _ _ _, rfl, HS1.out⟩
set_option maxHeartbeats 4000000 in
theorem nextA (lo s : Nat) (A : Option Addr) (n c tk0 : Nat) (zs xs : List Int) (w : World) (hq : Blk w s 40 #[.slice A n c, .int .i64 ((tk0 : Nat) : Int)]) (ho : w.ownsRow lo 5 1 (.slice A n c) n (cells zs)) (hb : ∀ z ∈ zs, isB z) (ht : tk0 ≤ n) (hn : n ≤ 1000000) (h0 : lo ≤ s) (hx : zs.drop tk0 = xs) : Calls Try.prog 20 #[.pointer (some ⟨s, 0, none⟩)] w (NX lo s n (s :: blkOf A) w (nextF xs)) := by
  have HBQ := Lib.hid hq
  clear hq
  have HOW := Lib.hid ho
  clear ho
  have HB := Lib.hid hb
  clear hb
  have HT := Lib.hid ht
  clear ht
  have HN := Lib.hid hn
  clear hn
  have H0 := Lib.hid h0
  clear h0
  have HX := Lib.hid hx
  clear hx
  go_enter_defers Try.func20, Try.ntmps20
  go_upto_region 1 with fail
  have HS1 := Lib.hid (Upd.refl (s :: blkOf A) w)
  have HLT0 := Lib.hid (show s < w.heap.size from Blk.lt HBQ.out)
  have HIQ := Lib.hid (own_ne_ty HOW.out HBQ.out (by decide))
  have HCP := Lib.hid (own_cap2 HOW.out)
  have HZL := Lib.hid (show zs.length = n by have := HOW.out.1; simpa [cells] using this)
  have HAL := Lib.hid (own_lt HOW.out)
  refine wp_region_lit ?_
  refine wpList_q (by rfl) (.pointer (some ⟨s, 0, none⟩)) ?he ?_
  case he => (first | rfl | (go_simp; (try with_reducible rfl)))
  (try simp only [Act.put, sA, sB, sC])
  refine wpList_q (by rfl) (.bool false) ?he ?_
  case he => (first | rfl | (go_simp; (try with_reducible rfl)))
  (try simp only [Act.put, sA, sB, sC])
  refine wpList_nil ?_
  go_upto_region 3 with fail
  go_wp2_with fail
  go_loopw [4] (fun s4 wr => ∃ (tk : Nat), tk ≤ n ∧ Hid (nextF (zs.drop tk) = nextF xs ∧ Upd (s :: blkOf A) w wr ∧ Blk wr s 40 #[.slice A n c, .int .i64 ((tk : Nat) : Int)] ∧ (wr).ownsRow lo 5 1 (.slice A n c) n (cells zs))) (fun s4 wq => 1000001 - tkOf wq s)
  case atStart => exact ⟨tk0, HT.out, Lib.hid ⟨(by rw [HX.out]), HS1.out, HBQ.out, HOW.out⟩⟩
  case round =>
    obtain ⟨tk, htk, HO⟩ := hrel
    obtain ⟨e0, g0, g1, g2⟩ := HO.out
    clear HO HS1 HBQ HOW
    have HINV := Lib.hid e0
    have HS51 := Lib.hid g0
    have HBQ51 := Lib.hid g1
    have HFr51 := Lib.hid g2
    clear e0 g0 g1 g2
    have HTK := Lib.hid htk; clear htk
    have HM0 := Lib.hid HBQ51.out
    by_cases hcs : tk < n
    rotate_left
    · have HGE := Lib.hid hcs; clear hcs
      go_upto_region 4 with fail
      refine wp_region_lit ?_
      refine wpList_q (by rfl) (.pointer (some ⟨s, 0, none⟩)) ?he ?_
      case he => (first | rfl | (go_simp; (try with_reducible rfl)))
      (try simp only [Act.put, sA, sB, sC])
      refine wpList_wp (by rfl) (fun K hK => ?_)
      (try go_simp)
      refine (heldA s A n c tk _ HBQ51.out HTK.out HN.out).mono ?_
      rintro e w52 ⟨rfl, hb⟩
      (try go_wp2_with fail)
      refine hK.out _ _ ?_
      clear hK K
      (try simp only [Act.put, sA, sB, sC])
      have HS52 := Lib.hid (Upd.trans HS51.out hb)
      have HBQ52 := Lib.hid (keep_blk hb HBQ51.out)
      have HFr52 := Lib.hid (keep_own hb HFr51.out)
      clear HS51 HBQ51 HFr51
      clear hb
      refine wpList_q (by rfl) (.bool false) ?he ?_
      case he => (have q0 := HGE.out; go_simp; (first | done | rfl | omega))
      (try simp only [Act.put, sA, sB, sC])
      refine wpList_nil ?_
      go_upto_region 12 with fail
      refine wp_region_lit ?_
      refine wpList_q (by rfl) (.slice none 0 0) ?he ?_
      case he => (first | rfl | (go_simp; (try with_reducible rfl)))
      (try simp only [Act.put, sA, sB, sC])
      refine wpList_q (by rfl) (.bool false) ?he ?_
      case he => (first | rfl | (go_simp; (try with_reducible rfl)))
      (try simp only [Act.put, sA, sB, sC])
      refine wpList_nil ?_
      have HTK2 := Lib.hid HTK.out
      (try go_wp2_with fail)
      (try simp only [Exit.inBlock, Exit.then])
      refine leaves_cons (f := 25) (args := #[.pointer (some ⟨s, 0, none⟩)]) (by simp) (by simp [go_sem]) ?_
      refine (forgetD lo s A n c tk zs .returning _ HBQ52.out HFr52.out HB.out HTK2.out HN.out H0.out).mono ?_
      rintro e u' wz ⟨rfl, rfl, S', hSO, hU, hfar⟩
      have HU2 := Upd.comp HS52.out hU (fun g h => .inl h)
      have HF2 : ∀ g ∈ S', g ∈ s :: blkOf A ∨ w.heap.size ≤ g := fun g hg => by rcases hfar g hg with h | h; exact .inl h; exact .inr (Nat.le_trans (Upd.size HS52.out) h)
      have HNF := (show nextF xs = (none, zs.drop tk) from by have e : zs.drop tk = [] := List.drop_eq_nil_of_le (by have := HZL.out; have := HGE.out; omega); rw [← HINV.out, e]; rfl)
      exact ⟨_, results_tmp2 rfl _ _ _, by rw [HNF]; exact ⟨S', hSO, HU2, HF2, rfl⟩⟩
    · have HLT := Lib.hid hcs; clear hcs
      go_upto_region 4 with fail
      refine wp_region_lit ?_
      refine wpList_q (by rfl) (.pointer (some ⟨s, 0, none⟩)) ?he ?_
      case he => (first | rfl | (go_simp; (try with_reducible rfl)))
      (try simp only [Act.put, sA, sB, sC])
      refine wpList_wp (by rfl) (fun K hK => ?_)
      (try go_simp)
      refine (heldA s A n c tk _ HBQ51.out HTK.out HN.out).mono ?_
      rintro e w52 ⟨rfl, hb⟩
      (try go_wp2_with fail)
      refine hK.out _ _ ?_
      clear hK K
      (try simp only [Act.put, sA, sB, sC])
      have HS52 := Lib.hid (Upd.trans HS51.out hb)
      have HBQ52 := Lib.hid (keep_blk hb HBQ51.out)
      have HFr52 := Lib.hid (keep_own hb HFr51.out)
      clear HS51 HBQ51 HFr51
      clear hb
      refine wpList_q (by rfl) (.bool true) ?he ?_
      case he => (have q0 := HLT.out; go_simp; (first | done | rfl | omega))
      (try simp only [Act.put, sA, sB, sC])
      refine wpList_nil ?_
      obtain ⟨gb, hg⟩ := own_addr HFr52.out (by have := HLT.out; omega)
      subst hg
      obtain ⟨x, r, hxr⟩ : ∃ x r, zs.drop tk = x :: r := ⟨_, _, List.drop_eq_getElem_cons (by have := HLT.out; have := HZL.out; omega)⟩
      have HXR := Lib.hid hxr; clear hxr
      have HBV := Lib.hid (show BV w52 (some ⟨gb, tk, none⟩) (n - tk) (x :: r) by have q := bv_drop (BV.of_own HFr52.out HB.out) HTK.out HCP.out; rw [cutA_some (by have := HLT.out; have := HCP.out; omega), HXR.out, Nat.zero_add] at q; exact q)
      have HRL := Lib.hid (show r.length + 1 = n - tk from HBV.out.1)
      have HCC := Lib.hid (show n - tk ≤ c - tk by have := HCP.out; omega)
      have HNN := Lib.hid (show n - tk ≤ 1000000 by have := HN.out; omega)
      have HDR := Lib.hid (show zs.drop (tk + 1) = r by rw [← List.drop_drop, HXR.out]; rfl)
      by_cases hcs : x = 165
      rotate_left
      · have H1 := Lib.hid hcs; clear hcs
        go_upto_region 5 with fail
        have hrK : ∀ W W' : World, Since W W' → (Upd (s :: blkOf (some ⟨gb, 0, none⟩)) w W ∧ Blk W s 40 #[.slice (some ⟨gb, 0, none⟩) n c, .int .i64 ((tk : Nat) : Int)] ∧ (W).ownsRow lo 5 1 (.slice (some ⟨gb, 0, none⟩) n c) n (cells zs) ∧ BV W (some ⟨gb, tk, none⟩) (n - tk) (x :: r)) → (Upd (s :: blkOf (some ⟨gb, 0, none⟩)) w W' ∧ Blk W' s 40 #[.slice (some ⟨gb, 0, none⟩) n c, .int .i64 ((tk : Nat) : Int)] ∧ (W').ownsRow lo 5 1 (.slice (some ⟨gb, 0, none⟩) n c) n (cells zs) ∧ BV W' (some ⟨gb, tk, none⟩) (n - tk) (x :: r)) := fun W W' k ⟨h, h0, h1, h2⟩ => ⟨h.trans k, keep_blk k h0, keep_own k h1, keep_bv k h2⟩
        have hrS : (fun W : World => Upd (s :: blkOf (some ⟨gb, 0, none⟩)) w W ∧ Blk W s 40 #[.slice (some ⟨gb, 0, none⟩) n c, .int .i64 ((tk : Nat) : Int)] ∧ (W).ownsRow lo 5 1 (.slice (some ⟨gb, 0, none⟩) n c) n (cells zs) ∧ BV W (some ⟨gb, tk, none⟩) (n - tk) (x :: r)) w52 := ⟨HS52.out, HBQ52.out, HFr52.out, HBV.out⟩
        have HRK := Lib.hid hrK
        have HRD := Lib.hid (show (fun W : World => Upd (s :: blkOf (some ⟨gb, 0, none⟩)) w W ∧ Blk W s 40 #[.slice (some ⟨gb, 0, none⟩) n c, .int .i64 ((tk : Nat) : Int)] ∧ (W).ownsRow lo 5 1 (.slice (some ⟨gb, 0, none⟩) n c) n (cells zs) ∧ BV W (some ⟨gb, tk, none⟩) (n - tk) (x :: r)) (World.drew w52) from ⟨Upd.drew hrS.1, hrS.2⟩)
        clear hrK hrS
        refine wp_region_noPanic ?_
        refine wp_region_held_drew (S := fun W : World => Upd (s :: blkOf (some ⟨gb, 0, none⟩)) w W ∧ Blk W s 40 #[.slice (some ⟨gb, 0, none⟩) n c, .int .i64 ((tk : Nat) : Int)] ∧ (W).ownsRow lo 5 1 (.slice (some ⟨gb, 0, none⟩) n c) n (cells zs) ∧ BV W (some ⟨gb, tk, none⟩) (n - tk) (x :: r)) (by kernel_rfl) HRD.out (fun hHeld => ?_)
        refine wpAnyH_take (i := 0) (oi := ?o5__0) (v := .pointer (some ⟨s, 0, none⟩)) ?h5__0 (by kernel_rfl) (by kernel_rfl) (by kernel_rfl) ?q5__0 ?y5__0 (by assumption) ?_
        case h5__0 => (first | (simp only [gA, gB, gC]; done) | (simp only [gA, gB, gC]; exact rfl))
        case q5__0 => exact fun _ _ _ h => h
        case y5__0 => (refine Or.inl ⟨rfl, ?_⟩; intro w hSw; (first | rfl | (go_simp; (try with_reducible rfl))))
        (try simp only [Act.put, sA, sB, sC])
        refine wpAnyH_take (i := 1) (oi := ?o5__1) (v := .pointer (some ⟨s, 0, none⟩)) ?h5__1 (by kernel_rfl) (by kernel_rfl) (by kernel_rfl) ?q5__1 ?y5__1 (by assumption) ?_
        case h5__1 => (first | (simp only [gA, gB, gC]; done) | (simp only [gA, gB, gC]; exact rfl))
        case q5__1 => exact fun _ _ _ h => h
        case y5__1 => (refine Or.inl ⟨rfl, ?_⟩; intro w hSw; (first | rfl | (go_simp; (try with_reducible rfl))))
        (try simp only [Act.put, sA, sB, sC])
        refine wpAnyH_take (i := 2) (oi := ?o5__2) (v := .pointer (some ⟨s, 0, none⟩)) ?h5__2 (by kernel_rfl) (by kernel_rfl) (by kernel_rfl) ?q5__2 ?y5__2 (by assumption) ?_
        case h5__2 => (first | (simp only [gA, gB, gC]; done) | (simp only [gA, gB, gC]; exact rfl))
        case q5__2 => exact fun _ _ _ h => h
        case y5__2 => (refine Or.inl ⟨rfl, ?_⟩; intro w hSw; (first | rfl | (go_simp; (try with_reducible rfl))))
        (try simp only [Act.put, sA, sB, sC])
        refine wpAnyH_take (i := 3) (oi := ?o5__3) (v := .slice (some ⟨gb, 0, none⟩) n c) ?h5__3 (by kernel_rfl) (by kernel_rfl) (by kernel_rfl) ?q5__3 ?y5__3 (by assumption) ?_
        case h5__3 => (first | (simp only [gA, gB, gC]; done) | (simp only [gA, gB, gC]; exact rfl))
        case q5__3 => exact fun _ _ _ h => h
        case y5__3 => (refine Or.inl ⟨rfl, ?_⟩; intro w hSw; exact exec_cell 22 _ _ hSw.2.1 rfl rfl rfl Try.underlying22 rfl)
        (try simp only [Act.put, sA, sB, sC])
        refine wpAnyH_take (i := 4) (oi := ?o5__4) (v := .pointer (some ⟨s, 0, none⟩)) ?h5__4 (by kernel_rfl) (by kernel_rfl) (by kernel_rfl) ?q5__4 ?y5__4 (by assumption) ?_
        case h5__4 => (first | (simp only [gA, gB, gC]; done) | (simp only [gA, gB, gC]; exact rfl))
        case q5__4 => exact fun _ _ _ h => h
        case y5__4 => (refine Or.inl ⟨rfl, ?_⟩; intro w hSw; (first | rfl | (go_simp; (try with_reducible rfl))))
        (try simp only [Act.put, sA, sB, sC])
        refine wpAnyH_take (i := 5) (oi := ?o5__5) (v := .pointer (some ⟨s, 0, none⟩)) ?h5__5 (by kernel_rfl) (by kernel_rfl) (by kernel_rfl) ?q5__5 ?y5__5 (by assumption) ?_
        case h5__5 => (first | (simp only [gA, gB, gC]; done) | (simp only [gA, gB, gC]; exact rfl))
        case q5__5 => exact fun _ _ _ h => h
        case y5__5 => (refine Or.inl ⟨rfl, ?_⟩; intro w hSw; (first | rfl | (go_simp; (try with_reducible rfl))))
        (try simp only [Act.put, sA, sB, sC])
        refine wpAnyH_take (i := 6) (oi := ?o5__6) (v := .pointer (some ⟨s, 1, none⟩)) ?h5__6 (by kernel_rfl) (by kernel_rfl) (by kernel_rfl) ?q5__6 ?y5__6 (by assumption) ?_
        case h5__6 => (first | (simp only [gA, gB, gC]; done) | (simp only [gA, gB, gC]; exact rfl))
        case q5__6 => exact fun _ _ _ h => h
        case y5__6 => (refine Or.inl ⟨rfl, ?_⟩; intro w hSw; (first | rfl | (go_simp; (try with_reducible rfl))))
        (try simp only [Act.put, sA, sB, sC])
        refine wpAnyH_take (i := 7) (oi := ?o5__7) (v := .int .i64 ((tk : Nat) : Int)) ?h5__7 (by kernel_rfl) (by kernel_rfl) (by kernel_rfl) ?q5__7 ?y5__7 (by assumption) ?_
        case h5__7 => (first | (simp only [gA, gB, gC]; done) | (simp only [gA, gB, gC]; exact rfl))
        case q5__7 => exact fun _ _ _ h => h
        case y5__7 => (refine Or.inl ⟨rfl, ?_⟩; intro w hSw; exact exec_cell 3 _ _ hSw.2.1 rfl rfl rfl Try.underlying3 rfl)
        (try simp only [Act.put, sA, sB, sC])
        refine wpAnyH_take (i := 8) (oi := ?o5__8) (v := .slice (some ⟨gb, tk, none⟩) (n - tk) (c - tk)) ?h5__8 (by kernel_rfl) (by kernel_rfl) (by kernel_rfl) ?q5__8 ?y5__8 (by assumption) ?_
        case h5__8 => (first | (simp only [gA, gB, gC]; done) | (simp only [gA, gB, gC]; exact rfl))
        case q5__8 => exact fun _ _ _ h => h
        case y5__8 => (refine Or.inl ⟨rfl, ?_⟩; intro w hSw; exact exec_slice (s := 1) 22 5 _ _ _ _ rfl rfl Try.underlying22 (by kernel_rfl) (sb_l _ _ (l := tk) rfl HTK.out) (by have := HLT.out; have := HCP.out; rw [if_neg (by omega)]; simp [Go.WideShapes.add_plain]) rfl rfl)
        (try simp only [Act.put, sA, sB, sC])
        refine wpAnyH_ready (rs := [9]) (by kernel_rfl) (by simp) ?_
        refine AllReadyH.cons (o := ?o5__9) ?h5__9 (fun K hK => ?_) AllReadyH.nil
        case h5__9 => (first | (simp only [gA, gB, gC]; done) | (simp only [gA, gB, gC]; exact rfl))
        (try go_simp)
        refine (firstF1 gb tk (n - tk) (c - tk) x r _ (hHeld.2.2.2) HCC.out HNN.out H1.out).mono ?_
        rintro e w53 ⟨rfl, hb⟩
        (try go_wp2_with fail)
        refine hK.out _ _ (by (apply HRK.out; exact hb; exact hHeld)) (fun hHeld2 => ?_)
        clear hK K hHeld hb
        have hHeld := hHeld2
        clear hHeld2
        (try simp only [Act.put, sA, sB, sC])
        refine wpAnyH_take (i := 10) (oi := ?o5__10) (v := .tuple #[.slice none 0 0, .bool true]) ?h5__10 (by kernel_rfl) (by kernel_rfl) (by kernel_rfl) ?q5__10 ?y5__10 (by assumption) ?_
        case h5__10 => (first | (simp only [gA, gB, gC]; done) | (simp only [gA, gB, gC]; exact rfl))
        case q5__10 => exact fun _ _ _ h => h
        case y5__10 => (refine Or.inl ⟨rfl, ?_⟩; intro w hSw; (first | rfl | (go_simp; (try with_reducible rfl))))
        (try simp only [Act.put, sA, sB, sC])
        refine wpAnyH_take (i := 11) (oi := ?o5__11) (v := .slice none 0 0) ?h5__11 (by kernel_rfl) (by kernel_rfl) (by kernel_rfl) ?q5__11 ?y5__11 (by assumption) ?_
        case h5__11 => (first | (simp only [gA, gB, gC]; done) | (simp only [gA, gB, gC]; exact rfl))
        case q5__11 => exact fun _ _ _ h => h
        case y5__11 => (refine Or.inl ⟨rfl, ?_⟩; intro w hSw; (first | rfl | (go_simp; (try with_reducible rfl))))
        (try simp only [Act.put, sA, sB, sC])
        refine wpAnyH_take (i := 12) (oi := ?o5__12) (v := .bool true) ?h5__12 (by kernel_rfl) (by kernel_rfl) (by kernel_rfl) ?q5__12 ?y5__12 (by assumption) ?_
        case h5__12 => (first | (simp only [gA, gB, gC]; done) | (simp only [gA, gB, gC]; exact rfl))
        case q5__12 => exact fun _ _ _ h => h
        case y5__12 => (refine Or.inl ⟨rfl, ?_⟩; intro w hSw; (first | rfl | (go_simp; (try with_reducible rfl))))
        (try simp only [Act.put, sA, sB, sC])
        refine wpAnyH_take (i := 13) (oi := ?o5__13) (v := .slice none 0 0) ?h5__13 (by kernel_rfl) (by kernel_rfl) (by kernel_rfl) ?q5__13 ?y5__13 (by assumption) ?_
        case h5__13 => (first | (simp only [gA, gB, gC]; done) | (simp only [gA, gB, gC]; exact rfl))
        case q5__13 => exact fun _ _ _ h => h
        case y5__13 => (refine Or.inl ⟨rfl, ?_⟩; intro w hSw; (first | rfl | (go_simp; (try with_reducible rfl))))
        (try simp only [Act.put, sA, sB, sC])
        refine wpAnyH_take (i := 14) (oi := ?o5__14) (v := .bool true) ?h5__14 (by kernel_rfl) (by kernel_rfl) (by kernel_rfl) ?q5__14 ?y5__14 (by assumption) ?_
        case h5__14 => (first | (simp only [gA, gB, gC]; done) | (simp only [gA, gB, gC]; exact rfl))
        case q5__14 => exact fun _ _ _ h => h
        case y5__14 => (refine Or.inl ⟨rfl, ?_⟩; intro w hSw; (first | rfl | (go_simp; (try with_reducible rfl))))
        (try simp only [Act.put, sA, sB, sC])
        refine wpAnyH_done (by kernel_rfl) ?_ _
        refine NoPanic.normal ?_
        have HSd5 := Lib.hid hHeld.1
        have HBQd5 := Lib.hid (hHeld.2.1)
        have HFrd5 := Lib.hid (hHeld.2.2.1)
        have HFbvd5 := Lib.hid (hHeld.2.2.2)
        clear hHeld HRK HRD HS52 HBQ52 HFr52 HBV
        go_upto_region 6 with fail
        refine wp_region_lit ?_
        refine wpList_q (by rfl) (.bool true) ?he ?_
        case he => (first | rfl | (go_simp; (try with_reducible rfl)))
        (try simp only [Act.put, sA, sB, sC])
        refine wpList_q (by rfl) (.bool false) ?he ?_
        case he => (go_simp; (try with_reducible rfl))
        (try simp only [Act.put, sA, sB, sC])
        refine wpList_nil ?_
        go_upto_region 8 with fail
        refine wp_region_lit ?_
        refine wpList_q (by rfl) (.slice none 0 0) ?he ?_
        case he => (first | rfl | (go_simp; (try with_reducible rfl)))
        (try simp only [Act.put, sA, sB, sC])
        refine wpList_q (by rfl) (.bool true) ?he ?_
        case he => (first | rfl | (go_simp; (try with_reducible rfl)))
        (try simp only [Act.put, sA, sB, sC])
        refine wpList_nil ?_
        go_upto_region 9 with fail
        refine wp_region_lit ?_
        refine wpList_q (by rfl) (.pointer (some ⟨s, 0, none⟩)) ?he ?_
        case he => (first | rfl | (go_simp; (try with_reducible rfl)))
        (try simp only [Act.put, sA, sB, sC])
        refine wpList_q (by rfl) (.pointer (some ⟨s, 0, none⟩)) ?he ?_
        case he => (first | rfl | (go_simp; (try with_reducible rfl)))
        (try simp only [Act.put, sA, sB, sC])
        refine wpList_q (by rfl) (.pointer (some ⟨s, 1, none⟩)) ?he ?_
        case he => (first | rfl | (go_simp; (try with_reducible rfl)))
        (try simp only [Act.put, sA, sB, sC])
        refine wpList_q (by rfl) (.int .i64 ((tk : Nat) : Int)) ?he ?_
        case he => exact exec_cell 3 _ _ HBQd5.out rfl rfl rfl Try.underlying3 rfl
        (try simp only [Act.put, sA, sB, sC])
        refine wpList_q (by rfl) (.int .i64 ((tk + 1 : Nat) : Int)) ?he ?_
        case he => (go_simp; (first | done | (have q := HLT.out; have q1 := HN.out; rw [wr64 _ (by omega) (by omega)]; push_cast; rfl) | (have q := HLT.out; have q1 := HN.out; exact wr64 _ (by omega) (by omega))))
        (try simp only [Act.put, sA, sB, sC])
        refine wpList_q (by rfl) (.pointer (some ⟨s, 0, none⟩)) ?he ?_
        case he => (first | rfl | (go_simp; (try with_reducible rfl)))
        (try simp only [Act.put, sA, sB, sC])
        refine wpList_q (by rfl) (.pointer (some ⟨s, 1, none⟩)) ?he ?_
        case he => (first | rfl | (go_simp; (try with_reducible rfl)))
        (try simp only [Act.put, sA, sB, sC])
        refine wpList_wp (by rfl) (fun K hK => ?_)
        refine wp_st_cell 3 _ _ rfl #[.slice (some ⟨gb, 0, none⟩) n c, .int .i64 ((tk + 1 : Nat) : Int)] (.int .i64 ((tk + 1 : Nat) : Int)) rfl rfl HBQd5.out (by show 1 < 2; decide) rfl (by first | rfl | simp [Value.oneCell']) (by kernel_rfl) ?_
        intro w54 hw
        refine hK.out _ _ ?_
        clear hK K
        (try simp only [Act.put, sA, sB, sC])
        have HS54 := Lib.hid (show Upd (s :: blkOf (some ⟨gb, 0, none⟩)) w w54 by rw [hw]; exact Upd.setRow HSd5.out (.inl (by simp)) _)
        have HBQ54 := Lib.hid (show Blk w54 s 40 #[.slice (some ⟨gb, 0, none⟩) n c, .int .i64 ((tk + 1 : Nat) : Int)] by rw [hw]; exact Blk.row HBQd5.out _)
        have HFr_54 := Lib.hid (show (w54).ownsRow lo 5 1 (.slice (some ⟨gb, 0, none⟩) n c) n (cells zs) by rw [hw]; exact own_row_far HFrd5.out HIQ.out _)
        clear hw HSd5 HBQd5 HFrd5
        refine wpList_nil ?_
        go_wp2_with fail
        go_roundw
        case rel => exact ⟨tk + 1, by have := HLT.out; omega, Lib.hid ⟨by rw [HDR.out, ← HINV.out, HXR.out]; exact (nx1 H1.out).symm, HS54.out, HBQ54.out, HFr_54.out⟩⟩
        case measure => rw [tkOf_blk HBQ54.out, tkOf_blk HM0.out]; have := HLT.out; have := HN.out; omega
      · subst hcs
        have H1 := Lib.hid (rfl : (165 : Int) = 165)
        by_cases hcs : n - tk < 2
        rotate_left
        · have H2 := Lib.hid hcs; clear hcs
          have HRN := Lib.hid (show r ≠ [] from fun e => by have q1 := H2.out; have q2 := HRL.out; rw [e] at q2; simp at q2; omega)
          have HKB := Lib.hid (show 0 ≤ r.getD 0 0 by have q := getD_isB (zs := r) (fun y hy => HBV.out.2.2.1 y (List.mem_cons_of_mem _ hy)) 0; unfold isB at q; omega)
          by_cases hcs : okN (r.getD 0 0) = false
          rotate_left
          · have H3N := Lib.hid hcs; clear hcs
            obtain ⟨k, hk⟩ : ∃ k : Nat, r.getD 0 0 = (k : Int) := ⟨(r.getD 0 0).toNat, by have q := HKB.out; omega⟩
            have HK := Lib.hid hk; clear hk
            have H3 := Lib.hid (show okN (k : Int) = true by have q := H3N.out; rw [HK.out] at q; cases h : okN (k : Int); exact absurd h q; rfl)
            clear H3N
            by_cases hcs : n - tk < k + 6
            rotate_left
            · have H4 := Lib.hid hcs; clear hcs
              by_cases hcs : (165 :: r).take (k + 2) ++ be4 (crcN ((165 :: r).take (k + 2))) = (165 :: r).take (k + 6)
              rotate_left
              · have H5 := Lib.hid hcs; clear hcs
                go_upto_region 5 with fail
                have hrK : ∀ W W' : World, Since W W' → (Upd (s :: blkOf (some ⟨gb, 0, none⟩)) w W ∧ Blk W s 40 #[.slice (some ⟨gb, 0, none⟩) n c, .int .i64 ((tk : Nat) : Int)] ∧ (W).ownsRow lo 5 1 (.slice (some ⟨gb, 0, none⟩) n c) n (cells zs) ∧ BV W (some ⟨gb, tk, none⟩) (n - tk) (165 :: r)) → (Upd (s :: blkOf (some ⟨gb, 0, none⟩)) w W' ∧ Blk W' s 40 #[.slice (some ⟨gb, 0, none⟩) n c, .int .i64 ((tk : Nat) : Int)] ∧ (W').ownsRow lo 5 1 (.slice (some ⟨gb, 0, none⟩) n c) n (cells zs) ∧ BV W' (some ⟨gb, tk, none⟩) (n - tk) (165 :: r)) := fun W W' k ⟨h, h0, h1, h2⟩ => ⟨h.trans k, keep_blk k h0, keep_own k h1, keep_bv k h2⟩
                have hrS : (fun W : World => Upd (s :: blkOf (some ⟨gb, 0, none⟩)) w W ∧ Blk W s 40 #[.slice (some ⟨gb, 0, none⟩) n c, .int .i64 ((tk : Nat) : Int)] ∧ (W).ownsRow lo 5 1 (.slice (some ⟨gb, 0, none⟩) n c) n (cells zs) ∧ BV W (some ⟨gb, tk, none⟩) (n - tk) (165 :: r)) w52 := ⟨HS52.out, HBQ52.out, HFr52.out, HBV.out⟩
                have HRK := Lib.hid hrK
                have HRD := Lib.hid (show (fun W : World => Upd (s :: blkOf (some ⟨gb, 0, none⟩)) w W ∧ Blk W s 40 #[.slice (some ⟨gb, 0, none⟩) n c, .int .i64 ((tk : Nat) : Int)] ∧ (W).ownsRow lo 5 1 (.slice (some ⟨gb, 0, none⟩) n c) n (cells zs) ∧ BV W (some ⟨gb, tk, none⟩) (n - tk) (165 :: r)) (World.drew w52) from ⟨Upd.drew hrS.1, hrS.2⟩)
                clear hrK hrS
                refine wp_region_noPanic ?_
                refine wp_region_held_drew (S := fun W : World => Upd (s :: blkOf (some ⟨gb, 0, none⟩)) w W ∧ Blk W s 40 #[.slice (some ⟨gb, 0, none⟩) n c, .int .i64 ((tk : Nat) : Int)] ∧ (W).ownsRow lo 5 1 (.slice (some ⟨gb, 0, none⟩) n c) n (cells zs) ∧ BV W (some ⟨gb, tk, none⟩) (n - tk) (165 :: r)) (by kernel_rfl) HRD.out (fun hHeld => ?_)
                refine wpAnyH_take (i := 0) (oi := ?o5__0) (v := .pointer (some ⟨s, 0, none⟩)) ?h5__0 (by kernel_rfl) (by kernel_rfl) (by kernel_rfl) ?q5__0 ?y5__0 (by assumption) ?_
                case h5__0 => (first | (simp only [gA, gB, gC]; done) | (simp only [gA, gB, gC]; exact rfl))
                case q5__0 => exact fun _ _ _ h => h
                case y5__0 => (refine Or.inl ⟨rfl, ?_⟩; intro w hSw; (first | rfl | (go_simp; (try with_reducible rfl))))
                (try simp only [Act.put, sA, sB, sC])
                refine wpAnyH_take (i := 1) (oi := ?o5__1) (v := .pointer (some ⟨s, 0, none⟩)) ?h5__1 (by kernel_rfl) (by kernel_rfl) (by kernel_rfl) ?q5__1 ?y5__1 (by assumption) ?_
                case h5__1 => (first | (simp only [gA, gB, gC]; done) | (simp only [gA, gB, gC]; exact rfl))
                case q5__1 => exact fun _ _ _ h => h
                case y5__1 => (refine Or.inl ⟨rfl, ?_⟩; intro w hSw; (first | rfl | (go_simp; (try with_reducible rfl))))
                (try simp only [Act.put, sA, sB, sC])
                refine wpAnyH_take (i := 2) (oi := ?o5__2) (v := .pointer (some ⟨s, 0, none⟩)) ?h5__2 (by kernel_rfl) (by kernel_rfl) (by kernel_rfl) ?q5__2 ?y5__2 (by assumption) ?_
                case h5__2 => (first | (simp only [gA, gB, gC]; done) | (simp only [gA, gB, gC]; exact rfl))
                case q5__2 => exact fun _ _ _ h => h
                case y5__2 => (refine Or.inl ⟨rfl, ?_⟩; intro w hSw; (first | rfl | (go_simp; (try with_reducible rfl))))
                (try simp only [Act.put, sA, sB, sC])
                refine wpAnyH_take (i := 3) (oi := ?o5__3) (v := .slice (some ⟨gb, 0, none⟩) n c) ?h5__3 (by kernel_rfl) (by kernel_rfl) (by kernel_rfl) ?q5__3 ?y5__3 (by assumption) ?_
                case h5__3 => (first | (simp only [gA, gB, gC]; done) | (simp only [gA, gB, gC]; exact rfl))
                case q5__3 => exact fun _ _ _ h => h
                case y5__3 => (refine Or.inl ⟨rfl, ?_⟩; intro w hSw; exact exec_cell 22 _ _ hSw.2.1 rfl rfl rfl Try.underlying22 rfl)
                (try simp only [Act.put, sA, sB, sC])
                refine wpAnyH_take (i := 4) (oi := ?o5__4) (v := .pointer (some ⟨s, 0, none⟩)) ?h5__4 (by kernel_rfl) (by kernel_rfl) (by kernel_rfl) ?q5__4 ?y5__4 (by assumption) ?_
                case h5__4 => (first | (simp only [gA, gB, gC]; done) | (simp only [gA, gB, gC]; exact rfl))
                case q5__4 => exact fun _ _ _ h => h
                case y5__4 => (refine Or.inl ⟨rfl, ?_⟩; intro w hSw; (first | rfl | (go_simp; (try with_reducible rfl))))
                (try simp only [Act.put, sA, sB, sC])
                refine wpAnyH_take (i := 5) (oi := ?o5__5) (v := .pointer (some ⟨s, 0, none⟩)) ?h5__5 (by kernel_rfl) (by kernel_rfl) (by kernel_rfl) ?q5__5 ?y5__5 (by assumption) ?_
                case h5__5 => (first | (simp only [gA, gB, gC]; done) | (simp only [gA, gB, gC]; exact rfl))
                case q5__5 => exact fun _ _ _ h => h
                case y5__5 => (refine Or.inl ⟨rfl, ?_⟩; intro w hSw; (first | rfl | (go_simp; (try with_reducible rfl))))
                (try simp only [Act.put, sA, sB, sC])
                refine wpAnyH_take (i := 6) (oi := ?o5__6) (v := .pointer (some ⟨s, 1, none⟩)) ?h5__6 (by kernel_rfl) (by kernel_rfl) (by kernel_rfl) ?q5__6 ?y5__6 (by assumption) ?_
                case h5__6 => (first | (simp only [gA, gB, gC]; done) | (simp only [gA, gB, gC]; exact rfl))
                case q5__6 => exact fun _ _ _ h => h
                case y5__6 => (refine Or.inl ⟨rfl, ?_⟩; intro w hSw; (first | rfl | (go_simp; (try with_reducible rfl))))
                (try simp only [Act.put, sA, sB, sC])
                refine wpAnyH_take (i := 7) (oi := ?o5__7) (v := .int .i64 ((tk : Nat) : Int)) ?h5__7 (by kernel_rfl) (by kernel_rfl) (by kernel_rfl) ?q5__7 ?y5__7 (by assumption) ?_
                case h5__7 => (first | (simp only [gA, gB, gC]; done) | (simp only [gA, gB, gC]; exact rfl))
                case q5__7 => exact fun _ _ _ h => h
                case y5__7 => (refine Or.inl ⟨rfl, ?_⟩; intro w hSw; exact exec_cell 3 _ _ hSw.2.1 rfl rfl rfl Try.underlying3 rfl)
                (try simp only [Act.put, sA, sB, sC])
                refine wpAnyH_take (i := 8) (oi := ?o5__8) (v := .slice (some ⟨gb, tk, none⟩) (n - tk) (c - tk)) ?h5__8 (by kernel_rfl) (by kernel_rfl) (by kernel_rfl) ?q5__8 ?y5__8 (by assumption) ?_
                case h5__8 => (first | (simp only [gA, gB, gC]; done) | (simp only [gA, gB, gC]; exact rfl))
                case q5__8 => exact fun _ _ _ h => h
                case y5__8 => (refine Or.inl ⟨rfl, ?_⟩; intro w hSw; exact exec_slice (s := 1) 22 5 _ _ _ _ rfl rfl Try.underlying22 (by kernel_rfl) (sb_l _ _ (l := tk) rfl HTK.out) (by have := HLT.out; have := HCP.out; rw [if_neg (by omega)]; simp [Go.WideShapes.add_plain]) rfl rfl)
                (try simp only [Act.put, sA, sB, sC])
                refine wpAnyH_ready (rs := [9]) (by kernel_rfl) (by simp) ?_
                refine AllReadyH.cons (o := ?o5__9) ?h5__9 (fun K hK => ?_) AllReadyH.nil
                case h5__9 => (first | (simp only [gA, gB, gC]; done) | (simp only [gA, gB, gC]; exact rfl))
                (try go_simp)
                refine (firstF5 gb tk (n - tk) (c - tk) k 165 r _ (hHeld.2.2.2) HCC.out HNN.out H1.out H2.out H3.out HK.out H4.out H5.out).mono ?_
                rintro e w53 ⟨rfl, hb⟩
                (try go_wp2_with fail)
                refine hK.out _ _ (by (apply HRK.out; exact hb; exact hHeld)) (fun hHeld2 => ?_)
                clear hK K hHeld hb
                have hHeld := hHeld2
                clear hHeld2
                (try simp only [Act.put, sA, sB, sC])
                refine wpAnyH_take (i := 10) (oi := ?o5__10) (v := .tuple #[.slice none 0 0, .bool true]) ?h5__10 (by kernel_rfl) (by kernel_rfl) (by kernel_rfl) ?q5__10 ?y5__10 (by assumption) ?_
                case h5__10 => (first | (simp only [gA, gB, gC]; done) | (simp only [gA, gB, gC]; exact rfl))
                case q5__10 => exact fun _ _ _ h => h
                case y5__10 => (refine Or.inl ⟨rfl, ?_⟩; intro w hSw; (first | rfl | (go_simp; (try with_reducible rfl))))
                (try simp only [Act.put, sA, sB, sC])
                refine wpAnyH_take (i := 11) (oi := ?o5__11) (v := .slice none 0 0) ?h5__11 (by kernel_rfl) (by kernel_rfl) (by kernel_rfl) ?q5__11 ?y5__11 (by assumption) ?_
                case h5__11 => (first | (simp only [gA, gB, gC]; done) | (simp only [gA, gB, gC]; exact rfl))
                case q5__11 => exact fun _ _ _ h => h
                case y5__11 => (refine Or.inl ⟨rfl, ?_⟩; intro w hSw; (first | rfl | (go_simp; (try with_reducible rfl))))
                (try simp only [Act.put, sA, sB, sC])
                refine wpAnyH_take (i := 12) (oi := ?o5__12) (v := .bool true) ?h5__12 (by kernel_rfl) (by kernel_rfl) (by kernel_rfl) ?q5__12 ?y5__12 (by assumption) ?_
                case h5__12 => (first | (simp only [gA, gB, gC]; done) | (simp only [gA, gB, gC]; exact rfl))
                case q5__12 => exact fun _ _ _ h => h
                case y5__12 => (refine Or.inl ⟨rfl, ?_⟩; intro w hSw; (first | rfl | (go_simp; (try with_reducible rfl))))
                (try simp only [Act.put, sA, sB, sC])
                refine wpAnyH_take (i := 13) (oi := ?o5__13) (v := .slice none 0 0) ?h5__13 (by kernel_rfl) (by kernel_rfl) (by kernel_rfl) ?q5__13 ?y5__13 (by assumption) ?_
                case h5__13 => (first | (simp only [gA, gB, gC]; done) | (simp only [gA, gB, gC]; exact rfl))
                case q5__13 => exact fun _ _ _ h => h
                case y5__13 => (refine Or.inl ⟨rfl, ?_⟩; intro w hSw; (first | rfl | (go_simp; (try with_reducible rfl))))
                (try simp only [Act.put, sA, sB, sC])
                refine wpAnyH_take (i := 14) (oi := ?o5__14) (v := .bool true) ?h5__14 (by kernel_rfl) (by kernel_rfl) (by kernel_rfl) ?q5__14 ?y5__14 (by assumption) ?_
                case h5__14 => (first | (simp only [gA, gB, gC]; done) | (simp only [gA, gB, gC]; exact rfl))
                case q5__14 => exact fun _ _ _ h => h
                case y5__14 => (refine Or.inl ⟨rfl, ?_⟩; intro w hSw; (first | rfl | (go_simp; (try with_reducible rfl))))
                (try simp only [Act.put, sA, sB, sC])
                refine wpAnyH_done (by kernel_rfl) ?_ _
                refine NoPanic.normal ?_
                have HSd5v2 := Lib.hid hHeld.1
                have HBQd5v2 := Lib.hid (hHeld.2.1)
                have HFrd5v2 := Lib.hid (hHeld.2.2.1)
                have HFbvd5v2 := Lib.hid (hHeld.2.2.2)
                clear hHeld HRK HRD HS52 HBQ52 HFr52 HBV
                go_upto_region 6 with fail
                refine wp_region_lit ?_
                refine wpList_q (by rfl) (.bool true) ?he ?_
                case he => (first | rfl | (go_simp; (try with_reducible rfl)))
                (try simp only [Act.put, sA, sB, sC])
                refine wpList_q (by rfl) (.bool false) ?he ?_
                case he => (go_simp; (try with_reducible rfl))
                (try simp only [Act.put, sA, sB, sC])
                refine wpList_nil ?_
                go_upto_region 8 with fail
                refine wp_region_lit ?_
                refine wpList_q (by rfl) (.slice none 0 0) ?he ?_
                case he => (first | rfl | (go_simp; (try with_reducible rfl)))
                (try simp only [Act.put, sA, sB, sC])
                refine wpList_q (by rfl) (.bool true) ?he ?_
                case he => (first | rfl | (go_simp; (try with_reducible rfl)))
                (try simp only [Act.put, sA, sB, sC])
                refine wpList_nil ?_
                go_upto_region 9 with fail
                refine wp_region_lit ?_
                refine wpList_q (by rfl) (.pointer (some ⟨s, 0, none⟩)) ?he ?_
                case he => (first | rfl | (go_simp; (try with_reducible rfl)))
                (try simp only [Act.put, sA, sB, sC])
                refine wpList_q (by rfl) (.pointer (some ⟨s, 0, none⟩)) ?he ?_
                case he => (first | rfl | (go_simp; (try with_reducible rfl)))
                (try simp only [Act.put, sA, sB, sC])
                refine wpList_q (by rfl) (.pointer (some ⟨s, 1, none⟩)) ?he ?_
                case he => (first | rfl | (go_simp; (try with_reducible rfl)))
                (try simp only [Act.put, sA, sB, sC])
                refine wpList_q (by rfl) (.int .i64 ((tk : Nat) : Int)) ?he ?_
                case he => exact exec_cell 3 _ _ HBQd5v2.out rfl rfl rfl Try.underlying3 rfl
                (try simp only [Act.put, sA, sB, sC])
                refine wpList_q (by rfl) (.int .i64 ((tk + 1 : Nat) : Int)) ?he ?_
                case he => (go_simp; (first | done | (have q := HLT.out; have q1 := HN.out; rw [wr64 _ (by omega) (by omega)]; push_cast; rfl) | (have q := HLT.out; have q1 := HN.out; exact wr64 _ (by omega) (by omega))))
                (try simp only [Act.put, sA, sB, sC])
                refine wpList_q (by rfl) (.pointer (some ⟨s, 0, none⟩)) ?he ?_
                case he => (first | rfl | (go_simp; (try with_reducible rfl)))
                (try simp only [Act.put, sA, sB, sC])
                refine wpList_q (by rfl) (.pointer (some ⟨s, 1, none⟩)) ?he ?_
                case he => (first | rfl | (go_simp; (try with_reducible rfl)))
                (try simp only [Act.put, sA, sB, sC])
                refine wpList_wp (by rfl) (fun K hK => ?_)
                refine wp_st_cell 3 _ _ rfl #[.slice (some ⟨gb, 0, none⟩) n c, .int .i64 ((tk + 1 : Nat) : Int)] (.int .i64 ((tk + 1 : Nat) : Int)) rfl rfl HBQd5v2.out (by show 1 < 2; decide) rfl (by first | rfl | simp [Value.oneCell']) (by kernel_rfl) ?_
                intro w54 hw
                refine hK.out _ _ ?_
                clear hK K
                (try simp only [Act.put, sA, sB, sC])
                have HS54 := Lib.hid (show Upd (s :: blkOf (some ⟨gb, 0, none⟩)) w w54 by rw [hw]; exact Upd.setRow HSd5v2.out (.inl (by simp)) _)
                have HBQ54 := Lib.hid (show Blk w54 s 40 #[.slice (some ⟨gb, 0, none⟩) n c, .int .i64 ((tk + 1 : Nat) : Int)] by rw [hw]; exact Blk.row HBQd5v2.out _)
                have HFr_54 := Lib.hid (show (w54).ownsRow lo 5 1 (.slice (some ⟨gb, 0, none⟩) n c) n (cells zs) by rw [hw]; exact own_row_far HFrd5v2.out HIQ.out _)
                clear hw HSd5v2 HBQd5v2 HFrd5v2
                refine wpList_nil ?_
                go_wp2_with fail
                go_roundw
                case rel => exact ⟨tk + 1, by have := HLT.out; omega, Lib.hid ⟨by rw [HDR.out, ← HINV.out, HXR.out]; exact (nx5 HRN.out HK.out H3.out (by have := H4.out; have := HRL.out; omega) H5.out).symm, HS54.out, HBQ54.out, HFr_54.out⟩⟩
                case measure => rw [tkOf_blk HBQ54.out, tkOf_blk HM0.out]; have := HLT.out; have := HN.out; omega
              · have H5 := Lib.hid hcs; clear hcs
                go_upto_region 5 with fail
                have hrK : ∀ W W' : World, Since W W' → (Upd (s :: blkOf (some ⟨gb, 0, none⟩)) w W ∧ Blk W s 40 #[.slice (some ⟨gb, 0, none⟩) n c, .int .i64 ((tk : Nat) : Int)] ∧ (W).ownsRow lo 5 1 (.slice (some ⟨gb, 0, none⟩) n c) n (cells zs) ∧ BV W (some ⟨gb, tk, none⟩) (n - tk) (165 :: r)) → (Upd (s :: blkOf (some ⟨gb, 0, none⟩)) w W' ∧ Blk W' s 40 #[.slice (some ⟨gb, 0, none⟩) n c, .int .i64 ((tk : Nat) : Int)] ∧ (W').ownsRow lo 5 1 (.slice (some ⟨gb, 0, none⟩) n c) n (cells zs) ∧ BV W' (some ⟨gb, tk, none⟩) (n - tk) (165 :: r)) := fun W W' k ⟨h, h0, h1, h2⟩ => ⟨h.trans k, keep_blk k h0, keep_own k h1, keep_bv k h2⟩
                have hrS : (fun W : World => Upd (s :: blkOf (some ⟨gb, 0, none⟩)) w W ∧ Blk W s 40 #[.slice (some ⟨gb, 0, none⟩) n c, .int .i64 ((tk : Nat) : Int)] ∧ (W).ownsRow lo 5 1 (.slice (some ⟨gb, 0, none⟩) n c) n (cells zs) ∧ BV W (some ⟨gb, tk, none⟩) (n - tk) (165 :: r)) w52 := ⟨HS52.out, HBQ52.out, HFr52.out, HBV.out⟩
                have HRK := Lib.hid hrK
                have HRD := Lib.hid (show (fun W : World => Upd (s :: blkOf (some ⟨gb, 0, none⟩)) w W ∧ Blk W s 40 #[.slice (some ⟨gb, 0, none⟩) n c, .int .i64 ((tk : Nat) : Int)] ∧ (W).ownsRow lo 5 1 (.slice (some ⟨gb, 0, none⟩) n c) n (cells zs) ∧ BV W (some ⟨gb, tk, none⟩) (n - tk) (165 :: r)) (World.drew w52) from ⟨Upd.drew hrS.1, hrS.2⟩)
                clear hrK hrS
                refine wp_region_noPanic ?_
                refine wp_region_held_drew (S := fun W : World => Upd (s :: blkOf (some ⟨gb, 0, none⟩)) w W ∧ Blk W s 40 #[.slice (some ⟨gb, 0, none⟩) n c, .int .i64 ((tk : Nat) : Int)] ∧ (W).ownsRow lo 5 1 (.slice (some ⟨gb, 0, none⟩) n c) n (cells zs) ∧ BV W (some ⟨gb, tk, none⟩) (n - tk) (165 :: r)) (by kernel_rfl) HRD.out (fun hHeld => ?_)
                refine wpAnyH_take (i := 0) (oi := ?o5__0) (v := .pointer (some ⟨s, 0, none⟩)) ?h5__0 (by kernel_rfl) (by kernel_rfl) (by kernel_rfl) ?q5__0 ?y5__0 (by assumption) ?_
                case h5__0 => (first | (simp only [gA, gB, gC]; done) | (simp only [gA, gB, gC]; exact rfl))
                case q5__0 => exact fun _ _ _ h => h
                case y5__0 => (refine Or.inl ⟨rfl, ?_⟩; intro w hSw; (first | rfl | (go_simp; (try with_reducible rfl))))
                (try simp only [Act.put, sA, sB, sC])
                refine wpAnyH_take (i := 1) (oi := ?o5__1) (v := .pointer (some ⟨s, 0, none⟩)) ?h5__1 (by kernel_rfl) (by kernel_rfl) (by kernel_rfl) ?q5__1 ?y5__1 (by assumption) ?_
                case h5__1 => (first | (simp only [gA, gB, gC]; done) | (simp only [gA, gB, gC]; exact rfl))
                case q5__1 => exact fun _ _ _ h => h
                case y5__1 => (refine Or.inl ⟨rfl, ?_⟩; intro w hSw; (first | rfl | (go_simp; (try with_reducible rfl))))
                (try simp only [Act.put, sA, sB, sC])
                refine wpAnyH_take (i := 2) (oi := ?o5__2) (v := .pointer (some ⟨s, 0, none⟩)) ?h5__2 (by kernel_rfl) (by kernel_rfl) (by kernel_rfl) ?q5__2 ?y5__2 (by assumption) ?_
                case h5__2 => (first | (simp only [gA, gB, gC]; done) | (simp only [gA, gB, gC]; exact rfl))
                case q5__2 => exact fun _ _ _ h => h
                case y5__2 => (refine Or.inl ⟨rfl, ?_⟩; intro w hSw; (first | rfl | (go_simp; (try with_reducible rfl))))
                (try simp only [Act.put, sA, sB, sC])
                refine wpAnyH_take (i := 3) (oi := ?o5__3) (v := .slice (some ⟨gb, 0, none⟩) n c) ?h5__3 (by kernel_rfl) (by kernel_rfl) (by kernel_rfl) ?q5__3 ?y5__3 (by assumption) ?_
                case h5__3 => (first | (simp only [gA, gB, gC]; done) | (simp only [gA, gB, gC]; exact rfl))
                case q5__3 => exact fun _ _ _ h => h
                case y5__3 => (refine Or.inl ⟨rfl, ?_⟩; intro w hSw; exact exec_cell 22 _ _ hSw.2.1 rfl rfl rfl Try.underlying22 rfl)
                (try simp only [Act.put, sA, sB, sC])
                refine wpAnyH_take (i := 4) (oi := ?o5__4) (v := .pointer (some ⟨s, 0, none⟩)) ?h5__4 (by kernel_rfl) (by kernel_rfl) (by kernel_rfl) ?q5__4 ?y5__4 (by assumption) ?_
                case h5__4 => (first | (simp only [gA, gB, gC]; done) | (simp only [gA, gB, gC]; exact rfl))
                case q5__4 => exact fun _ _ _ h => h
                case y5__4 => (refine Or.inl ⟨rfl, ?_⟩; intro w hSw; (first | rfl | (go_simp; (try with_reducible rfl))))
                (try simp only [Act.put, sA, sB, sC])
                refine wpAnyH_take (i := 5) (oi := ?o5__5) (v := .pointer (some ⟨s, 0, none⟩)) ?h5__5 (by kernel_rfl) (by kernel_rfl) (by kernel_rfl) ?q5__5 ?y5__5 (by assumption) ?_
                case h5__5 => (first | (simp only [gA, gB, gC]; done) | (simp only [gA, gB, gC]; exact rfl))
                case q5__5 => exact fun _ _ _ h => h
                case y5__5 => (refine Or.inl ⟨rfl, ?_⟩; intro w hSw; (first | rfl | (go_simp; (try with_reducible rfl))))
                (try simp only [Act.put, sA, sB, sC])
                refine wpAnyH_take (i := 6) (oi := ?o5__6) (v := .pointer (some ⟨s, 1, none⟩)) ?h5__6 (by kernel_rfl) (by kernel_rfl) (by kernel_rfl) ?q5__6 ?y5__6 (by assumption) ?_
                case h5__6 => (first | (simp only [gA, gB, gC]; done) | (simp only [gA, gB, gC]; exact rfl))
                case q5__6 => exact fun _ _ _ h => h
                case y5__6 => (refine Or.inl ⟨rfl, ?_⟩; intro w hSw; (first | rfl | (go_simp; (try with_reducible rfl))))
                (try simp only [Act.put, sA, sB, sC])
                refine wpAnyH_take (i := 7) (oi := ?o5__7) (v := .int .i64 ((tk : Nat) : Int)) ?h5__7 (by kernel_rfl) (by kernel_rfl) (by kernel_rfl) ?q5__7 ?y5__7 (by assumption) ?_
                case h5__7 => (first | (simp only [gA, gB, gC]; done) | (simp only [gA, gB, gC]; exact rfl))
                case q5__7 => exact fun _ _ _ h => h
                case y5__7 => (refine Or.inl ⟨rfl, ?_⟩; intro w hSw; exact exec_cell 3 _ _ hSw.2.1 rfl rfl rfl Try.underlying3 rfl)
                (try simp only [Act.put, sA, sB, sC])
                refine wpAnyH_take (i := 8) (oi := ?o5__8) (v := .slice (some ⟨gb, tk, none⟩) (n - tk) (c - tk)) ?h5__8 (by kernel_rfl) (by kernel_rfl) (by kernel_rfl) ?q5__8 ?y5__8 (by assumption) ?_
                case h5__8 => (first | (simp only [gA, gB, gC]; done) | (simp only [gA, gB, gC]; exact rfl))
                case q5__8 => exact fun _ _ _ h => h
                case y5__8 => (refine Or.inl ⟨rfl, ?_⟩; intro w hSw; exact exec_slice (s := 1) 22 5 _ _ _ _ rfl rfl Try.underlying22 (by kernel_rfl) (sb_l _ _ (l := tk) rfl HTK.out) (by have := HLT.out; have := HCP.out; rw [if_neg (by omega)]; simp [Go.WideShapes.add_plain]) rfl rfl)
                (try simp only [Act.put, sA, sB, sC])
                refine wpAnyH_ready (rs := [9]) (by kernel_rfl) (by simp) ?_
                refine AllReadyH.cons (o := ?o5__9) ?h5__9 (fun K hK => ?_) AllReadyH.nil
                case h5__9 => (first | (simp only [gA, gB, gC]; done) | (simp only [gA, gB, gC]; exact rfl))
                (try go_simp)
                refine (firstF6 gb tk (n - tk) (c - tk) k 165 r _ (hHeld.2.2.2) HCC.out HNN.out H1.out H2.out H3.out HK.out H4.out H5.out).mono ?_
                rintro e w53 ⟨rfl, hb⟩
                (try go_wp2_with fail)
                refine hK.out _ _ (by (apply HRK.out; exact hb; exact hHeld)) (fun hHeld2 => ?_)
                clear hK K hHeld hb
                have hHeld := hHeld2
                clear hHeld2
                (try simp only [Act.put, sA, sB, sC])
                refine wpAnyH_take (i := 10) (oi := ?o5__10) (v := .tuple #[.slice (some ⟨gb, tk, none⟩) (k + 2) (c - tk), .bool true]) ?h5__10 (by kernel_rfl) (by kernel_rfl) (by kernel_rfl) ?q5__10 ?y5__10 (by assumption) ?_
                case h5__10 => (first | (simp only [gA, gB, gC]; done) | (simp only [gA, gB, gC]; exact rfl))
                case q5__10 => exact fun _ _ _ h => h
                case y5__10 => (refine Or.inl ⟨rfl, ?_⟩; intro w hSw; (first | rfl | (go_simp; (try with_reducible rfl))))
                (try simp only [Act.put, sA, sB, sC])
                refine wpAnyH_take (i := 11) (oi := ?o5__11) (v := .slice (some ⟨gb, tk, none⟩) (k + 2) (c - tk)) ?h5__11 (by kernel_rfl) (by kernel_rfl) (by kernel_rfl) ?q5__11 ?y5__11 (by assumption) ?_
                case h5__11 => (first | (simp only [gA, gB, gC]; done) | (simp only [gA, gB, gC]; exact rfl))
                case q5__11 => exact fun _ _ _ h => h
                case y5__11 => (refine Or.inl ⟨rfl, ?_⟩; intro w hSw; (first | rfl | (go_simp; (try with_reducible rfl))))
                (try simp only [Act.put, sA, sB, sC])
                refine wpAnyH_take (i := 12) (oi := ?o5__12) (v := .bool true) ?h5__12 (by kernel_rfl) (by kernel_rfl) (by kernel_rfl) ?q5__12 ?y5__12 (by assumption) ?_
                case h5__12 => (first | (simp only [gA, gB, gC]; done) | (simp only [gA, gB, gC]; exact rfl))
                case q5__12 => exact fun _ _ _ h => h
                case y5__12 => (refine Or.inl ⟨rfl, ?_⟩; intro w hSw; (first | rfl | (go_simp; (try with_reducible rfl))))
                (try simp only [Act.put, sA, sB, sC])
                refine wpAnyH_take (i := 13) (oi := ?o5__13) (v := .slice (some ⟨gb, tk, none⟩) (k + 2) (c - tk)) ?h5__13 (by kernel_rfl) (by kernel_rfl) (by kernel_rfl) ?q5__13 ?y5__13 (by assumption) ?_
                case h5__13 => (first | (simp only [gA, gB, gC]; done) | (simp only [gA, gB, gC]; exact rfl))
                case q5__13 => exact fun _ _ _ h => h
                case y5__13 => (refine Or.inl ⟨rfl, ?_⟩; intro w hSw; (first | rfl | (go_simp; (try with_reducible rfl))))
                (try simp only [Act.put, sA, sB, sC])
                refine wpAnyH_take (i := 14) (oi := ?o5__14) (v := .bool true) ?h5__14 (by kernel_rfl) (by kernel_rfl) (by kernel_rfl) ?q5__14 ?y5__14 (by assumption) ?_
                case h5__14 => (first | (simp only [gA, gB, gC]; done) | (simp only [gA, gB, gC]; exact rfl))
                case q5__14 => exact fun _ _ _ h => h
                case y5__14 => (refine Or.inl ⟨rfl, ?_⟩; intro w hSw; (first | rfl | (go_simp; (try with_reducible rfl))))
                (try simp only [Act.put, sA, sB, sC])
                refine wpAnyH_done (by kernel_rfl) ?_ _
                refine NoPanic.normal ?_
                have HSd5v2 := Lib.hid hHeld.1
                have HBQd5v2 := Lib.hid (hHeld.2.1)
                have HFrd5v2 := Lib.hid (hHeld.2.2.1)
                have HFbvd5v2 := Lib.hid (hHeld.2.2.2)
                clear hHeld HRK HRD HS52 HBQ52 HFr52 HBV
                go_upto_region 6 with fail
                refine wp_region_lit ?_
                refine wpList_q (by rfl) (.bool true) ?he ?_
                case he => (first | rfl | (go_simp; (try with_reducible rfl)))
                (try simp only [Act.put, sA, sB, sC])
                refine wpList_q (by rfl) (.bool false) ?he ?_
                case he => (go_simp; (try with_reducible rfl))
                (try simp only [Act.put, sA, sB, sC])
                refine wpList_nil ?_
                go_upto_region 8 with fail
                refine wp_region_lit ?_
                refine wpList_q (by rfl) (.slice (some ⟨gb, tk, none⟩) (k + 2) (c - tk)) ?he ?_
                case he => (first | rfl | (go_simp; (try with_reducible rfl)))
                (try simp only [Act.put, sA, sB, sC])
                refine wpList_q (by rfl) (.bool false) ?he ?_
                case he => (first | rfl | (go_simp; (try with_reducible rfl)))
                (try simp only [Act.put, sA, sB, sC])
                refine wpList_nil ?_
                have HTK2 := Lib.hid (show tk + (k + 6) ≤ n by have := H4.out; have := HLT.out; omega)
                go_upto_region 10 with fail
                refine wp_region_lit ?_
                refine wpList_q (by rfl) (.pointer (some ⟨s, 0, none⟩)) ?he ?_
                case he => (first | rfl | (go_simp; (try with_reducible rfl)))
                (try simp only [Act.put, sA, sB, sC])
                refine wpList_q (by rfl) (.pointer (some ⟨s, 0, none⟩)) ?he ?_
                case he => (first | rfl | (go_simp; (try with_reducible rfl)))
                (try simp only [Act.put, sA, sB, sC])
                refine wpList_q (by rfl) (.pointer (some ⟨s, 1, none⟩)) ?he ?_
                case he => (first | rfl | (go_simp; (try with_reducible rfl)))
                (try simp only [Act.put, sA, sB, sC])
                refine wpList_q (by rfl) (.int .i64 ((tk : Nat) : Int)) ?he ?_
                case he => exact exec_cell 3 _ _ HBQd5v2.out rfl rfl rfl Try.underlying3 rfl
                (try simp only [Act.put, sA, sB, sC])
                refine wpList_q (by rfl) (.slice (some ⟨gb, tk, none⟩) (k + 2) (c - tk)) ?he ?_
                case he => (first | rfl | (go_simp; (try with_reducible rfl)))
                (try simp only [Act.put, sA, sB, sC])
                refine wpList_q (by rfl) (.int .i64 ((k + 2 : Nat) : Int)) ?he ?_
                case he => (first | rfl | (go_simp; (try with_reducible rfl)))
                (try simp only [Act.put, sA, sB, sC])
                refine wpList_q (by rfl) (.int .i64 ((k + 6 : Nat) : Int)) ?he ?_
                case he => (go_simp; (first | done | (have q := HTK2.out; have q1 := HN.out; rw [wr64 _ (by omega) (by omega)]; push_cast; omega) | (have q := HTK2.out; have q1 := HN.out; exact wr64 _ (by omega) (by omega))))
                (try simp only [Act.put, sA, sB, sC])
                refine wpList_q (by rfl) (.int .i64 ((tk + (k + 6) : Nat) : Int)) ?he ?_
                case he => (go_simp; (first | done | (have q := HTK2.out; have q1 := HN.out; rw [wr64 _ (by omega) (by omega)]; push_cast; omega) | (have q := HTK2.out; have q1 := HN.out; exact wr64 _ (by omega) (by omega))))
                (try simp only [Act.put, sA, sB, sC])
                refine wpList_q (by rfl) (.pointer (some ⟨s, 0, none⟩)) ?he ?_
                case he => (first | rfl | (go_simp; (try with_reducible rfl)))
                (try simp only [Act.put, sA, sB, sC])
                refine wpList_q (by rfl) (.pointer (some ⟨s, 1, none⟩)) ?he ?_
                case he => (first | rfl | (go_simp; (try with_reducible rfl)))
                (try simp only [Act.put, sA, sB, sC])
                refine wpList_wp (by rfl) (fun K hK => ?_)
                refine wp_st_cell 3 _ _ rfl #[.slice (some ⟨gb, 0, none⟩) n c, .int .i64 ((tk + (k + 6) : Nat) : Int)] (.int .i64 ((tk + (k + 6) : Nat) : Int)) rfl rfl HBQd5v2.out (by show 1 < 2; decide) rfl (by first | rfl | simp [Value.oneCell']) (by kernel_rfl) ?_
                intro w54 hw
                refine hK.out _ _ ?_
                clear hK K
                (try simp only [Act.put, sA, sB, sC])
                have HS54 := Lib.hid (show Upd (s :: blkOf (some ⟨gb, 0, none⟩)) w w54 by rw [hw]; exact Upd.setRow HSd5v2.out (.inl (by simp)) _)
                have HBQ54 := Lib.hid (show Blk w54 s 40 #[.slice (some ⟨gb, 0, none⟩) n c, .int .i64 ((tk + (k + 6) : Nat) : Int)] by rw [hw]; exact Blk.row HBQd5v2.out _)
                have HFr_54 := Lib.hid (show (w54).ownsRow lo 5 1 (.slice (some ⟨gb, 0, none⟩) n c) n (cells zs) by rw [hw]; exact own_row_far HFrd5v2.out HIQ.out _)
                clear hw HSd5v2 HBQd5v2 HFrd5v2
                refine wpList_nil ?_
                have HBV2 := Lib.hid (show BV w54 (some ⟨gb, tk, none⟩) (n - tk) (165 :: r) by have q := bv_drop (BV.of_own HFr_54.out HB.out) HTK.out HCP.out; rw [cutA_some (by have := HLT.out; have := HCP.out; omega), HXR.out, Nat.zero_add] at q; exact q)
                have HBP := Lib.hid (bv_drop (BV.cut HBV2.out (show k + 2 ≤ n - tk by have := H4.out; omega)) (show 2 ≤ k + 2 by omega) (show k + 2 ≤ c - tk by have := H4.out; have := HCC.out; omega))
                go_upto_region 11 with fail
                refine wp_region_lit ?_
                refine wpList_q (by rfl) (.slice (some ⟨gb, tk, none⟩) (k + 2) (c - tk)) ?he ?_
                case he => (first | rfl | (go_simp; (try with_reducible rfl)))
                (try simp only [Act.put, sA, sB, sC])
                refine wpList_q (by rfl) (.slice (cutA (c - tk) 2 (some ⟨gb, tk, none⟩) 1) (k + 2 - 2) (c - tk - 2)) ?he ?_
                case he => exact exec_slice (s := 1) 22 5 _ _ _ _ rfl rfl Try.underlying22 (by kernel_rfl) (sb_l _ _ (l := 2) rfl (by omega)) (by rfl) rfl rfl
                (try simp only [Act.put, sA, sB, sC])
                refine wpList_wp (by rfl) (fun K hK => ?_)
                (try go_simp)
                refine (cloneB _ _ _ _ _ HBP.out (by have := HTK2.out; have := HN.out; omega)).mono ?_
                rintro e w55 ⟨A2, c2, rfl, hown, hb⟩
                (try go_wp2_with fail)
                refine hK.out _ _ ?_
                clear hK K
                (try simp only [Act.put, sA, sB, sC])
                have HDIS := Lib.hid (show ∀ y ∈ blkOf A2, y ∉ s :: blkOf (some ⟨gb, 0, none⟩) from fun y hA hS => by have q1 := own_low hown y hA; have q2 := Upd.size HS54.out; rcases List.mem_cons.1 hS with h | h; have q3 := HLT0.out; omega; have q4 := HAL.out y h; omega)
                have hown2 := own_base (lo' := w.heap.size) hown (Upd.size HS54.out)
                have HS55 := Lib.hid (Upd.trans HS54.out hb)
                have HBQ55 := Lib.hid (keep_blk hb HBQ54.out)
                have HFr55 := Lib.hid (keep_own hb HFr_54.out)
                clear HS54 HBQ54 HFr_54
                clear hb
                have HCL := Lib.hid hown2
                clear hown hown2
                refine wpList_q (by rfl) (.slice A2 (k + 2 - 2) c2) ?he ?_
                case he => (first | rfl | (go_simp; (try with_reducible rfl)))
                (try simp only [Act.put, sA, sB, sC])
                refine wpList_q (by rfl) (.bool true) ?he ?_
                case he => (first | rfl | (go_simp; (try with_reducible rfl)))
                (try simp only [Act.put, sA, sB, sC])
                refine wpList_nil ?_
                have HPL := Lib.hid (show (((165 :: r).take (k + 2)).drop 2).length = k + 2 - 2 by have := H4.out; have := HRL.out; rw [List.length_drop, List.length_take]; simp; omega)
                (try go_wp2_with fail)
                (try simp only [Exit.inBlock, Exit.then])
                refine leaves_cons (f := 25) (args := #[.pointer (some ⟨s, 0, none⟩)]) (by simp) (by simp [go_sem]) ?_
                refine (forgetD lo s (some ⟨gb, 0, none⟩) n c (tk + (k + 6)) zs .returning _ HBQ55.out HFr55.out HB.out HTK2.out HN.out H0.out).mono ?_
                rintro e u' wz ⟨rfl, rfl, S', hSO, hU, hfar⟩
                have HU2 := Upd.comp HS55.out hU (fun g h => .inl h)
                have HF2 : ∀ g ∈ S', g ∈ s :: blkOf (some ⟨gb, 0, none⟩) ∨ w.heap.size ≤ g := fun g hg => by rcases hfar g hg with h | h; exact .inl h; exact .inr (Nat.le_trans (Upd.size HS55.out) h)
                have HNF := (show nextF xs = (some (((165 :: r).take (k + 2)).drop 2), zs.drop (tk + (k + 6))) from by rw [← HINV.out, ← List.drop_drop, HXR.out]; exact nx6 HRN.out HK.out H3.out (by have := H4.out; have := HRL.out; omega) H5.out)
                have HD1 : ∀ g ∈ blkOf A2, g ∉ s :: blkOf (some ⟨gb, 0, none⟩) := HDIS.out
                have HO2 := Upd.own hU HCL.out HD1
                exact ⟨_, results_tmp2 rfl _ _ _, by rw [HNF]; exact ⟨S', hSO, HU2, HF2, A2, c2, by rw [HPL.out]; rfl, by rw [HPL.out]; exact own_base HO2 (Nat.le_refl _), fun g hg hA => by rcases hfar g hg with h | h; exact HD1 g hA h; have q := own_lt HCL.out g hA; omega⟩⟩
            · have H4 := Lib.hid hcs; clear hcs
              go_upto_region 5 with fail
              have hrK : ∀ W W' : World, Since W W' → (Upd (s :: blkOf (some ⟨gb, 0, none⟩)) w W ∧ Blk W s 40 #[.slice (some ⟨gb, 0, none⟩) n c, .int .i64 ((tk : Nat) : Int)] ∧ (W).ownsRow lo 5 1 (.slice (some ⟨gb, 0, none⟩) n c) n (cells zs) ∧ BV W (some ⟨gb, tk, none⟩) (n - tk) (165 :: r)) → (Upd (s :: blkOf (some ⟨gb, 0, none⟩)) w W' ∧ Blk W' s 40 #[.slice (some ⟨gb, 0, none⟩) n c, .int .i64 ((tk : Nat) : Int)] ∧ (W').ownsRow lo 5 1 (.slice (some ⟨gb, 0, none⟩) n c) n (cells zs) ∧ BV W' (some ⟨gb, tk, none⟩) (n - tk) (165 :: r)) := fun W W' k ⟨h, h0, h1, h2⟩ => ⟨h.trans k, keep_blk k h0, keep_own k h1, keep_bv k h2⟩
              have hrS : (fun W : World => Upd (s :: blkOf (some ⟨gb, 0, none⟩)) w W ∧ Blk W s 40 #[.slice (some ⟨gb, 0, none⟩) n c, .int .i64 ((tk : Nat) : Int)] ∧ (W).ownsRow lo 5 1 (.slice (some ⟨gb, 0, none⟩) n c) n (cells zs) ∧ BV W (some ⟨gb, tk, none⟩) (n - tk) (165 :: r)) w52 := ⟨HS52.out, HBQ52.out, HFr52.out, HBV.out⟩
              have HRK := Lib.hid hrK
              have HRD := Lib.hid (show (fun W : World => Upd (s :: blkOf (some ⟨gb, 0, none⟩)) w W ∧ Blk W s 40 #[.slice (some ⟨gb, 0, none⟩) n c, .int .i64 ((tk : Nat) : Int)] ∧ (W).ownsRow lo 5 1 (.slice (some ⟨gb, 0, none⟩) n c) n (cells zs) ∧ BV W (some ⟨gb, tk, none⟩) (n - tk) (165 :: r)) (World.drew w52) from ⟨Upd.drew hrS.1, hrS.2⟩)
              clear hrK hrS
              refine wp_region_noPanic ?_
              refine wp_region_held_drew (S := fun W : World => Upd (s :: blkOf (some ⟨gb, 0, none⟩)) w W ∧ Blk W s 40 #[.slice (some ⟨gb, 0, none⟩) n c, .int .i64 ((tk : Nat) : Int)] ∧ (W).ownsRow lo 5 1 (.slice (some ⟨gb, 0, none⟩) n c) n (cells zs) ∧ BV W (some ⟨gb, tk, none⟩) (n - tk) (165 :: r)) (by kernel_rfl) HRD.out (fun hHeld => ?_)
              refine wpAnyH_take (i := 0) (oi := ?o5__0) (v := .pointer (some ⟨s, 0, none⟩)) ?h5__0 (by kernel_rfl) (by kernel_rfl) (by kernel_rfl) ?q5__0 ?y5__0 (by assumption) ?_
              case h5__0 => (first | (simp only [gA, gB, gC]; done) | (simp only [gA, gB, gC]; exact rfl))
              case q5__0 => exact fun _ _ _ h => h
              case y5__0 => (refine Or.inl ⟨rfl, ?_⟩; intro w hSw; (first | rfl | (go_simp; (try with_reducible rfl))))
              (try simp only [Act.put, sA, sB, sC])
              refine wpAnyH_take (i := 1) (oi := ?o5__1) (v := .pointer (some ⟨s, 0, none⟩)) ?h5__1 (by kernel_rfl) (by kernel_rfl) (by kernel_rfl) ?q5__1 ?y5__1 (by assumption) ?_
              case h5__1 => (first | (simp only [gA, gB, gC]; done) | (simp only [gA, gB, gC]; exact rfl))
              case q5__1 => exact fun _ _ _ h => h
              case y5__1 => (refine Or.inl ⟨rfl, ?_⟩; intro w hSw; (first | rfl | (go_simp; (try with_reducible rfl))))
              (try simp only [Act.put, sA, sB, sC])
              refine wpAnyH_take (i := 2) (oi := ?o5__2) (v := .pointer (some ⟨s, 0, none⟩)) ?h5__2 (by kernel_rfl) (by kernel_rfl) (by kernel_rfl) ?q5__2 ?y5__2 (by assumption) ?_
              case h5__2 => (first | (simp only [gA, gB, gC]; done) | (simp only [gA, gB, gC]; exact rfl))
              case q5__2 => exact fun _ _ _ h => h
              case y5__2 => (refine Or.inl ⟨rfl, ?_⟩; intro w hSw; (first | rfl | (go_simp; (try with_reducible rfl))))
              (try simp only [Act.put, sA, sB, sC])
              refine wpAnyH_take (i := 3) (oi := ?o5__3) (v := .slice (some ⟨gb, 0, none⟩) n c) ?h5__3 (by kernel_rfl) (by kernel_rfl) (by kernel_rfl) ?q5__3 ?y5__3 (by assumption) ?_
              case h5__3 => (first | (simp only [gA, gB, gC]; done) | (simp only [gA, gB, gC]; exact rfl))
              case q5__3 => exact fun _ _ _ h => h
              case y5__3 => (refine Or.inl ⟨rfl, ?_⟩; intro w hSw; exact exec_cell 22 _ _ hSw.2.1 rfl rfl rfl Try.underlying22 rfl)
              (try simp only [Act.put, sA, sB, sC])
              refine wpAnyH_take (i := 4) (oi := ?o5__4) (v := .pointer (some ⟨s, 0, none⟩)) ?h5__4 (by kernel_rfl) (by kernel_rfl) (by kernel_rfl) ?q5__4 ?y5__4 (by assumption) ?_
              case h5__4 => (first | (simp only [gA, gB, gC]; done) | (simp only [gA, gB, gC]; exact rfl))
              case q5__4 => exact fun _ _ _ h => h
              case y5__4 => (refine Or.inl ⟨rfl, ?_⟩; intro w hSw; (first | rfl | (go_simp; (try with_reducible rfl))))
              (try simp only [Act.put, sA, sB, sC])
              refine wpAnyH_take (i := 5) (oi := ?o5__5) (v := .pointer (some ⟨s, 0, none⟩)) ?h5__5 (by kernel_rfl) (by kernel_rfl) (by kernel_rfl) ?q5__5 ?y5__5 (by assumption) ?_
              case h5__5 => (first | (simp only [gA, gB, gC]; done) | (simp only [gA, gB, gC]; exact rfl))
              case q5__5 => exact fun _ _ _ h => h
              case y5__5 => (refine Or.inl ⟨rfl, ?_⟩; intro w hSw; (first | rfl | (go_simp; (try with_reducible rfl))))
              (try simp only [Act.put, sA, sB, sC])
              refine wpAnyH_take (i := 6) (oi := ?o5__6) (v := .pointer (some ⟨s, 1, none⟩)) ?h5__6 (by kernel_rfl) (by kernel_rfl) (by kernel_rfl) ?q5__6 ?y5__6 (by assumption) ?_
              case h5__6 => (first | (simp only [gA, gB, gC]; done) | (simp only [gA, gB, gC]; exact rfl))
              case q5__6 => exact fun _ _ _ h => h
              case y5__6 => (refine Or.inl ⟨rfl, ?_⟩; intro w hSw; (first | rfl | (go_simp; (try with_reducible rfl))))
              (try simp only [Act.put, sA, sB, sC])
              refine wpAnyH_take (i := 7) (oi := ?o5__7) (v := .int .i64 ((tk : Nat) : Int)) ?h5__7 (by kernel_rfl) (by kernel_rfl) (by kernel_rfl) ?q5__7 ?y5__7 (by assumption) ?_
              case h5__7 => (first | (simp only [gA, gB, gC]; done) | (simp only [gA, gB, gC]; exact rfl))
              case q5__7 => exact fun _ _ _ h => h
              case y5__7 => (refine Or.inl ⟨rfl, ?_⟩; intro w hSw; exact exec_cell 3 _ _ hSw.2.1 rfl rfl rfl Try.underlying3 rfl)
              (try simp only [Act.put, sA, sB, sC])
              refine wpAnyH_take (i := 8) (oi := ?o5__8) (v := .slice (some ⟨gb, tk, none⟩) (n - tk) (c - tk)) ?h5__8 (by kernel_rfl) (by kernel_rfl) (by kernel_rfl) ?q5__8 ?y5__8 (by assumption) ?_
              case h5__8 => (first | (simp only [gA, gB, gC]; done) | (simp only [gA, gB, gC]; exact rfl))
              case q5__8 => exact fun _ _ _ h => h
              case y5__8 => (refine Or.inl ⟨rfl, ?_⟩; intro w hSw; exact exec_slice (s := 1) 22 5 _ _ _ _ rfl rfl Try.underlying22 (by kernel_rfl) (sb_l _ _ (l := tk) rfl HTK.out) (by have := HLT.out; have := HCP.out; rw [if_neg (by omega)]; simp [Go.WideShapes.add_plain]) rfl rfl)
              (try simp only [Act.put, sA, sB, sC])
              refine wpAnyH_ready (rs := [9]) (by kernel_rfl) (by simp) ?_
              refine AllReadyH.cons (o := ?o5__9) ?h5__9 (fun K hK => ?_) AllReadyH.nil
              case h5__9 => (first | (simp only [gA, gB, gC]; done) | (simp only [gA, gB, gC]; exact rfl))
              (try go_simp)
              refine (firstF4 gb tk (n - tk) (c - tk) k 165 r _ (hHeld.2.2.2) HCC.out HNN.out H1.out H2.out H3.out HK.out H4.out).mono ?_
              rintro e w53 ⟨rfl, hb⟩
              (try go_wp2_with fail)
              refine hK.out _ _ (by (apply HRK.out; exact hb; exact hHeld)) (fun hHeld2 => ?_)
              clear hK K hHeld hb
              have hHeld := hHeld2
              clear hHeld2
              (try simp only [Act.put, sA, sB, sC])
              refine wpAnyH_take (i := 10) (oi := ?o5__10) (v := .tuple #[.slice none 0 0, .bool false]) ?h5__10 (by kernel_rfl) (by kernel_rfl) (by kernel_rfl) ?q5__10 ?y5__10 (by assumption) ?_
              case h5__10 => (first | (simp only [gA, gB, gC]; done) | (simp only [gA, gB, gC]; exact rfl))
              case q5__10 => exact fun _ _ _ h => h
              case y5__10 => (refine Or.inl ⟨rfl, ?_⟩; intro w hSw; (first | rfl | (go_simp; (try with_reducible rfl))))
              (try simp only [Act.put, sA, sB, sC])
              refine wpAnyH_take (i := 11) (oi := ?o5__11) (v := .slice none 0 0) ?h5__11 (by kernel_rfl) (by kernel_rfl) (by kernel_rfl) ?q5__11 ?y5__11 (by assumption) ?_
              case h5__11 => (first | (simp only [gA, gB, gC]; done) | (simp only [gA, gB, gC]; exact rfl))
              case q5__11 => exact fun _ _ _ h => h
              case y5__11 => (refine Or.inl ⟨rfl, ?_⟩; intro w hSw; (first | rfl | (go_simp; (try with_reducible rfl))))
              (try simp only [Act.put, sA, sB, sC])
              refine wpAnyH_take (i := 12) (oi := ?o5__12) (v := .bool false) ?h5__12 (by kernel_rfl) (by kernel_rfl) (by kernel_rfl) ?q5__12 ?y5__12 (by assumption) ?_
              case h5__12 => (first | (simp only [gA, gB, gC]; done) | (simp only [gA, gB, gC]; exact rfl))
              case q5__12 => exact fun _ _ _ h => h
              case y5__12 => (refine Or.inl ⟨rfl, ?_⟩; intro w hSw; (first | rfl | (go_simp; (try with_reducible rfl))))
              (try simp only [Act.put, sA, sB, sC])
              refine wpAnyH_take (i := 13) (oi := ?o5__13) (v := .slice none 0 0) ?h5__13 (by kernel_rfl) (by kernel_rfl) (by kernel_rfl) ?q5__13 ?y5__13 (by assumption) ?_
              case h5__13 => (first | (simp only [gA, gB, gC]; done) | (simp only [gA, gB, gC]; exact rfl))
              case q5__13 => exact fun _ _ _ h => h
              case y5__13 => (refine Or.inl ⟨rfl, ?_⟩; intro w hSw; (first | rfl | (go_simp; (try with_reducible rfl))))
              (try simp only [Act.put, sA, sB, sC])
              refine wpAnyH_take (i := 14) (oi := ?o5__14) (v := .bool false) ?h5__14 (by kernel_rfl) (by kernel_rfl) (by kernel_rfl) ?q5__14 ?y5__14 (by assumption) ?_
              case h5__14 => (first | (simp only [gA, gB, gC]; done) | (simp only [gA, gB, gC]; exact rfl))
              case q5__14 => exact fun _ _ _ h => h
              case y5__14 => (refine Or.inl ⟨rfl, ?_⟩; intro w hSw; (first | rfl | (go_simp; (try with_reducible rfl))))
              (try simp only [Act.put, sA, sB, sC])
              refine wpAnyH_done (by kernel_rfl) ?_ _
              refine NoPanic.normal ?_
              have HSd5v2 := Lib.hid hHeld.1
              have HBQd5v2 := Lib.hid (hHeld.2.1)
              have HFrd5v2 := Lib.hid (hHeld.2.2.1)
              have HFbvd5v2 := Lib.hid (hHeld.2.2.2)
              clear hHeld HRK HRD HS52 HBQ52 HFr52 HBV
              go_upto_region 6 with fail
              refine wp_region_lit ?_
              refine wpList_q (by rfl) (.bool false) ?he ?_
              case he => (first | rfl | (go_simp; (try with_reducible rfl)))
              (try simp only [Act.put, sA, sB, sC])
              refine wpList_q (by rfl) (.bool true) ?he ?_
              case he => (go_simp; (try with_reducible rfl))
              (try simp only [Act.put, sA, sB, sC])
              refine wpList_nil ?_
              go_upto_region 7 with fail
              refine wp_region_lit ?_
              refine wpList_q (by rfl) (.slice none 0 0) ?he ?_
              case he => (first | rfl | (go_simp; (try with_reducible rfl)))
              (try simp only [Act.put, sA, sB, sC])
              refine wpList_q (by rfl) (.bool false) ?he ?_
              case he => (first | rfl | (go_simp; (try with_reducible rfl)))
              (try simp only [Act.put, sA, sB, sC])
              refine wpList_nil ?_
              have HTK2 := Lib.hid HTK.out
              (try go_wp2_with fail)
              (try simp only [Exit.inBlock, Exit.then])
              refine leaves_cons (f := 25) (args := #[.pointer (some ⟨s, 0, none⟩)]) (by simp) (by simp [go_sem]) ?_
              refine (forgetD lo s (some ⟨gb, 0, none⟩) n c tk zs .returning _ HBQd5v2.out HFrd5v2.out HB.out HTK2.out HN.out H0.out).mono ?_
              rintro e u' wz ⟨rfl, rfl, S', hSO, hU, hfar⟩
              have HU2 := Upd.comp HSd5v2.out hU (fun g h => .inl h)
              have HF2 : ∀ g ∈ S', g ∈ s :: blkOf (some ⟨gb, 0, none⟩) ∨ w.heap.size ≤ g := fun g hg => by rcases hfar g hg with h | h; exact .inl h; exact .inr (Nat.le_trans (Upd.size HSd5v2.out) h)
              have HNF := (show nextF xs = (none, zs.drop tk) from by rw [← HINV.out, HXR.out]; exact nx4 HRN.out HK.out H3.out (by have := H4.out; have := HRL.out; omega))
              exact ⟨_, results_tmp2 rfl _ _ _, by rw [HNF]; exact ⟨S', hSO, HU2, HF2, rfl⟩⟩
          · have H3 := Lib.hid hcs; clear hcs
            go_upto_region 5 with fail
            have hrK : ∀ W W' : World, Since W W' → (Upd (s :: blkOf (some ⟨gb, 0, none⟩)) w W ∧ Blk W s 40 #[.slice (some ⟨gb, 0, none⟩) n c, .int .i64 ((tk : Nat) : Int)] ∧ (W).ownsRow lo 5 1 (.slice (some ⟨gb, 0, none⟩) n c) n (cells zs) ∧ BV W (some ⟨gb, tk, none⟩) (n - tk) (165 :: r)) → (Upd (s :: blkOf (some ⟨gb, 0, none⟩)) w W' ∧ Blk W' s 40 #[.slice (some ⟨gb, 0, none⟩) n c, .int .i64 ((tk : Nat) : Int)] ∧ (W').ownsRow lo 5 1 (.slice (some ⟨gb, 0, none⟩) n c) n (cells zs) ∧ BV W' (some ⟨gb, tk, none⟩) (n - tk) (165 :: r)) := fun W W' k ⟨h, h0, h1, h2⟩ => ⟨h.trans k, keep_blk k h0, keep_own k h1, keep_bv k h2⟩
            have hrS : (fun W : World => Upd (s :: blkOf (some ⟨gb, 0, none⟩)) w W ∧ Blk W s 40 #[.slice (some ⟨gb, 0, none⟩) n c, .int .i64 ((tk : Nat) : Int)] ∧ (W).ownsRow lo 5 1 (.slice (some ⟨gb, 0, none⟩) n c) n (cells zs) ∧ BV W (some ⟨gb, tk, none⟩) (n - tk) (165 :: r)) w52 := ⟨HS52.out, HBQ52.out, HFr52.out, HBV.out⟩
            have HRK := Lib.hid hrK
            have HRD := Lib.hid (show (fun W : World => Upd (s :: blkOf (some ⟨gb, 0, none⟩)) w W ∧ Blk W s 40 #[.slice (some ⟨gb, 0, none⟩) n c, .int .i64 ((tk : Nat) : Int)] ∧ (W).ownsRow lo 5 1 (.slice (some ⟨gb, 0, none⟩) n c) n (cells zs) ∧ BV W (some ⟨gb, tk, none⟩) (n - tk) (165 :: r)) (World.drew w52) from ⟨Upd.drew hrS.1, hrS.2⟩)
            clear hrK hrS
            refine wp_region_noPanic ?_
            refine wp_region_held_drew (S := fun W : World => Upd (s :: blkOf (some ⟨gb, 0, none⟩)) w W ∧ Blk W s 40 #[.slice (some ⟨gb, 0, none⟩) n c, .int .i64 ((tk : Nat) : Int)] ∧ (W).ownsRow lo 5 1 (.slice (some ⟨gb, 0, none⟩) n c) n (cells zs) ∧ BV W (some ⟨gb, tk, none⟩) (n - tk) (165 :: r)) (by kernel_rfl) HRD.out (fun hHeld => ?_)
            refine wpAnyH_take (i := 0) (oi := ?o5__0) (v := .pointer (some ⟨s, 0, none⟩)) ?h5__0 (by kernel_rfl) (by kernel_rfl) (by kernel_rfl) ?q5__0 ?y5__0 (by assumption) ?_
            case h5__0 => (first | (simp only [gA, gB, gC]; done) | (simp only [gA, gB, gC]; exact rfl))
            case q5__0 => exact fun _ _ _ h => h
            case y5__0 => (refine Or.inl ⟨rfl, ?_⟩; intro w hSw; (first | rfl | (go_simp; (try with_reducible rfl))))
            (try simp only [Act.put, sA, sB, sC])
            refine wpAnyH_take (i := 1) (oi := ?o5__1) (v := .pointer (some ⟨s, 0, none⟩)) ?h5__1 (by kernel_rfl) (by kernel_rfl) (by kernel_rfl) ?q5__1 ?y5__1 (by assumption) ?_
            case h5__1 => (first | (simp only [gA, gB, gC]; done) | (simp only [gA, gB, gC]; exact rfl))
            case q5__1 => exact fun _ _ _ h => h
            case y5__1 => (refine Or.inl ⟨rfl, ?_⟩; intro w hSw; (first | rfl | (go_simp; (try with_reducible rfl))))
            (try simp only [Act.put, sA, sB, sC])
            refine wpAnyH_take (i := 2) (oi := ?o5__2) (v := .pointer (some ⟨s, 0, none⟩)) ?h5__2 (by kernel_rfl) (by kernel_rfl) (by kernel_rfl) ?q5__2 ?y5__2 (by assumption) ?_
            case h5__2 => (first | (simp only [gA, gB, gC]; done) | (simp only [gA, gB, gC]; exact rfl))
            case q5__2 => exact fun _ _ _ h => h
            case y5__2 => (refine Or.inl ⟨rfl, ?_⟩; intro w hSw; (first | rfl | (go_simp; (try with_reducible rfl))))
            (try simp only [Act.put, sA, sB, sC])
            refine wpAnyH_take (i := 3) (oi := ?o5__3) (v := .slice (some ⟨gb, 0, none⟩) n c) ?h5__3 (by kernel_rfl) (by kernel_rfl) (by kernel_rfl) ?q5__3 ?y5__3 (by assumption) ?_
            case h5__3 => (first | (simp only [gA, gB, gC]; done) | (simp only [gA, gB, gC]; exact rfl))
            case q5__3 => exact fun _ _ _ h => h
            case y5__3 => (refine Or.inl ⟨rfl, ?_⟩; intro w hSw; exact exec_cell 22 _ _ hSw.2.1 rfl rfl rfl Try.underlying22 rfl)
            (try simp only [Act.put, sA, sB, sC])
            refine wpAnyH_take (i := 4) (oi := ?o5__4) (v := .pointer (some ⟨s, 0, none⟩)) ?h5__4 (by kernel_rfl) (by kernel_rfl) (by kernel_rfl) ?q5__4 ?y5__4 (by assumption) ?_
            case h5__4 => (first | (simp only [gA, gB, gC]; done) | (simp only [gA, gB, gC]; exact rfl))
            case q5__4 => exact fun _ _ _ h => h
            case y5__4 => (refine Or.inl ⟨rfl, ?_⟩; intro w hSw; (first | rfl | (go_simp; (try with_reducible rfl))))
            (try simp only [Act.put, sA, sB, sC])
            refine wpAnyH_take (i := 5) (oi := ?o5__5) (v := .pointer (some ⟨s, 0, none⟩)) ?h5__5 (by kernel_rfl) (by kernel_rfl) (by kernel_rfl) ?q5__5 ?y5__5 (by assumption) ?_
            case h5__5 => (first | (simp only [gA, gB, gC]; done) | (simp only [gA, gB, gC]; exact rfl))
            case q5__5 => exact fun _ _ _ h => h
            case y5__5 => (refine Or.inl ⟨rfl, ?_⟩; intro w hSw; (first | rfl | (go_simp; (try with_reducible rfl))))
            (try simp only [Act.put, sA, sB, sC])
            refine wpAnyH_take (i := 6) (oi := ?o5__6) (v := .pointer (some ⟨s, 1, none⟩)) ?h5__6 (by kernel_rfl) (by kernel_rfl) (by kernel_rfl) ?q5__6 ?y5__6 (by assumption) ?_
            case h5__6 => (first | (simp only [gA, gB, gC]; done) | (simp only [gA, gB, gC]; exact rfl))
            case q5__6 => exact fun _ _ _ h => h
            case y5__6 => (refine Or.inl ⟨rfl, ?_⟩; intro w hSw; (first | rfl | (go_simp; (try with_reducible rfl))))
            (try simp only [Act.put, sA, sB, sC])
            refine wpAnyH_take (i := 7) (oi := ?o5__7) (v := .int .i64 ((tk : Nat) : Int)) ?h5__7 (by kernel_rfl) (by kernel_rfl) (by kernel_rfl) ?q5__7 ?y5__7 (by assumption) ?_
            case h5__7 => (first | (simp only [gA, gB, gC]; done) | (simp only [gA, gB, gC]; exact rfl))
            case q5__7 => exact fun _ _ _ h => h
            case y5__7 => (refine Or.inl ⟨rfl, ?_⟩; intro w hSw; exact exec_cell 3 _ _ hSw.2.1 rfl rfl rfl Try.underlying3 rfl)
            (try simp only [Act.put, sA, sB, sC])
            refine wpAnyH_take (i := 8) (oi := ?o5__8) (v := .slice (some ⟨gb, tk, none⟩) (n - tk) (c - tk)) ?h5__8 (by kernel_rfl) (by kernel_rfl) (by kernel_rfl) ?q5__8 ?y5__8 (by assumption) ?_
            case h5__8 => (first | (simp only [gA, gB, gC]; done) | (simp only [gA, gB, gC]; exact rfl))
            case q5__8 => exact fun _ _ _ h => h
            case y5__8 => (refine Or.inl ⟨rfl, ?_⟩; intro w hSw; exact exec_slice (s := 1) 22 5 _ _ _ _ rfl rfl Try.underlying22 (by kernel_rfl) (sb_l _ _ (l := tk) rfl HTK.out) (by have := HLT.out; have := HCP.out; rw [if_neg (by omega)]; simp [Go.WideShapes.add_plain]) rfl rfl)
            (try simp only [Act.put, sA, sB, sC])
            refine wpAnyH_ready (rs := [9]) (by kernel_rfl) (by simp) ?_
            refine AllReadyH.cons (o := ?o5__9) ?h5__9 (fun K hK => ?_) AllReadyH.nil
            case h5__9 => (first | (simp only [gA, gB, gC]; done) | (simp only [gA, gB, gC]; exact rfl))
            (try go_simp)
            refine (firstF3 gb tk (n - tk) (c - tk) 165 r _ (hHeld.2.2.2) HCC.out HNN.out H1.out H2.out H3.out).mono ?_
            rintro e w53 ⟨rfl, hb⟩
            (try go_wp2_with fail)
            refine hK.out _ _ (by (apply HRK.out; exact hb; exact hHeld)) (fun hHeld2 => ?_)
            clear hK K hHeld hb
            have hHeld := hHeld2
            clear hHeld2
            (try simp only [Act.put, sA, sB, sC])
            refine wpAnyH_take (i := 10) (oi := ?o5__10) (v := .tuple #[.slice none 0 0, .bool true]) ?h5__10 (by kernel_rfl) (by kernel_rfl) (by kernel_rfl) ?q5__10 ?y5__10 (by assumption) ?_
            case h5__10 => (first | (simp only [gA, gB, gC]; done) | (simp only [gA, gB, gC]; exact rfl))
            case q5__10 => exact fun _ _ _ h => h
            case y5__10 => (refine Or.inl ⟨rfl, ?_⟩; intro w hSw; (first | rfl | (go_simp; (try with_reducible rfl))))
            (try simp only [Act.put, sA, sB, sC])
            refine wpAnyH_take (i := 11) (oi := ?o5__11) (v := .slice none 0 0) ?h5__11 (by kernel_rfl) (by kernel_rfl) (by kernel_rfl) ?q5__11 ?y5__11 (by assumption) ?_
            case h5__11 => (first | (simp only [gA, gB, gC]; done) | (simp only [gA, gB, gC]; exact rfl))
            case q5__11 => exact fun _ _ _ h => h
            case y5__11 => (refine Or.inl ⟨rfl, ?_⟩; intro w hSw; (first | rfl | (go_simp; (try with_reducible rfl))))
            (try simp only [Act.put, sA, sB, sC])
            refine wpAnyH_take (i := 12) (oi := ?o5__12) (v := .bool true) ?h5__12 (by kernel_rfl) (by kernel_rfl) (by kernel_rfl) ?q5__12 ?y5__12 (by assumption) ?_
            case h5__12 => (first | (simp only [gA, gB, gC]; done) | (simp only [gA, gB, gC]; exact rfl))
            case q5__12 => exact fun _ _ _ h => h
            case y5__12 => (refine Or.inl ⟨rfl, ?_⟩; intro w hSw; (first | rfl | (go_simp; (try with_reducible rfl))))
            (try simp only [Act.put, sA, sB, sC])
            refine wpAnyH_take (i := 13) (oi := ?o5__13) (v := .slice none 0 0) ?h5__13 (by kernel_rfl) (by kernel_rfl) (by kernel_rfl) ?q5__13 ?y5__13 (by assumption) ?_
            case h5__13 => (first | (simp only [gA, gB, gC]; done) | (simp only [gA, gB, gC]; exact rfl))
            case q5__13 => exact fun _ _ _ h => h
            case y5__13 => (refine Or.inl ⟨rfl, ?_⟩; intro w hSw; (first | rfl | (go_simp; (try with_reducible rfl))))
            (try simp only [Act.put, sA, sB, sC])
            refine wpAnyH_take (i := 14) (oi := ?o5__14) (v := .bool true) ?h5__14 (by kernel_rfl) (by kernel_rfl) (by kernel_rfl) ?q5__14 ?y5__14 (by assumption) ?_
            case h5__14 => (first | (simp only [gA, gB, gC]; done) | (simp only [gA, gB, gC]; exact rfl))
            case q5__14 => exact fun _ _ _ h => h
            case y5__14 => (refine Or.inl ⟨rfl, ?_⟩; intro w hSw; (first | rfl | (go_simp; (try with_reducible rfl))))
            (try simp only [Act.put, sA, sB, sC])
            refine wpAnyH_done (by kernel_rfl) ?_ _
            refine NoPanic.normal ?_
            have HSd5v2 := Lib.hid hHeld.1
            have HBQd5v2 := Lib.hid (hHeld.2.1)
            have HFrd5v2 := Lib.hid (hHeld.2.2.1)
            have HFbvd5v2 := Lib.hid (hHeld.2.2.2)
            clear hHeld HRK HRD HS52 HBQ52 HFr52 HBV
            go_upto_region 6 with fail
            refine wp_region_lit ?_
            refine wpList_q (by rfl) (.bool true) ?he ?_
            case he => (first | rfl | (go_simp; (try with_reducible rfl)))
            (try simp only [Act.put, sA, sB, sC])
            refine wpList_q (by rfl) (.bool false) ?he ?_
            case he => (go_simp; (try with_reducible rfl))
            (try simp only [Act.put, sA, sB, sC])
            refine wpList_nil ?_
            go_upto_region 8 with fail
            refine wp_region_lit ?_
            refine wpList_q (by rfl) (.slice none 0 0) ?he ?_
            case he => (first | rfl | (go_simp; (try with_reducible rfl)))
            (try simp only [Act.put, sA, sB, sC])
            refine wpList_q (by rfl) (.bool true) ?he ?_
            case he => (first | rfl | (go_simp; (try with_reducible rfl)))
            (try simp only [Act.put, sA, sB, sC])
            refine wpList_nil ?_
            go_upto_region 9 with fail
            refine wp_region_lit ?_
            refine wpList_q (by rfl) (.pointer (some ⟨s, 0, none⟩)) ?he ?_
            case he => (first | rfl | (go_simp; (try with_reducible rfl)))
            (try simp only [Act.put, sA, sB, sC])
            refine wpList_q (by rfl) (.pointer (some ⟨s, 0, none⟩)) ?he ?_
            case he => (first | rfl | (go_simp; (try with_reducible rfl)))
            (try simp only [Act.put, sA, sB, sC])
            refine wpList_q (by rfl) (.pointer (some ⟨s, 1, none⟩)) ?he ?_
            case he => (first | rfl | (go_simp; (try with_reducible rfl)))
            (try simp only [Act.put, sA, sB, sC])
            refine wpList_q (by rfl) (.int .i64 ((tk : Nat) : Int)) ?he ?_
            case he => exact exec_cell 3 _ _ HBQd5v2.out rfl rfl rfl Try.underlying3 rfl
            (try simp only [Act.put, sA, sB, sC])
            refine wpList_q (by rfl) (.int .i64 ((tk + 1 : Nat) : Int)) ?he ?_
            case he => (go_simp; (first | done | (have q := HLT.out; have q1 := HN.out; rw [wr64 _ (by omega) (by omega)]; push_cast; rfl) | (have q := HLT.out; have q1 := HN.out; exact wr64 _ (by omega) (by omega))))
            (try simp only [Act.put, sA, sB, sC])
            refine wpList_q (by rfl) (.pointer (some ⟨s, 0, none⟩)) ?he ?_
            case he => (first | rfl | (go_simp; (try with_reducible rfl)))
            (try simp only [Act.put, sA, sB, sC])
            refine wpList_q (by rfl) (.pointer (some ⟨s, 1, none⟩)) ?he ?_
            case he => (first | rfl | (go_simp; (try with_reducible rfl)))
            (try simp only [Act.put, sA, sB, sC])
            refine wpList_wp (by rfl) (fun K hK => ?_)
            refine wp_st_cell 3 _ _ rfl #[.slice (some ⟨gb, 0, none⟩) n c, .int .i64 ((tk + 1 : Nat) : Int)] (.int .i64 ((tk + 1 : Nat) : Int)) rfl rfl HBQd5v2.out (by show 1 < 2; decide) rfl (by first | rfl | simp [Value.oneCell']) (by kernel_rfl) ?_
            intro w54 hw
            refine hK.out _ _ ?_
            clear hK K
            (try simp only [Act.put, sA, sB, sC])
            have HS54 := Lib.hid (show Upd (s :: blkOf (some ⟨gb, 0, none⟩)) w w54 by rw [hw]; exact Upd.setRow HSd5v2.out (.inl (by simp)) _)
            have HBQ54 := Lib.hid (show Blk w54 s 40 #[.slice (some ⟨gb, 0, none⟩) n c, .int .i64 ((tk + 1 : Nat) : Int)] by rw [hw]; exact Blk.row HBQd5v2.out _)
            have HFr_54 := Lib.hid (show (w54).ownsRow lo 5 1 (.slice (some ⟨gb, 0, none⟩) n c) n (cells zs) by rw [hw]; exact own_row_far HFrd5v2.out HIQ.out _)
            clear hw HSd5v2 HBQd5v2 HFrd5v2
            refine wpList_nil ?_
            go_wp2_with fail
            go_roundw
            case rel => exact ⟨tk + 1, by have := HLT.out; omega, Lib.hid ⟨by rw [HDR.out, ← HINV.out, HXR.out]; exact (nx3 HRN.out H3.out).symm, HS54.out, HBQ54.out, HFr_54.out⟩⟩
            case measure => rw [tkOf_blk HBQ54.out, tkOf_blk HM0.out]; have := HLT.out; have := HN.out; omega
        · have H2 := Lib.hid hcs; clear hcs
          go_upto_region 5 with fail
          have hrK : ∀ W W' : World, Since W W' → (Upd (s :: blkOf (some ⟨gb, 0, none⟩)) w W ∧ Blk W s 40 #[.slice (some ⟨gb, 0, none⟩) n c, .int .i64 ((tk : Nat) : Int)] ∧ (W).ownsRow lo 5 1 (.slice (some ⟨gb, 0, none⟩) n c) n (cells zs) ∧ BV W (some ⟨gb, tk, none⟩) (n - tk) (165 :: r)) → (Upd (s :: blkOf (some ⟨gb, 0, none⟩)) w W' ∧ Blk W' s 40 #[.slice (some ⟨gb, 0, none⟩) n c, .int .i64 ((tk : Nat) : Int)] ∧ (W').ownsRow lo 5 1 (.slice (some ⟨gb, 0, none⟩) n c) n (cells zs) ∧ BV W' (some ⟨gb, tk, none⟩) (n - tk) (165 :: r)) := fun W W' k ⟨h, h0, h1, h2⟩ => ⟨h.trans k, keep_blk k h0, keep_own k h1, keep_bv k h2⟩
          have hrS : (fun W : World => Upd (s :: blkOf (some ⟨gb, 0, none⟩)) w W ∧ Blk W s 40 #[.slice (some ⟨gb, 0, none⟩) n c, .int .i64 ((tk : Nat) : Int)] ∧ (W).ownsRow lo 5 1 (.slice (some ⟨gb, 0, none⟩) n c) n (cells zs) ∧ BV W (some ⟨gb, tk, none⟩) (n - tk) (165 :: r)) w52 := ⟨HS52.out, HBQ52.out, HFr52.out, HBV.out⟩
          have HRK := Lib.hid hrK
          have HRD := Lib.hid (show (fun W : World => Upd (s :: blkOf (some ⟨gb, 0, none⟩)) w W ∧ Blk W s 40 #[.slice (some ⟨gb, 0, none⟩) n c, .int .i64 ((tk : Nat) : Int)] ∧ (W).ownsRow lo 5 1 (.slice (some ⟨gb, 0, none⟩) n c) n (cells zs) ∧ BV W (some ⟨gb, tk, none⟩) (n - tk) (165 :: r)) (World.drew w52) from ⟨Upd.drew hrS.1, hrS.2⟩)
          clear hrK hrS
          refine wp_region_noPanic ?_
          refine wp_region_held_drew (S := fun W : World => Upd (s :: blkOf (some ⟨gb, 0, none⟩)) w W ∧ Blk W s 40 #[.slice (some ⟨gb, 0, none⟩) n c, .int .i64 ((tk : Nat) : Int)] ∧ (W).ownsRow lo 5 1 (.slice (some ⟨gb, 0, none⟩) n c) n (cells zs) ∧ BV W (some ⟨gb, tk, none⟩) (n - tk) (165 :: r)) (by kernel_rfl) HRD.out (fun hHeld => ?_)
          refine wpAnyH_take (i := 0) (oi := ?o5__0) (v := .pointer (some ⟨s, 0, none⟩)) ?h5__0 (by kernel_rfl) (by kernel_rfl) (by kernel_rfl) ?q5__0 ?y5__0 (by assumption) ?_
          case h5__0 => (first | (simp only [gA, gB, gC]; done) | (simp only [gA, gB, gC]; exact rfl))
          case q5__0 => exact fun _ _ _ h => h
          case y5__0 => (refine Or.inl ⟨rfl, ?_⟩; intro w hSw; (first | rfl | (go_simp; (try with_reducible rfl))))
          (try simp only [Act.put, sA, sB, sC])
          refine wpAnyH_take (i := 1) (oi := ?o5__1) (v := .pointer (some ⟨s, 0, none⟩)) ?h5__1 (by kernel_rfl) (by kernel_rfl) (by kernel_rfl) ?q5__1 ?y5__1 (by assumption) ?_
          case h5__1 => (first | (simp only [gA, gB, gC]; done) | (simp only [gA, gB, gC]; exact rfl))
          case q5__1 => exact fun _ _ _ h => h
          case y5__1 => (refine Or.inl ⟨rfl, ?_⟩; intro w hSw; (first | rfl | (go_simp; (try with_reducible rfl))))
          (try simp only [Act.put, sA, sB, sC])
          refine wpAnyH_take (i := 2) (oi := ?o5__2) (v := .pointer (some ⟨s, 0, none⟩)) ?h5__2 (by kernel_rfl) (by kernel_rfl) (by kernel_rfl) ?q5__2 ?y5__2 (by assumption) ?_
          case h5__2 => (first | (simp only [gA, gB, gC]; done) | (simp only [gA, gB, gC]; exact rfl))
          case q5__2 => exact fun _ _ _ h => h
          case y5__2 => (refine Or.inl ⟨rfl, ?_⟩; intro w hSw; (first | rfl | (go_simp; (try with_reducible rfl))))
          (try simp only [Act.put, sA, sB, sC])
          refine wpAnyH_take (i := 3) (oi := ?o5__3) (v := .slice (some ⟨gb, 0, none⟩) n c) ?h5__3 (by kernel_rfl) (by kernel_rfl) (by kernel_rfl) ?q5__3 ?y5__3 (by assumption) ?_
          case h5__3 => (first | (simp only [gA, gB, gC]; done) | (simp only [gA, gB, gC]; exact rfl))
          case q5__3 => exact fun _ _ _ h => h
          case y5__3 => (refine Or.inl ⟨rfl, ?_⟩; intro w hSw; exact exec_cell 22 _ _ hSw.2.1 rfl rfl rfl Try.underlying22 rfl)
          (try simp only [Act.put, sA, sB, sC])
          refine wpAnyH_take (i := 4) (oi := ?o5__4) (v := .pointer (some ⟨s, 0, none⟩)) ?h5__4 (by kernel_rfl) (by kernel_rfl) (by kernel_rfl) ?q5__4 ?y5__4 (by assumption) ?_
          case h5__4 => (first | (simp only [gA, gB, gC]; done) | (simp only [gA, gB, gC]; exact rfl))
          case q5__4 => exact fun _ _ _ h => h
          case y5__4 => (refine Or.inl ⟨rfl, ?_⟩; intro w hSw; (first | rfl | (go_simp; (try with_reducible rfl))))
          (try simp only [Act.put, sA, sB, sC])
          refine wpAnyH_take (i := 5) (oi := ?o5__5) (v := .pointer (some ⟨s, 0, none⟩)) ?h5__5 (by kernel_rfl) (by kernel_rfl) (by kernel_rfl) ?q5__5 ?y5__5 (by assumption) ?_
          case h5__5 => (first | (simp only [gA, gB, gC]; done) | (simp only [gA, gB, gC]; exact rfl))
          case q5__5 => exact fun _ _ _ h => h
          case y5__5 => (refine Or.inl ⟨rfl, ?_⟩; intro w hSw; (first | rfl | (go_simp; (try with_reducible rfl))))
          (try simp only [Act.put, sA, sB, sC])
          refine wpAnyH_take (i := 6) (oi := ?o5__6) (v := .pointer (some ⟨s, 1, none⟩)) ?h5__6 (by kernel_rfl) (by kernel_rfl) (by kernel_rfl) ?q5__6 ?y5__6 (by assumption) ?_
          case h5__6 => (first | (simp only [gA, gB, gC]; done) | (simp only [gA, gB, gC]; exact rfl))
          case q5__6 => exact fun _ _ _ h => h
          case y5__6 => (refine Or.inl ⟨rfl, ?_⟩; intro w hSw; (first | rfl | (go_simp; (try with_reducible rfl))))
          (try simp only [Act.put, sA, sB, sC])
          refine wpAnyH_take (i := 7) (oi := ?o5__7) (v := .int .i64 ((tk : Nat) : Int)) ?h5__7 (by kernel_rfl) (by kernel_rfl) (by kernel_rfl) ?q5__7 ?y5__7 (by assumption) ?_
          case h5__7 => (first | (simp only [gA, gB, gC]; done) | (simp only [gA, gB, gC]; exact rfl))
          case q5__7 => exact fun _ _ _ h => h
          case y5__7 => (refine Or.inl ⟨rfl, ?_⟩; intro w hSw; exact exec_cell 3 _ _ hSw.2.1 rfl rfl rfl Try.underlying3 rfl)
          (try simp only [Act.put, sA, sB, sC])
          refine wpAnyH_take (i := 8) (oi := ?o5__8) (v := .slice (some ⟨gb, tk, none⟩) (n - tk) (c - tk)) ?h5__8 (by kernel_rfl) (by kernel_rfl) (by kernel_rfl) ?q5__8 ?y5__8 (by assumption) ?_
          case h5__8 => (first | (simp only [gA, gB, gC]; done) | (simp only [gA, gB, gC]; exact rfl))
          case q5__8 => exact fun _ _ _ h => h
          case y5__8 => (refine Or.inl ⟨rfl, ?_⟩; intro w hSw; exact exec_slice (s := 1) 22 5 _ _ _ _ rfl rfl Try.underlying22 (by kernel_rfl) (sb_l _ _ (l := tk) rfl HTK.out) (by have := HLT.out; have := HCP.out; rw [if_neg (by omega)]; simp [Go.WideShapes.add_plain]) rfl rfl)
          (try simp only [Act.put, sA, sB, sC])
          refine wpAnyH_ready (rs := [9]) (by kernel_rfl) (by simp) ?_
          refine AllReadyH.cons (o := ?o5__9) ?h5__9 (fun K hK => ?_) AllReadyH.nil
          case h5__9 => (first | (simp only [gA, gB, gC]; done) | (simp only [gA, gB, gC]; exact rfl))
          (try go_simp)
          refine (firstF2 gb tk (n - tk) (c - tk) 165 r _ (hHeld.2.2.2) HCC.out HNN.out H1.out H2.out).mono ?_
          rintro e w53 ⟨rfl, hb⟩
          (try go_wp2_with fail)
          refine hK.out _ _ (by (apply HRK.out; exact hb; exact hHeld)) (fun hHeld2 => ?_)
          clear hK K hHeld hb
          have hHeld := hHeld2
          clear hHeld2
          (try simp only [Act.put, sA, sB, sC])
          refine wpAnyH_take (i := 10) (oi := ?o5__10) (v := .tuple #[.slice none 0 0, .bool false]) ?h5__10 (by kernel_rfl) (by kernel_rfl) (by kernel_rfl) ?q5__10 ?y5__10 (by assumption) ?_
          case h5__10 => (first | (simp only [gA, gB, gC]; done) | (simp only [gA, gB, gC]; exact rfl))
          case q5__10 => exact fun _ _ _ h => h
          case y5__10 => (refine Or.inl ⟨rfl, ?_⟩; intro w hSw; (first | rfl | (go_simp; (try with_reducible rfl))))
          (try simp only [Act.put, sA, sB, sC])
          refine wpAnyH_take (i := 11) (oi := ?o5__11) (v := .slice none 0 0) ?h5__11 (by kernel_rfl) (by kernel_rfl) (by kernel_rfl) ?q5__11 ?y5__11 (by assumption) ?_
          case h5__11 => (first | (simp only [gA, gB, gC]; done) | (simp only [gA, gB, gC]; exact rfl))
          case q5__11 => exact fun _ _ _ h => h
          case y5__11 => (refine Or.inl ⟨rfl, ?_⟩; intro w hSw; (first | rfl | (go_simp; (try with_reducible rfl))))
          (try simp only [Act.put, sA, sB, sC])
          refine wpAnyH_take (i := 12) (oi := ?o5__12) (v := .bool false) ?h5__12 (by kernel_rfl) (by kernel_rfl) (by kernel_rfl) ?q5__12 ?y5__12 (by assumption) ?_
          case h5__12 => (first | (simp only [gA, gB, gC]; done) | (simp only [gA, gB, gC]; exact rfl))
          case q5__12 => exact fun _ _ _ h => h
          case y5__12 => (refine Or.inl ⟨rfl, ?_⟩; intro w hSw; (first | rfl | (go_simp; (try with_reducible rfl))))
          (try simp only [Act.put, sA, sB, sC])
          refine wpAnyH_take (i := 13) (oi := ?o5__13) (v := .slice none 0 0) ?h5__13 (by kernel_rfl) (by kernel_rfl) (by kernel_rfl) ?q5__13 ?y5__13 (by assumption) ?_
          case h5__13 => (first | (simp only [gA, gB, gC]; done) | (simp only [gA, gB, gC]; exact rfl))
          case q5__13 => exact fun _ _ _ h => h
          case y5__13 => (refine Or.inl ⟨rfl, ?_⟩; intro w hSw; (first | rfl | (go_simp; (try with_reducible rfl))))
          (try simp only [Act.put, sA, sB, sC])
          refine wpAnyH_take (i := 14) (oi := ?o5__14) (v := .bool false) ?h5__14 (by kernel_rfl) (by kernel_rfl) (by kernel_rfl) ?q5__14 ?y5__14 (by assumption) ?_
          case h5__14 => (first | (simp only [gA, gB, gC]; done) | (simp only [gA, gB, gC]; exact rfl))
          case q5__14 => exact fun _ _ _ h => h
          case y5__14 => (refine Or.inl ⟨rfl, ?_⟩; intro w hSw; (first | rfl | (go_simp; (try with_reducible rfl))))
          (try simp only [Act.put, sA, sB, sC])
          refine wpAnyH_done (by kernel_rfl) ?_ _
          refine NoPanic.normal ?_
          have HSd5v2 := Lib.hid hHeld.1
          have HBQd5v2 := Lib.hid (hHeld.2.1)
          have HFrd5v2 := Lib.hid (hHeld.2.2.1)
          have HFbvd5v2 := Lib.hid (hHeld.2.2.2)
          clear hHeld HRK HRD HS52 HBQ52 HFr52 HBV
          go_upto_region 6 with fail
          refine wp_region_lit ?_
          refine wpList_q (by rfl) (.bool false) ?he ?_
          case he => (first | rfl | (go_simp; (try with_reducible rfl)))
          (try simp only [Act.put, sA, sB, sC])
          refine wpList_q (by rfl) (.bool true) ?he ?_
          case he => (go_simp; (try with_reducible rfl))
          (try simp only [Act.put, sA, sB, sC])
          refine wpList_nil ?_
          go_upto_region 7 with fail
          refine wp_region_lit ?_
          refine wpList_q (by rfl) (.slice none 0 0) ?he ?_
          case he => (first | rfl | (go_simp; (try with_reducible rfl)))
          (try simp only [Act.put, sA, sB, sC])
          refine wpList_q (by rfl) (.bool false) ?he ?_
          case he => (first | rfl | (go_simp; (try with_reducible rfl)))
          (try simp only [Act.put, sA, sB, sC])
          refine wpList_nil ?_
          have HTK2 := Lib.hid HTK.out
          (try go_wp2_with fail)
          (try simp only [Exit.inBlock, Exit.then])
          refine leaves_cons (f := 25) (args := #[.pointer (some ⟨s, 0, none⟩)]) (by simp) (by simp [go_sem]) ?_
          refine (forgetD lo s (some ⟨gb, 0, none⟩) n c tk zs .returning _ HBQd5v2.out HFrd5v2.out HB.out HTK2.out HN.out H0.out).mono ?_
          rintro e u' wz ⟨rfl, rfl, S', hSO, hU, hfar⟩
          have HU2 := Upd.comp HSd5v2.out hU (fun g h => .inl h)
          have HF2 : ∀ g ∈ S', g ∈ s :: blkOf (some ⟨gb, 0, none⟩) ∨ w.heap.size ≤ g := fun g hg => by rcases hfar g hg with h | h; exact .inl h; exact .inr (Nat.le_trans (Upd.size HSd5v2.out) h)
          have HNF := (show nextF xs = (none, zs.drop tk) from by rw [← HINV.out, HXR.out]; exact nx2 (List.eq_nil_of_length_eq_zero (by have := H2.out; have := HRL.out; omega)))
          exact ⟨_, results_tmp2 rfl _ _ _, by rw [HNF]; exact ⟨S', hSO, HU2, HF2, rfl⟩⟩
theorem nextT (lo s N : Nat) (xs : List Int) (S : List Nat) (w : World) (h : SO lo s N xs S w) (hN : N ≤ 1000000) : Calls Try.prog 20 #[.pointer (some ⟨s, 0, none⟩)] w (NX lo s N S w (nextF xs)) := by
  obtain ⟨h0, A, n, c, tk, zs, rfl, B, O, r1, r2, r3, r4⟩ := h
  refine (nextA lo s A n c tk zs xs w B O r1 r2 (by omega) h0 r3).mono ?_
  rintro e w1 ⟨S', a, b⟩
  exact ⟨S', a.more r4, b⟩
end Go.Proofs.Ytfggnchfkoifeaa.Fq
