/-
  a stream's forget and Next: walked.
  Conditions: what stands ahead of each.
-/
import Derived.Defers
import Derived.Test.YtfggnchfkoifeaaProg
import Derived.Test.YtfggnchfkoifeaaFraB
namespace Go.Proofs.Ytfggnchfkoifeaa.Fq
set_option linter.unusedVariables false
set_option linter.unusedSimpArgs false
open Go.RowKit Go.Proofs.Ytfggnchfkoifeaa.Ba Go.Proofs.Ytfggnchfkoifeaa.Mem Go.Proofs.Ytfggnchfkoifeaa.Cm Go.Proofs.Ytfggnchfkoifeaa.Fm
open Go.Proofs.Ytfggnchfkoifeaa.Byt (BV isB cells)
set_option maxRecDepth 100000
attribute [local irreducible] Go.wpList
set_option maxHeartbeats 4000000 in
theorem forgetNo (lo s : Nat) (A : Option Addr) (n c tk : Nat) (zs : List Int) (u : FrameMode) (w : World) (hq : Blk w s 40 #[.slice A n c, .int .i64 ((tk : Nat) : Int)]) (ho : w.ownsRow lo 5 1 (.slice A n c) n (cells zs)) (hb : ∀ z ∈ zs, isB z) (ht : tk ≤ n) (hn : n ≤ 1000000) (h0 : lo ≤ s) (hg : ¬ n < tk + tk) : CallsD Try.prog 25 #[.pointer (some ⟨s, 0, none⟩)] u w fun e u' w' => u' = u ∧ (e = .returned (.tuple #[]) ∧ ∃ S', SO lo s n (zs.drop tk) S' w' ∧ Upd (s :: blkOf A) w w' ∧ ∀ g ∈ S', g ∈ s :: blkOf A ∨ w.heap.size ≤ g) := by
  have HBQ := Lib.hid hq
  clear hq
  have HOW := Lib.hid ho
  clear ho
  have HB := Lib.hid hb
  clear hb
  have HT := Lib.hid ht
  clear ht
  have HN := Lib.hid hn
  clear hn
  have H0 := Lib.hid h0
  clear h0
  have HG := Lib.hid hg
  clear hg
  go_enter_d Try.func25, Try.ntmps25
  have HS1 := Lib.hid (Upd.refl (s :: blkOf A) w)
  have HLT := Lib.hid (show s < w.heap.size from Blk.lt HBQ.out)
  have HCP := Lib.hid (own_cap2 HOW.out)
  have HD := Lib.hid (bv_drop (BV.of_own HOW.out HB.out) HT.out HCP.out)
  go_upto_region 0 with fail
  have hrK : ∀ W W' : World, Since W W' → (Upd (s :: blkOf A) w W ∧ Blk W s 40 #[.slice A n c, .int .i64 ((tk : Nat) : Int)] ∧ (W).ownsRow lo 5 1 (.slice A n c) n (cells zs) ∧ BV W (cutA c tk A 1) (n - tk) (zs.drop tk)) → (Upd (s :: blkOf A) w W' ∧ Blk W' s 40 #[.slice A n c, .int .i64 ((tk : Nat) : Int)] ∧ (W').ownsRow lo 5 1 (.slice A n c) n (cells zs) ∧ BV W' (cutA c tk A 1) (n - tk) (zs.drop tk)) := fun W W' k ⟨h, h0, h1, h2⟩ => ⟨h.trans k, keep_blk k h0, keep_own k h1, keep_bv k h2⟩
  have hrS : (fun W : World => Upd (s :: blkOf A) w W ∧ Blk W s 40 #[.slice A n c, .int .i64 ((tk : Nat) : Int)] ∧ (W).ownsRow lo 5 1 (.slice A n c) n (cells zs) ∧ BV W (cutA c tk A 1) (n - tk) (zs.drop tk)) w := ⟨HS1.out, HBQ.out, HOW.out, HD.out⟩
  have HRK := Lib.hid hrK
  have HRD := Lib.hid (show (fun W : World => Upd (s :: blkOf A) w W ∧ Blk W s 40 #[.slice A n c, .int .i64 ((tk : Nat) : Int)] ∧ (W).ownsRow lo 5 1 (.slice A n c) n (cells zs) ∧ BV W (cutA c tk A 1) (n - tk) (zs.drop tk)) (World.drew w) from ⟨Upd.drew hrS.1, hrS.2⟩)
  clear hrK hrS
  refine wp_region_held_drew (S := fun W : World => Upd (s :: blkOf A) w W ∧ Blk W s 40 #[.slice A n c, .int .i64 ((tk : Nat) : Int)] ∧ (W).ownsRow lo 5 1 (.slice A n c) n (cells zs) ∧ BV W (cutA c tk A 1) (n - tk) (zs.drop tk)) (by kernel_rfl) HRD.out (fun hHeld => ?_)
  refine wpAnyH_take (i := 0) (oi := ?o0__0) (v := .pointer (some ⟨s, 0, none⟩)) ?h0__0 (by kernel_rfl) (by kernel_rfl) (by kernel_rfl) ?q0__0 ?y0__0 (by assumption) ?_
  case h0__0 => (first | (simp only [gA, gB, gC]; done) | (simp only [gA, gB, gC]; exact rfl))
  case q0__0 => exact fun _ _ _ h => h
  case y0__0 => (refine Or.inl ⟨rfl, ?_⟩; intro w hSw; (first | rfl | (go_simp; (try with_reducible rfl))))
  (try simp only [Act.put, sA, sB, sC])
  refine wpAnyH_take (i := 1) (oi := ?o0__1) (v := .pointer (some ⟨s, 0, none⟩)) ?h0__1 (by kernel_rfl) (by kernel_rfl) (by kernel_rfl) ?q0__1 ?y0__1 (by assumption) ?_
  case h0__1 => (first | (simp only [gA, gB, gC]; done) | (simp only [gA, gB, gC]; exact rfl))
  case q0__1 => exact fun _ _ _ h => h
  case y0__1 => (refine Or.inl ⟨rfl, ?_⟩; intro w hSw; (first | rfl | (go_simp; (try with_reducible rfl))))
  (try simp only [Act.put, sA, sB, sC])
  refine wpAnyH_take (i := 2) (oi := ?o0__2) (v := .pointer (some ⟨s, 1, none⟩)) ?h0__2 (by kernel_rfl) (by kernel_rfl) (by kernel_rfl) ?q0__2 ?y0__2 (by assumption) ?_
  case h0__2 => (first | (simp only [gA, gB, gC]; done) | (simp only [gA, gB, gC]; exact rfl))
  case q0__2 => exact fun _ _ _ h => h
  case y0__2 => (refine Or.inl ⟨rfl, ?_⟩; intro w hSw; (first | rfl | (go_simp; (try with_reducible rfl))))
  (try simp only [Act.put, sA, sB, sC])
  refine wpAnyH_take (i := 3) (oi := ?o0__3) (v := .int .i64 ((tk : Nat) : Int)) ?h0__3 (by kernel_rfl) (by kernel_rfl) (by kernel_rfl) ?q0__3 ?y0__3 (by assumption) ?_
  case h0__3 => (first | (simp only [gA, gB, gC]; done) | (simp only [gA, gB, gC]; exact rfl))
  case q0__3 => exact fun _ _ _ h => h
  case y0__3 => (refine Or.inl ⟨rfl, ?_⟩; intro w hSw; exact exec_cell 3 _ _ hSw.2.1 rfl rfl rfl Try.underlying3 rfl)
  (try simp only [Act.put, sA, sB, sC])
  refine wpAnyH_take (i := 4) (oi := ?o0__4) (v := .pointer (some ⟨s, 0, none⟩)) ?h0__4 (by kernel_rfl) (by kernel_rfl) (by kernel_rfl) ?q0__4 ?y0__4 (by assumption) ?_
  case h0__4 => (first | (simp only [gA, gB, gC]; done) | (simp only [gA, gB, gC]; exact rfl))
  case q0__4 => exact fun _ _ _ h => h
  case y0__4 => (refine Or.inl ⟨rfl, ?_⟩; intro w hSw; (first | rfl | (go_simp; (try with_reducible rfl))))
  (try simp only [Act.put, sA, sB, sC])
  refine wpAnyH_ready (rs := [5]) (by kernel_rfl) (by simp) ?_
  refine AllReadyH.cons (o := ?o0__5) ?h0__5 (fun K hK => ?_) AllReadyH.nil
  case h0__5 => (first | (simp only [gA, gB, gC]; done) | (simp only [gA, gB, gC]; exact rfl))
  (try go_simp)
  refine (heldA s A n c tk _ (hHeld.2.1) HT.out HN.out).mono ?_
  rintro e w2 ⟨rfl, hb⟩
  (try go_wp2_with fail)
  refine hK.out _ _ (by (apply HRK.out; exact hb; exact hHeld)) (fun hHeld2 => ?_)
  clear hK K hHeld hb
  have hHeld := hHeld2
  clear hHeld2
  (try simp only [Act.put, sA, sB, sC])
  refine wpAnyH_take (i := 6) (oi := ?o0__6) (v := .bool false) ?h0__6 (by kernel_rfl) (by kernel_rfl) (by kernel_rfl) ?q0__6 ?y0__6 (by assumption) ?_
  case h0__6 => (first | (simp only [gA, gB, gC]; done) | (simp only [gA, gB, gC]; exact rfl))
  case q0__6 => exact fun _ _ _ h => h
  case y0__6 => (refine Or.inl ⟨rfl, ?_⟩; intro w hSw; (have q0 := HG.out; go_simp; (first | done | rfl | omega)))
  (try simp only [Act.put, sA, sB, sC])
  refine wpAnyH_done (by kernel_rfl) ?_ _
  have HSd0 := Lib.hid hHeld.1
  have HBQd0 := Lib.hid (hHeld.2.1)
  have HFrd0 := Lib.hid (hHeld.2.2.1)
  have HFbvd0 := Lib.hid (hHeld.2.2.2)
  clear hHeld HRK HRD HS1 HBQ HOW HD
  (try go_wp2_with fail)
  first | go_end0 | refine bodyPost_ret (results_none rfl _ _ _) rfl ?_
  exact ⟨rfl, s :: blkOf A, ⟨H0.out, A, n, c, tk, zs, rfl, HBQd0.out, HFrd0.out, HB.out, HT.out, rfl, Nat.le_refl _⟩, HSd0.out, fun g hg => .inl hg⟩
set_option maxHeartbeats 4000000 in
theorem forgetYes (lo s : Nat) (A : Option Addr) (n c tk : Nat) (zs : List Int) (u : FrameMode) (w : World) (hq : Blk w s 40 #[.slice A n c, .int .i64 ((tk : Nat) : Int)]) (ho : w.ownsRow lo 5 1 (.slice A n c) n (cells zs)) (hb : ∀ z ∈ zs, isB z) (ht : tk ≤ n) (hn : n ≤ 1000000) (h0 : lo ≤ s) (hg : n < tk + tk) : CallsD Try.prog 25 #[.pointer (some ⟨s, 0, none⟩)] u w fun e u' w' => u' = u ∧ (e = .returned (.tuple #[]) ∧ ∃ S', SO lo s n (zs.drop tk) S' w' ∧ Upd (s :: blkOf A) w w' ∧ ∀ g ∈ S', g ∈ s :: blkOf A ∨ w.heap.size ≤ g) := by
  have HBQ := Lib.hid hq
  clear hq
  have HOW := Lib.hid ho
  clear ho
  have HB := Lib.hid hb
  clear hb
  have HT := Lib.hid ht
  clear ht
  have HN := Lib.hid hn
  clear hn
  have H0 := Lib.hid h0
  clear h0
  have HG := Lib.hid hg
  clear hg
  go_enter_d Try.func25, Try.ntmps25
  have HS1 := Lib.hid (Upd.refl (s :: blkOf A) w)
  have HLT := Lib.hid (show s < w.heap.size from Blk.lt HBQ.out)
  have HCP := Lib.hid (own_cap2 HOW.out)
  have HD := Lib.hid (bv_drop (BV.of_own HOW.out HB.out) HT.out HCP.out)
  go_upto_region 0 with fail
  have hrK : ∀ W W' : World, Since W W' → (Upd (s :: blkOf A) w W ∧ Blk W s 40 #[.slice A n c, .int .i64 ((tk : Nat) : Int)] ∧ BV W (cutA c tk A 1) (n - tk) (zs.drop tk)) → (Upd (s :: blkOf A) w W' ∧ Blk W' s 40 #[.slice A n c, .int .i64 ((tk : Nat) : Int)] ∧ BV W' (cutA c tk A 1) (n - tk) (zs.drop tk)) := fun W W' k ⟨h, h0, h1⟩ => ⟨h.trans k, keep_blk k h0, keep_bv k h1⟩
  have hrS : (fun W : World => Upd (s :: blkOf A) w W ∧ Blk W s 40 #[.slice A n c, .int .i64 ((tk : Nat) : Int)] ∧ BV W (cutA c tk A 1) (n - tk) (zs.drop tk)) w := ⟨HS1.out, HBQ.out, HD.out⟩
  have HRK := Lib.hid hrK
  have HRD := Lib.hid (show (fun W : World => Upd (s :: blkOf A) w W ∧ Blk W s 40 #[.slice A n c, .int .i64 ((tk : Nat) : Int)] ∧ BV W (cutA c tk A 1) (n - tk) (zs.drop tk)) (World.drew w) from ⟨Upd.drew hrS.1, hrS.2⟩)
  clear hrK hrS
  refine wp_region_held_drew (S := fun W : World => Upd (s :: blkOf A) w W ∧ Blk W s 40 #[.slice A n c, .int .i64 ((tk : Nat) : Int)] ∧ BV W (cutA c tk A 1) (n - tk) (zs.drop tk)) (by kernel_rfl) HRD.out (fun hHeld => ?_)
  refine wpAnyH_take (i := 0) (oi := ?o0__0) (v := .pointer (some ⟨s, 0, none⟩)) ?h0__0 (by kernel_rfl) (by kernel_rfl) (by kernel_rfl) ?q0__0 ?y0__0 (by assumption) ?_
  case h0__0 => (first | (simp only [gA, gB, gC]; done) | (simp only [gA, gB, gC]; exact rfl))
  case q0__0 => exact fun _ _ _ h => h
  case y0__0 => (refine Or.inl ⟨rfl, ?_⟩; intro w hSw; (first | rfl | (go_simp; (try with_reducible rfl))))
  (try simp only [Act.put, sA, sB, sC])
  refine wpAnyH_take (i := 1) (oi := ?o0__1) (v := .pointer (some ⟨s, 0, none⟩)) ?h0__1 (by kernel_rfl) (by kernel_rfl) (by kernel_rfl) ?q0__1 ?y0__1 (by assumption) ?_
  case h0__1 => (first | (simp only [gA, gB, gC]; done) | (simp only [gA, gB, gC]; exact rfl))
  case q0__1 => exact fun _ _ _ h => h
  case y0__1 => (refine Or.inl ⟨rfl, ?_⟩; intro w hSw; (first | rfl | (go_simp; (try with_reducible rfl))))
  (try simp only [Act.put, sA, sB, sC])
  refine wpAnyH_take (i := 2) (oi := ?o0__2) (v := .pointer (some ⟨s, 1, none⟩)) ?h0__2 (by kernel_rfl) (by kernel_rfl) (by kernel_rfl) ?q0__2 ?y0__2 (by assumption) ?_
  case h0__2 => (first | (simp only [gA, gB, gC]; done) | (simp only [gA, gB, gC]; exact rfl))
  case q0__2 => exact fun _ _ _ h => h
  case y0__2 => (refine Or.inl ⟨rfl, ?_⟩; intro w hSw; (first | rfl | (go_simp; (try with_reducible rfl))))
  (try simp only [Act.put, sA, sB, sC])
  refine wpAnyH_take (i := 3) (oi := ?o0__3) (v := .int .i64 ((tk : Nat) : Int)) ?h0__3 (by kernel_rfl) (by kernel_rfl) (by kernel_rfl) ?q0__3 ?y0__3 (by assumption) ?_
  case h0__3 => (first | (simp only [gA, gB, gC]; done) | (simp only [gA, gB, gC]; exact rfl))
  case q0__3 => exact fun _ _ _ h => h
  case y0__3 => (refine Or.inl ⟨rfl, ?_⟩; intro w hSw; exact exec_cell 3 _ _ hSw.2.1 rfl rfl rfl Try.underlying3 rfl)
  (try simp only [Act.put, sA, sB, sC])
  refine wpAnyH_take (i := 4) (oi := ?o0__4) (v := .pointer (some ⟨s, 0, none⟩)) ?h0__4 (by kernel_rfl) (by kernel_rfl) (by kernel_rfl) ?q0__4 ?y0__4 (by assumption) ?_
  case h0__4 => (first | (simp only [gA, gB, gC]; done) | (simp only [gA, gB, gC]; exact rfl))
  case q0__4 => exact fun _ _ _ h => h
  case y0__4 => (refine Or.inl ⟨rfl, ?_⟩; intro w hSw; (first | rfl | (go_simp; (try with_reducible rfl))))
  (try simp only [Act.put, sA, sB, sC])
  refine wpAnyH_ready (rs := [5]) (by kernel_rfl) (by simp) ?_
  refine AllReadyH.cons (o := ?o0__5) ?h0__5 (fun K hK => ?_) AllReadyH.nil
  case h0__5 => (first | (simp only [gA, gB, gC]; done) | (simp only [gA, gB, gC]; exact rfl))
  (try go_simp)
  refine (heldA s A n c tk _ (hHeld.2.1) HT.out HN.out).mono ?_
  rintro e w2 ⟨rfl, hb⟩
  (try go_wp2_with fail)
  refine hK.out _ _ (by (apply HRK.out; exact hb; exact hHeld)) (fun hHeld2 => ?_)
  clear hK K hHeld hb
  have hHeld := hHeld2
  clear hHeld2
  (try simp only [Act.put, sA, sB, sC])
  refine wpAnyH_take (i := 6) (oi := ?o0__6) (v := .bool true) ?h0__6 (by kernel_rfl) (by kernel_rfl) (by kernel_rfl) ?q0__6 ?y0__6 (by assumption) ?_
  case h0__6 => (first | (simp only [gA, gB, gC]; done) | (simp only [gA, gB, gC]; exact rfl))
  case q0__6 => exact fun _ _ _ h => h
  case y0__6 => (refine Or.inl ⟨rfl, ?_⟩; intro w hSw; (have q0 := HG.out; go_simp; (first | done | rfl | omega)))
  (try simp only [Act.put, sA, sB, sC])
  refine wpAnyH_done (by kernel_rfl) ?_ _
  have HSd0 := Lib.hid hHeld.1
  have HBQd0 := Lib.hid (hHeld.2.1)
  have HFbvd0 := Lib.hid (hHeld.2.2)
  clear hHeld HRK HRD HS1 HBQ HD
  go_upto_region 1 with fail
  have hrK : ∀ W W' : World, Since W W' → (Upd (s :: blkOf A) w W ∧ HasRow W s 40 2) → (Upd (s :: blkOf A) w W' ∧ HasRow W' s 40 2) := fun W W' k ⟨h, h0⟩ => ⟨h.trans k, HasRow.keep k h0⟩
  have hrS : (fun W : World => Upd (s :: blkOf A) w W ∧ HasRow W s 40 2) w2 := ⟨HSd0.out, HasRow.of HBQd0.out rfl⟩
  have HRK := Lib.hid hrK
  have HRD := Lib.hid (show (fun W : World => Upd (s :: blkOf A) w W ∧ HasRow W s 40 2) (World.drew w2) from ⟨Upd.drew hrS.1, hrS.2⟩)
  clear hrK hrS
  have HPQ := Lib.hid (show Blk (World.drew w2) s 40 #[.slice A n c, .int .i64 ((tk : Nat) : Int)] from HBQd0.out)
  refine wp_region_held_drew (S := fun W : World => Upd (s :: blkOf A) w W ∧ HasRow W s 40 2) (by kernel_rfl) HRD.out (fun hHeld => ?_)
  refine wpAnyH_take (i := 0) (oi := ?o1__0) (v := .pointer (some ⟨s, 0, none⟩)) ?h1__0 (by kernel_rfl) (by kernel_rfl) (by kernel_rfl) ?q1__0 ?y1__0 (by assumption) ?_
  case h1__0 => (first | (simp only [gA, gB, gC]; done) | (simp only [gA, gB, gC]; exact rfl))
  case q1__0 => exact fun _ _ _ h => h
  case y1__0 => (refine Or.inl ⟨rfl, ?_⟩; intro w hSw; (first | rfl | (go_simp; (try with_reducible rfl))))
  (try simp only [Act.put, sA, sB, sC])
  refine wpAnyH_take (i := 1) (oi := ?o1__1) (v := .pointer (some ⟨s, 0, none⟩)) ?h1__1 (by kernel_rfl) (by kernel_rfl) (by kernel_rfl) ?q1__1 ?y1__1 (by assumption) ?_
  case h1__1 => (first | (simp only [gA, gB, gC]; done) | (simp only [gA, gB, gC]; exact rfl))
  case q1__1 => exact fun _ _ _ h => h
  case y1__1 => (refine Or.inl ⟨rfl, ?_⟩; intro w hSw; (first | rfl | (go_simp; (try with_reducible rfl))))
  (try simp only [Act.put, sA, sB, sC])
  refine wpAnyH_take (i := 2) (oi := ?o1__2) (v := .pointer (some ⟨s, 0, none⟩)) ?h1__2 (by kernel_rfl) (by kernel_rfl) (by kernel_rfl) ?q1__2 ?y1__2 (by assumption) ?_
  case h1__2 => (first | (simp only [gA, gB, gC]; done) | (simp only [gA, gB, gC]; exact rfl))
  case q1__2 => exact fun _ _ _ h => h
  case y1__2 => (refine Or.inl ⟨rfl, ?_⟩; intro w hSw; (first | rfl | (go_simp; (try with_reducible rfl))))
  (try simp only [Act.put, sA, sB, sC])
  refine wpAnyH_take (i := 3) (oi := ?o1__3) (v := .pointer (some ⟨s, 0, none⟩)) ?h1__3 (by kernel_rfl) (by kernel_rfl) (by kernel_rfl) ?q1__3 ?y1__3 (by assumption) ?_
  case h1__3 => (first | (simp only [gA, gB, gC]; done) | (simp only [gA, gB, gC]; exact rfl))
  case q1__3 => exact fun _ _ _ h => h
  case y1__3 => (refine Or.inl ⟨rfl, ?_⟩; intro w hSw; (first | rfl | (go_simp; (try with_reducible rfl))))
  (try simp only [Act.put, sA, sB, sC])
  refine wpAnyH_take (i := 5) (oi := ?o1__5) (v := .pointer (some ⟨s, 0, none⟩)) ?h1__5 (by kernel_rfl) (by kernel_rfl) (by kernel_rfl) ?q1__5 ?y1__5 (by assumption) ?_
  case h1__5 => (first | (simp only [gA, gB, gC]; done) | (simp only [gA, gB, gC]; exact rfl))
  case q1__5 => exact fun _ _ _ h => h
  case y1__5 => (refine Or.inl ⟨rfl, ?_⟩; intro w hSw; (first | rfl | (go_simp; (try with_reducible rfl))))
  (try simp only [Act.put, sA, sB, sC])
  refine wpAnyH_take (i := 6) (oi := ?o1__6) (v := .pointer (some ⟨s, 0, none⟩)) ?h1__6 (by kernel_rfl) (by kernel_rfl) (by kernel_rfl) ?q1__6 ?y1__6 (by assumption) ?_
  case h1__6 => (first | (simp only [gA, gB, gC]; done) | (simp only [gA, gB, gC]; exact rfl))
  case q1__6 => exact fun _ _ _ h => h
  case y1__6 => (refine Or.inl ⟨rfl, ?_⟩; intro w hSw; (first | rfl | (go_simp; (try with_reducible rfl))))
  (try simp only [Act.put, sA, sB, sC])
  refine wpAnyH_take (i := 7) (oi := ?o1__7) (v := .pointer (some ⟨s, 1, none⟩)) ?h1__7 (by kernel_rfl) (by kernel_rfl) (by kernel_rfl) ?q1__7 ?y1__7 (by assumption) ?_
  case h1__7 => (first | (simp only [gA, gB, gC]; done) | (simp only [gA, gB, gC]; exact rfl))
  case q1__7 => exact fun _ _ _ h => h
  case y1__7 => (refine Or.inl ⟨rfl, ?_⟩; intro w hSw; (first | rfl | (go_simp; (try with_reducible rfl))))
  (try simp only [Act.put, sA, sB, sC])
  refine wpAnyH_ready (rs := [4, 8]) (by kernel_rfl) (by simp) ?_
  refine AllReadyH.cons (o := ?o1__4b) ?h1__4b (fun K hK => ?g1__4b) (AllReadyH.cons (o := ?o1__8b) ?h1__8b (fun K hK => ?g1__8b) AllReadyH.nil)
  case h1__4b => (first | (simp only [gA, gB, gC]; done) | (simp only [gA, gB, gC]; exact rfl))
  case h1__8b => (first | (simp only [gA, gB, gC]; done) | (simp only [gA, gB, gC]; exact rfl))
  case g1__4b =>
    rw [if_pos (by rfl)]
    refine wp_q (.slice A n c) ?e1_b4_4 ?_
    case e1_b4_4 => exact exec_cell 22 _ _ HPQ.out rfl rfl rfl Try.underlying22 rfl
    refine hK.out _ _ hHeld (fun hHeld2 => ?_)
    clear hK K hHeld2
    (try simp only [Act.put, sA, sB, sC])
    refine wpAnyH_ready (rs := [8]) (by kernel_rfl) (by simp) ?_
    refine AllReadyH.cons (o := ?o1_b4_8) ?h1_b4_8 (fun K hK => ?_) AllReadyH.nil
    case h1_b4_8 => (first | (simp only [gA, gB, gC]; done) | (simp only [gA, gB, gC]; exact rfl))
    rw [if_pos (by rfl)]
    refine wp_q (.int .i64 ((tk : Nat) : Int)) ?e1_b4_8 ?_
    case e1_b4_8 => exact exec_cell 3 _ _ HPQ.out rfl rfl rfl Try.underlying3 rfl
    refine hK.out _ _ hHeld (fun hHeld2 => ?_)
    clear hK K hHeld2
    (try simp only [Act.put, sA, sB, sC])
    refine wpAnyH_take (i := 9) (oi := ?o1_b4_9) (v := .slice (cutA c tk A 1) (n - tk) (c - tk)) ?h1_b4_9 (by kernel_rfl) (by kernel_rfl) (by kernel_rfl) ?q1_b4_9 ?y1_b4_9 (by assumption) ?_
    case h1_b4_9 => (first | (simp only [gA, gB, gC]; done) | (simp only [gA, gB, gC]; exact rfl))
    case q1_b4_9 => exact fun _ _ _ h => h
    case y1_b4_9 => (refine Or.inl ⟨rfl, ?_⟩; intro w hSw; exact exec_slice (s := 1) 22 5 _ _ _ _ rfl rfl Try.underlying22 (by kernel_rfl) (sb_l _ _ (l := tk) rfl HT.out) (by rfl) rfl rfl)
    (try simp only [Act.put, sA, sB, sC])
    refine wpAnyH_ready (rs := [10]) (by kernel_rfl) (by simp) ?_
    refine AllReadyH.cons (o := ?o1_b4_10) ?h1_b4_10 (fun K hK => ?_) AllReadyH.nil
    case h1_b4_10 => (first | (simp only [gA, gB, gC]; done) | (simp only [gA, gB, gC]; exact rfl))
    (try go_simp)
    refine (cloneB (cutA c tk A 1) (n - tk) (c - tk) (zs.drop tk) _ (BV.drew HFbvd0.out) (by have := HN.out; omega)).mono ?_
    rintro e w3 ⟨A2, c2, rfl, hown, hb⟩
    (try go_wp2_with fail)
    have HIs := Lib.hid (show s ∉ blkOf A2 from fun hA => by have q1 := own_low hown s hA; have q2 := Upd.size HSd0.out; have q3 := HLT.out; (try simp at q1); omega)
    have hown2 := own_base (lo' := lo) hown (by have q2 := Upd.size HSd0.out; have q3 := HLT.out; have q4 := H0.out; (try simp); omega)
    have HFR := Lib.hid (show ∀ g ∈ blkOf A2, w.heap.size ≤ g from fun g hA => by have q1 := own_low hown g hA; have q2 := Upd.size HSd0.out; (try simp at q1); omega)
    refine hK.out _ _ (by (apply HRK.out; exact hb; exact hHeld)) (fun hHeld2 => ?_)
    have HPQk := Lib.hid (keep_blk hb HPQ.out)
    clear HPQ
    clear hK K hHeld hb
    have hHeld := hHeld2
    clear hHeld2
    (try simp only [Act.put, sA, sB, sC])
    have HCL := Lib.hid hown2
    clear hown hown2
    refine wpAnyH_take (i := 11) (oi := ?o1_b4_11) (v := .pointer (some ⟨s, 0, none⟩)) ?h1_b4_11 (by kernel_rfl) (by kernel_rfl) (by kernel_rfl) ?q1_b4_11 ?y1_b4_11 (by assumption) ?_
    case h1_b4_11 => (first | (simp only [gA, gB, gC]; done) | (simp only [gA, gB, gC]; exact rfl))
    case q1_b4_11 => exact fun _ _ _ h => h
    case y1_b4_11 => (refine Or.inl ⟨rfl, ?_⟩; intro w hSw; (first | rfl | (go_simp; (try with_reducible rfl))))
    (try simp only [Act.put, sA, sB, sC])
    refine wpAnyH_take (i := 12) (oi := ?o1_b4_12) (v := .pointer (some ⟨s, 0, none⟩)) ?h1_b4_12 (by kernel_rfl) (by kernel_rfl) (by kernel_rfl) ?q1_b4_12 ?y1_b4_12 (by assumption) ?_
    case h1_b4_12 => (first | (simp only [gA, gB, gC]; done) | (simp only [gA, gB, gC]; exact rfl))
    case q1_b4_12 => exact fun _ _ _ h => h
    case y1_b4_12 => (refine Or.inl ⟨rfl, ?_⟩; intro w hSw; (first | rfl | (go_simp; (try with_reducible rfl))))
    (try simp only [Act.put, sA, sB, sC])
    refine wpAnyH_ready (rs := [13]) (by kernel_rfl) (by simp) ?_
    refine AllReadyH.cons (o := ?o1_b4_13) ?h1_b4_13 (fun K hK => ?_) AllReadyH.nil
    case h1_b4_13 => (first | (simp only [gA, gB, gC]; done) | (simp only [gA, gB, gC]; exact rfl))
    rw [if_pos (by rfl)]
    refine wp_st_cell 22 _ _ rfl #[.slice A2 (n - tk) c2, .int .i64 ((tk : Nat) : Int)] (.slice A2 (n - tk) c2) rfl rfl HPQk.out (by show 0 < 2; decide) rfl (by first | rfl | simp [Value.oneCell']) (by kernel_rfl) ?_
    clear HPQk
    intro w4 hw
    have HCLr := Lib.hid (show (w4).ownsRow lo 5 1 (.slice A2 (n - tk) c2) (n - tk) (cells (zs.drop tk)) by rw [hw]; exact own_row_far HCL.out HIs.out _)
    clear HCL
    have HRQ := Lib.hid (show Blk w4 s 40 #[.slice A2 (n - tk) c2, .int .i64 ((tk : Nat) : Int)] by obtain ⟨old, Bo, _⟩ := hHeld.2; rw [hw]; exact Blk.row Bo _)
    have hHeld3 : (fun W : World => Upd (s :: blkOf A) w W ∧ HasRow W s 40 2) w4 := ⟨by rw [hw]; exact Upd.setRow hHeld.1 (.inl (by simp)) _, HasRow.of HRQ.out rfl⟩
    refine hK.out _ _ hHeld3 (fun hHeld2 => ?_)
    clear hK K hHeld hHeld3 hw
    have hHeld := hHeld2
    clear hHeld2
    (try simp only [Act.put, sA, sB, sC])
    refine wpAnyH_done (by kernel_rfl) ?_ _
    have HSd1 := Lib.hid hHeld.1
    have HBQd1 := Lib.hid HRQ.out
    clear HRQ
    clear hHeld HRK HRD HSd0 HBQd0
    have HFcld1 := Lib.hid HCLr.out
    clear HCLr
    go_upto_region 2 with fail
    refine wp_region_lit ?_
    refine wpList_q (by rfl) (.pointer (some ⟨s, 0, none⟩)) ?he ?_
    case he => (first | rfl | (go_simp; (try with_reducible rfl)))
    (try simp only [Act.put, sA, sB, sC])
    refine wpList_q (by rfl) (.pointer (some ⟨s, 0, none⟩)) ?he ?_
    case he => (first | rfl | (go_simp; (try with_reducible rfl)))
    (try simp only [Act.put, sA, sB, sC])
    refine wpList_q (by rfl) (.pointer (some ⟨s, 1, none⟩)) ?he ?_
    case he => (first | rfl | (go_simp; (try with_reducible rfl)))
    (try simp only [Act.put, sA, sB, sC])
    refine wpList_wp (by rfl) (fun K hK => ?_)
    refine wp_st_cell 3 _ _ rfl #[.slice A2 (n - tk) c2, .int .i64 0] (.int .i64 0) rfl rfl HBQd1.out (by show 1 < 2; decide) rfl (by first | rfl | simp [Value.oneCell']) (by kernel_rfl) ?_
    intro w5 hw
    refine hK.out _ _ ?_
    clear hK K
    (try simp only [Act.put, sA, sB, sC])
    have HS5 := Lib.hid (show Upd (s :: blkOf A) w w5 by rw [hw]; exact Upd.setRow HSd1.out (.inl (by simp)) _)
    have HBQ5 := Lib.hid (show Blk w5 s 40 #[.slice A2 (n - tk) c2, .int .i64 0] by rw [hw]; exact Blk.row HBQd1.out _)
    have HFcl_5 := Lib.hid (show (w5).ownsRow lo 5 1 (.slice A2 (n - tk) c2) (n - tk) (cells (zs.drop tk)) by rw [hw]; exact own_row_far HFcld1.out HIs.out _)
    clear hw HSd1 HBQd1 HFcld1
    refine wpList_nil ?_
    (try go_wp2_with fail)
    first | go_end0 | refine bodyPost_ret (results_none rfl _ _ _) rfl ?_
    exact ⟨rfl, s :: blkOf A2, ⟨H0.out, A2, n - tk, c2, 0, zs.drop tk, rfl, HBQ5.out, HFcl_5.out, fun z hz => HB.out z (List.mem_of_mem_drop hz), Nat.zero_le _, rfl, Nat.sub_le _ _⟩, HS5.out, fun g hg => by rcases List.mem_cons.1 hg with rfl | hg; exact .inl (by simp); exact .inr (HFR.out g hg)⟩
  case g1__8b =>
    rw [if_pos (by rfl)]
    refine wp_q (.int .i64 ((tk : Nat) : Int)) ?e1_b8_8 ?_
    case e1_b8_8 => exact exec_cell 3 _ _ HPQ.out rfl rfl rfl Try.underlying3 rfl
    refine hK.out _ _ hHeld (fun hHeld2 => ?_)
    clear hK K hHeld2
    (try simp only [Act.put, sA, sB, sC])
    refine wpAnyH_ready (rs := [4]) (by kernel_rfl) (by simp) ?_
    refine AllReadyH.cons (o := ?o1_b8_4) ?h1_b8_4 (fun K hK => ?_) AllReadyH.nil
    case h1_b8_4 => (first | (simp only [gA, gB, gC]; done) | (simp only [gA, gB, gC]; exact rfl))
    rw [if_pos (by rfl)]
    refine wp_q (.slice A n c) ?e1_b8_4 ?_
    case e1_b8_4 => exact exec_cell 22 _ _ HPQ.out rfl rfl rfl Try.underlying22 rfl
    refine hK.out _ _ hHeld (fun hHeld2 => ?_)
    clear hK K hHeld2
    (try simp only [Act.put, sA, sB, sC])
    refine wpAnyH_take (i := 9) (oi := ?o1_b8_9) (v := .slice (cutA c tk A 1) (n - tk) (c - tk)) ?h1_b8_9 (by kernel_rfl) (by kernel_rfl) (by kernel_rfl) ?q1_b8_9 ?y1_b8_9 (by assumption) ?_
    case h1_b8_9 => (first | (simp only [gA, gB, gC]; done) | (simp only [gA, gB, gC]; exact rfl))
    case q1_b8_9 => exact fun _ _ _ h => h
    case y1_b8_9 => (refine Or.inl ⟨rfl, ?_⟩; intro w hSw; exact exec_slice (s := 1) 22 5 _ _ _ _ rfl rfl Try.underlying22 (by kernel_rfl) (sb_l _ _ (l := tk) rfl HT.out) (by rfl) rfl rfl)
    (try simp only [Act.put, sA, sB, sC])
    refine wpAnyH_ready (rs := [10]) (by kernel_rfl) (by simp) ?_
    refine AllReadyH.cons (o := ?o1_b8_10) ?h1_b8_10 (fun K hK => ?_) AllReadyH.nil
    case h1_b8_10 => (first | (simp only [gA, gB, gC]; done) | (simp only [gA, gB, gC]; exact rfl))
    (try go_simp)
    refine (cloneB (cutA c tk A 1) (n - tk) (c - tk) (zs.drop tk) _ (BV.drew HFbvd0.out) (by have := HN.out; omega)).mono ?_
    rintro e w3 ⟨A2, c2, rfl, hown, hb⟩
    (try go_wp2_with fail)
    have HIs := Lib.hid (show s ∉ blkOf A2 from fun hA => by have q1 := own_low hown s hA; have q2 := Upd.size HSd0.out; have q3 := HLT.out; (try simp at q1); omega)
    have hown2 := own_base (lo' := lo) hown (by have q2 := Upd.size HSd0.out; have q3 := HLT.out; have q4 := H0.out; (try simp); omega)
    have HFR := Lib.hid (show ∀ g ∈ blkOf A2, w.heap.size ≤ g from fun g hA => by have q1 := own_low hown g hA; have q2 := Upd.size HSd0.out; (try simp at q1); omega)
    refine hK.out _ _ (by (apply HRK.out; exact hb; exact hHeld)) (fun hHeld2 => ?_)
    have HPQk := Lib.hid (keep_blk hb HPQ.out)
    clear HPQ
    clear hK K hHeld hb
    have hHeld := hHeld2
    clear hHeld2
    (try simp only [Act.put, sA, sB, sC])
    have HCL := Lib.hid hown2
    clear hown hown2
    refine wpAnyH_take (i := 11) (oi := ?o1_b8_11) (v := .pointer (some ⟨s, 0, none⟩)) ?h1_b8_11 (by kernel_rfl) (by kernel_rfl) (by kernel_rfl) ?q1_b8_11 ?y1_b8_11 (by assumption) ?_
    case h1_b8_11 => (first | (simp only [gA, gB, gC]; done) | (simp only [gA, gB, gC]; exact rfl))
    case q1_b8_11 => exact fun _ _ _ h => h
    case y1_b8_11 => (refine Or.inl ⟨rfl, ?_⟩; intro w hSw; (first | rfl | (go_simp; (try with_reducible rfl))))
    (try simp only [Act.put, sA, sB, sC])
    refine wpAnyH_take (i := 12) (oi := ?o1_b8_12) (v := .pointer (some ⟨s, 0, none⟩)) ?h1_b8_12 (by kernel_rfl) (by kernel_rfl) (by kernel_rfl) ?q1_b8_12 ?y1_b8_12 (by assumption) ?_
    case h1_b8_12 => (first | (simp only [gA, gB, gC]; done) | (simp only [gA, gB, gC]; exact rfl))
    case q1_b8_12 => exact fun _ _ _ h => h
    case y1_b8_12 => (refine Or.inl ⟨rfl, ?_⟩; intro w hSw; (first | rfl | (go_simp; (try with_reducible rfl))))
    (try simp only [Act.put, sA, sB, sC])
    refine wpAnyH_ready (rs := [13]) (by kernel_rfl) (by simp) ?_
    refine AllReadyH.cons (o := ?o1_b8_13) ?h1_b8_13 (fun K hK => ?_) AllReadyH.nil
    case h1_b8_13 => (first | (simp only [gA, gB, gC]; done) | (simp only [gA, gB, gC]; exact rfl))
    rw [if_pos (by rfl)]
    refine wp_st_cell 22 _ _ rfl #[.slice A2 (n - tk) c2, .int .i64 ((tk : Nat) : Int)] (.slice A2 (n - tk) c2) rfl rfl HPQk.out (by show 0 < 2; decide) rfl (by first | rfl | simp [Value.oneCell']) (by kernel_rfl) ?_
    clear HPQk
    intro w4 hw
    have HCLr := Lib.hid (show (w4).ownsRow lo 5 1 (.slice A2 (n - tk) c2) (n - tk) (cells (zs.drop tk)) by rw [hw]; exact own_row_far HCL.out HIs.out _)
    clear HCL
    have HRQ := Lib.hid (show Blk w4 s 40 #[.slice A2 (n - tk) c2, .int .i64 ((tk : Nat) : Int)] by obtain ⟨old, Bo, _⟩ := hHeld.2; rw [hw]; exact Blk.row Bo _)
    have hHeld3 : (fun W : World => Upd (s :: blkOf A) w W ∧ HasRow W s 40 2) w4 := ⟨by rw [hw]; exact Upd.setRow hHeld.1 (.inl (by simp)) _, HasRow.of HRQ.out rfl⟩
    refine hK.out _ _ hHeld3 (fun hHeld2 => ?_)
    clear hK K hHeld hHeld3 hw
    have hHeld := hHeld2
    clear hHeld2
    (try simp only [Act.put, sA, sB, sC])
    refine wpAnyH_done (by kernel_rfl) ?_ _
    have HSd1v2 := Lib.hid hHeld.1
    have HBQd1v2 := Lib.hid HRQ.out
    clear HRQ
    clear hHeld HRK HRD HSd0 HBQd0
    have HFcld1v2 := Lib.hid HCLr.out
    clear HCLr
    go_upto_region 2 with fail
    refine wp_region_lit ?_
    refine wpList_q (by rfl) (.pointer (some ⟨s, 0, none⟩)) ?he ?_
    case he => (first | rfl | (go_simp; (try with_reducible rfl)))
    (try simp only [Act.put, sA, sB, sC])
    refine wpList_q (by rfl) (.pointer (some ⟨s, 0, none⟩)) ?he ?_
    case he => (first | rfl | (go_simp; (try with_reducible rfl)))
    (try simp only [Act.put, sA, sB, sC])
    refine wpList_q (by rfl) (.pointer (some ⟨s, 1, none⟩)) ?he ?_
    case he => (first | rfl | (go_simp; (try with_reducible rfl)))
    (try simp only [Act.put, sA, sB, sC])
    refine wpList_wp (by rfl) (fun K hK => ?_)
    refine wp_st_cell 3 _ _ rfl #[.slice A2 (n - tk) c2, .int .i64 0] (.int .i64 0) rfl rfl HBQd1v2.out (by show 1 < 2; decide) rfl (by first | rfl | simp [Value.oneCell']) (by kernel_rfl) ?_
    intro w5 hw
    refine hK.out _ _ ?_
    clear hK K
    (try simp only [Act.put, sA, sB, sC])
    have HS5 := Lib.hid (show Upd (s :: blkOf A) w w5 by rw [hw]; exact Upd.setRow HSd1v2.out (.inl (by simp)) _)
    have HBQ5 := Lib.hid (show Blk w5 s 40 #[.slice A2 (n - tk) c2, .int .i64 0] by rw [hw]; exact Blk.row HBQd1v2.out _)
    have HFcl_5 := Lib.hid (show (w5).ownsRow lo 5 1 (.slice A2 (n - tk) c2) (n - tk) (cells (zs.drop tk)) by rw [hw]; exact own_row_far HFcld1v2.out HIs.out _)
    clear hw HSd1v2 HBQd1v2 HFcld1v2
    refine wpList_nil ?_
    (try go_wp2_with fail)
    first | go_end0 | refine bodyPost_ret (results_none rfl _ _ _) rfl ?_
    exact ⟨rfl, s :: blkOf A2, ⟨H0.out, A2, n - tk, c2, 0, zs.drop tk, rfl, HBQ5.out, HFcl_5.out, fun z hz => HB.out z (List.mem_of_mem_drop hz), Nat.zero_le _, rfl, Nat.sub_le _ _⟩, HS5.out, fun g hg => by rcases List.mem_cons.1 hg with rfl | hg; exact .inl (by simp); exact .inr (HFR.out g hg)⟩
theorem forgetD (lo s : Nat) (A : Option Addr) (n c tk : Nat) (zs : List Int) (u : FrameMode) (w : World) (hq : Blk w s 40 #[.slice A n c, .int .i64 ((tk : Nat) : Int)]) (ho : w.ownsRow lo 5 1 (.slice A n c) n (cells zs)) (hb : ∀ z ∈ zs, isB z) (ht : tk ≤ n) (hn : n ≤ 1000000) (h0 : lo ≤ s) :
    CallsD Try.prog 25 #[.pointer (some ⟨s, 0, none⟩)] u w fun e u' w' => u' = u ∧ (e = .returned (.tuple #[]) ∧ ∃ S', SO lo s n (zs.drop tk) S' w' ∧ Upd (s :: blkOf A) w w' ∧ ∀ g ∈ S', g ∈ s :: blkOf A ∨ w.heap.size ≤ g) := by
  by_cases hg : n < tk + tk
  · exact forgetYes lo s A n c tk zs u w hq ho hb ht hn h0 hg
  · exact forgetNo lo s A n c tk zs u w hq ho hb ht hn h0 hg
theorem hd_take {r : List Int} {k : Nat} (hk : r.getD 0 0 = (k : Int)) (h1 : 1 ≤ k) (h64 : k ≤ 64) (hl : k + 5 ≤ r.length) : (165 :: r).take (k + 2) = hd (r.tail.take k) := by
  cases r with
  | nil => simp at hl
  | cons y t =>
    have hy : y = (k : Int) := by simpa [List.getD] using hk
    subst hy
    have hlen : (t.take k).length = k := by simp at hl; rw [List.length_take]; omega
    show 165 :: ((k : Int) :: t).take (k + 1) = hd (t.take k)
    unfold hd
    rw [hlen, List.take_succ_cons]
    congr 2
    omega
theorem nx1 {x : Int} {r : List Int} (h : x ≠ 165) : nextF (x :: r) = nextF r := by rw [nextF, if_pos h]
theorem nx2 {r : List Int} (h : r = []) : nextF (165 :: r) = (none, 165 :: r) := by rw [nextF, if_neg (by simp), if_pos h]
theorem nx3 {r : List Int} (h : r ≠ []) (hk : okN (r.getD 0 0) = false) : nextF (165 :: r) = nextF r := by
  have hk2 := of_decide_eq_false hk
  rw [nextF, if_neg (by simp), if_neg h, if_pos (by omega)]
theorem nx4 {r : List Int} {k : Nat} (h : r ≠ []) (hk : r.getD 0 0 = (k : Int)) (hok : okN (k : Int) = true) (hl : r.length + 1 < k + 6) : nextF (165 :: r) = (none, 165 :: r) := by
  have hk2 := of_decide_eq_true hok
  rw [nextF, if_neg (by simp), if_neg h, if_neg (by rw [hk]; omega), if_pos (by rw [hk, Int.toNat_natCast]; omega)]
theorem nx5 {r : List Int} {k : Nat} (h : r ≠ []) (hk : r.getD 0 0 = (k : Int)) (hok : okN (k : Int) = true) (hl : ¬ r.length + 1 < k + 6) (hne : (165 :: r).take (k + 2) ++ be4 (crcN ((165 :: r).take (k + 2))) ≠ (165 :: r).take (k + 6)) : nextF (165 :: r) = nextF r := by
  have hk2 := of_decide_eq_true hok
  rw [hd_take hk (by omega) (by omega) (by omega)] at hne
  rw [nextF, if_neg (by simp), if_neg h, if_neg (by rw [hk]; omega), if_neg (by rw [hk, Int.toNat_natCast]; omega), if_neg (by rw [hk, Int.toNat_natCast]; exact fun e => hne e.symm)]
theorem nx6 {r : List Int} {k : Nat} (h : r ≠ []) (hk : r.getD 0 0 = (k : Int)) (hok : okN (k : Int) = true) (hl : ¬ r.length + 1 < k + 6) (he : (165 :: r).take (k + 2) ++ be4 (crcN ((165 :: r).take (k + 2))) = (165 :: r).take (k + 6)) : nextF (165 :: r) = (some (((165 :: r).take (k + 2)).drop 2), (165 :: r).drop (k + 6)) := by
  have hk2 := of_decide_eq_true hok
  have e0 := hd_take hk (by omega) (by omega) (by omega)
  have e2 : ((165 :: r).take (k + 2)).drop 2 = r.tail.take k := by rw [e0]; rfl
  rw [e2]
  rw [e0] at he
  rw [nextF, if_neg (by simp), if_neg h, if_neg (by rw [hk]; omega), if_neg (by rw [hk, Int.toNat_natCast]; omega), if_pos (by rw [hk, Int.toNat_natCast]; exact he.symm), hk, Int.toNat_natCast]
def tkOf (w : World) (s : Nat) : Nat := match w.cell? ⟨s, 1, none⟩ with | some (.int _ k) => k.toNat | _ => 0
theorem tkOf_blk {w : World} {s : Nat} {t : TypeId} {v : Value} {tk : Nat} (h : Blk w s t #[v, .int .i64 ((tk : Nat) : Int)]) : tkOf w s = tk := by
  unfold tkOf
  rw [h.cell]
  rfl
/-- What Next answers, and what waits then. -/
def NX (lo s N : Nat) (S : List Nat) (w : World) (y : Option (List Int) × List Int) (e : Ending) (w' : World) : Prop :=
  ∃ S', SO lo s N y.2 S' w' ∧ Upd S w w' ∧ (∀ g ∈ S', g ∈ S ∨ w.heap.size ≤ g) ∧
    match y.1 with
    | none => e = .returned (.tuple #[.slice none 0 0, .bool false])
    | some p => ∃ A c, e = .returned (.tuple #[.slice A p.length c, .bool true]) ∧ w'.ownsRow w.heap.size 5 1 (.slice A p.length c) p.length (cells p) ∧ ∀ g ∈ S', g ∉ blkOf A
end Go.Proofs.Ytfggnchfkoifeaa.Fq
