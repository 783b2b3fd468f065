/-
  FrameTurned, FrameNone: walked.
  Conditions: what stands ahead of each.
-/
import Derived.Test.YtfggnchfkoifeaaProg
import Derived.Test.YtfggnchfkoifeaaFraE
namespace Go.Proofs.Ytfggnchfkoifeaa.Fq
set_option linter.unusedVariables false
set_option linter.unusedSimpArgs false
open Go.RowKit Go.Proofs.Ytfggnchfkoifeaa.Ba Go.Proofs.Ytfggnchfkoifeaa.Mem Go.Proofs.Ytfggnchfkoifeaa.Cm Go.Proofs.Ytfggnchfkoifeaa.Fm
open Go.Proofs.Ytfggnchfkoifeaa.Byt (BV isB cells)
set_option maxRecDepth 100000
attribute [local irreducible] Go.wpList
theorem own_setb {w : World} {base g n c i : Nat} {e : TypeId} {zs : List Int} (h : w.ownsRow base e 1 (.slice (some ⟨g, 0, none⟩) n c) n (cells zs)) (hi : i < n) (v : Int) :
    ∃ cur : Array Value, Blk w g e cur ∧ i < cur.size ∧ (w.setRow g (cur.setIfInBounds i (.int .u8 v))).ownsRow base e 1 (.slice (some ⟨g, 0, none⟩) n c) n (cells (zs.set i v)) := by
  have ec : ∀ l : List Int, cells l = rowsOf (fun z => [Value.int .u8 z]) l := fun l => by
    induction l with
    | nil => rfl
    | cons a l ih => rw [rowsOf_cons, ← ih]; rfl
  have hl : zs.length = n := by have := h.1; simpa [cells] using this
  rw [ec] at h
  obtain ⟨cur, B, hs, ho⟩ := own_set (enc := fun z => [Value.int .u8 z]) (k := 1) (fun _ => rfl) (by decide) h (i := i) (by omega) v
  rw [← ec, Nat.mul_one] at ho
  exact ⟨cur, B, by omega, ho⟩
theorem nextF_isB {l p rest : List Int} (h : nextF l = (some p, rest)) (hl : ∀ z ∈ l, isB z) : ∀ z ∈ p, isB z := by
  obtain ⟨_, _, i, hi⟩ := nextF_some l p rest h
  intro z hz
  refine hl z (List.mem_of_mem_drop (i := i) ?_)
  rw [hi]
  refine List.mem_append_left _ ?_
  unfold frm
  refine List.mem_append_left _ ?_
  unfold hd
  simp [hz]
theorem isB_xor {x y : Int} (hx : isB x) (hy : isB y) : isB (bits .xor .u8 x y) := xb_isB hx hy
theorem xor_ne {x y : Int} (hx : isB x) (hy : isB y) (h : y ≠ 0) : bits .xor .u8 x y ≠ x := by
  obtain ⟨a, rfl⟩ := Int.eq_ofNat_of_zero_le hx.1
  obtain ⟨b, rfl⟩ := Int.eq_ofNat_of_zero_le hy.1
  have ha : a < 256 := by have := hx.2; omega
  have hb : b < 256 := by have := hy.2; omega
  rw [show bits .xor .u8 (a : Int) (b : Int) = ((a ^^^ b : Nat) : Int) from xb_nat a b ha hb]
  intro e
  have e2 : a ^^^ b = a := by exact_mod_cast e
  have e3 : b = 0 := by
    have := congrArg (a ^^^ ·) e2
    simpa [← Nat.xor_assoc] using this
  exact h (by exact_mod_cast e3)
theorem set_isB {zs : List Int} {i : Nat} {v : Int} (h : ∀ z ∈ zs, isB z) (hv : isB v) : ∀ z ∈ zs.set i v, isB z := by
  intro z hz
  rcases List.mem_or_eq_of_mem_set hz with h1 | h1
  · exact h z h1
  · rw [h1]; exact hv
theorem set_ne {zs : List Int} {i : Nat} {v : Int} (hi : i < zs.length) (hv : v ≠ zs.getD i 0) : zs.set i v ≠ zs := fun e => by
  have := congrArg (fun l => l.getD i 0) e
  simp [List.getD, hi] at this
  apply hv
  simpa [List.getD, hi] using this
theorem rem_nat (t m : Nat) : ((t : Int)).tmod ((m : Nat) : Int) = ((t % m : Nat) : Int) := by
  rw [Int.tmod_eq_emod_of_nonneg (by omega)]
  exact_mod_cast rfl
set_option maxHeartbeats 4000000 in
theorem turLow (A : Option Addr) (n c : Nat) (zs : List Int) (t : Nat) (by_ : Int) (w : World) (hb : BV w A n zs) (h1 : n < 1) : Calls Try.prog 9 #[.slice A n c, .int .u8 (t : Int), .int .u8 by_] w fun e w' => e = .returned (.bool true) ∧ Since w w' := by
  have HB := Lib.hid hb
  clear hb
  have H1 := Lib.hid h1
  clear h1
  go_enter Try.func9, Try.ntmps9
  go_upto_region 1 with fail
  have HS1 := Lib.hid (Since.refl w)
  refine wp_region_lit ?_
  refine wpList_q (by rfl) (.slice A n c) ?he ?_
  case he => (first | rfl | (go_simp; (try with_reducible rfl)))
  (try simp only [Act.put, sA, sB, sC])
  refine wpList_q (by rfl) (.int .i64 (n : Int)) ?he ?_
  case he => (first | rfl | (go_simp; (try with_reducible rfl)))
  (try simp only [Act.put, sA, sB, sC])
  refine wpList_q (by rfl) (.bool true) ?he ?_
  case he => (have q0 := H1.out; go_simp; (first | done | rfl | omega))
  (try simp only [Act.put, sA, sB, sC])
  refine wpList_q (by rfl) (.bool true) ?he ?_
  case he => (first | rfl | (go_simp; (try with_reducible rfl)))
  (try simp only [Act.put, sA, sB, sC])
  refine wpList_no (by rfl) ?_
  (try simp only [Act.put, sA, sB, sC])
  refine wpList_no (by rfl) ?_
  (try simp only [Act.put, sA, sB, sC])
  refine wpList_no (by rfl) ?_
  (try simp only [Act.put, sA, sB, sC])
  refine wpList_q (by rfl) (.bool true) ?he ?_
  case he => (first | rfl | (go_simp; (try with_reducible rfl)))
  (try simp only [Act.put, sA, sB, sC])
  refine wpList_q (by rfl) (.bool true) ?he ?_
  case he => (first | rfl | (go_simp; (try with_reducible rfl)))
  (try simp only [Act.put, sA, sB, sC])
  refine wpList_no (by rfl) ?_
  (try simp only [Act.put, sA, sB, sC])
  refine wpList_no (by rfl) ?_
  (try simp only [Act.put, sA, sB, sC])
  refine wpList_q (by rfl) (.bool true) ?he ?_
  case he => (first | rfl | (go_simp; (try with_reducible rfl)))
  (try simp only [Act.put, sA, sB, sC])
  refine wpList_nil ?_
  go_upto_region 2 with fail
  refine wp_region_lit ?_
  refine wpList_wp (by rfl) (fun K hK => ?_)
  (try go_simp)
  refine (ans _).mono ?_
  rintro e w2 ⟨rfl, hb⟩
  (try go_wp2_with fail)
  refine hK.out _ _ ?_
  clear hK K
  (try simp only [Act.put, sA, sB, sC])
  have HS2 := Lib.hid (Since.trans HS1.out hb)
  clear HS1 
  clear hb
  refine wpList_q (by rfl) (.bool true) ?he ?_
  case he => (first | rfl | (go_simp; (try with_reducible rfl)))
  (try simp only [Act.put, sA, sB, sC])
  refine wpList_nil ?_
  (try go_wp2_with fail)
  go_ret
  exact ⟨rfl, HS2.out⟩
set_option maxHeartbeats 4000000 in
theorem turHigh (A : Option Addr) (n c : Nat) (zs : List Int) (t : Nat) (by_ : Int) (w : World) (hb : BV w A n zs) (h1 : ¬ n < 1) (h6 : 64 < n) : Calls Try.prog 9 #[.slice A n c, .int .u8 (t : Int), .int .u8 by_] w fun e w' => e = .returned (.bool true) ∧ Since w w' := by
  have HB := Lib.hid hb
  clear hb
  have H1 := Lib.hid h1
  clear h1
  have H6 := Lib.hid h6
  clear h6
  go_enter Try.func9, Try.ntmps9
  go_upto_region 1 with fail
  have HS1 := Lib.hid (Since.refl w)
  refine wp_region_lit ?_
  refine wpList_q (by rfl) (.slice A n c) ?he ?_
  case he => (first | rfl | (go_simp; (try with_reducible rfl)))
  (try simp only [Act.put, sA, sB, sC])
  refine wpList_q (by rfl) (.int .i64 (n : Int)) ?he ?_
  case he => (first | rfl | (go_simp; (try with_reducible rfl)))
  (try simp only [Act.put, sA, sB, sC])
  refine wpList_q (by rfl) (.bool false) ?he ?_
  case he => (have q0 := H1.out; go_simp; (first | done | rfl | omega))
  (try simp only [Act.put, sA, sB, sC])
  refine wpList_q (by rfl) (.bool false) ?he ?_
  case he => (first | rfl | (go_simp; (try with_reducible rfl)))
  (try simp only [Act.put, sA, sB, sC])
  refine wpList_q (by rfl) (.slice A n c) ?he ?_
  case he => (first | rfl | (go_simp; (try with_reducible rfl)))
  (try simp only [Act.put, sA, sB, sC])
  refine wpList_q (by rfl) (.int .i64 (n : Int)) ?he ?_
  case he => (first | rfl | (go_simp; (try with_reducible rfl)))
  (try simp only [Act.put, sA, sB, sC])
  refine wpList_q (by rfl) (.bool true) ?he ?_
  case he => (have q0 := H6.out; go_simp; (first | done | rfl | omega))
  (try simp only [Act.put, sA, sB, sC])
  refine wpList_q (by rfl) (.bool true) ?he ?_
  case he => (first | rfl | (go_simp; (try with_reducible rfl)))
  (try simp only [Act.put, sA, sB, sC])
  refine wpList_q (by rfl) (.bool true) ?he ?_
  case he => (first | rfl | (go_simp; (try with_reducible rfl)))
  (try simp only [Act.put, sA, sB, sC])
  refine wpList_no (by rfl) ?_
  (try simp only [Act.put, sA, sB, sC])
  refine wpList_no (by rfl) ?_
  (try simp only [Act.put, sA, sB, sC])
  refine wpList_q (by rfl) (.bool true) ?he ?_
  case he => (first | rfl | (go_simp; (try with_reducible rfl)))
  (try simp only [Act.put, sA, sB, sC])
  refine wpList_nil ?_
  go_upto_region 2 with fail
  refine wp_region_lit ?_
  refine wpList_wp (by rfl) (fun K hK => ?_)
  (try go_simp)
  refine (ans _).mono ?_
  rintro e w2 ⟨rfl, hb⟩
  (try go_wp2_with fail)
  refine hK.out _ _ ?_
  clear hK K
  (try simp only [Act.put, sA, sB, sC])
  have HS2 := Lib.hid (Since.trans HS1.out hb)
  clear HS1 
  clear hb
  refine wpList_q (by rfl) (.bool true) ?he ?_
  case he => (first | rfl | (go_simp; (try with_reducible rfl)))
  (try simp only [Act.put, sA, sB, sC])
  refine wpList_nil ?_
  (try go_wp2_with fail)
  go_ret
  exact ⟨rfl, HS2.out⟩
set_option maxHeartbeats 4000000 in
theorem turZero (A : Option Addr) (n c : Nat) (zs : List Int) (t : Nat) (by_ : Int) (w : World) (hb : BV w A n zs) (h1 : ¬ n < 1) (h6 : ¬ 64 < n) (h0 : by_ = 0) : Calls Try.prog 9 #[.slice A n c, .int .u8 (t : Int), .int .u8 by_] w fun e w' => e = .returned (.bool true) ∧ Since w w' := by
  have HB := Lib.hid hb
  clear hb
  have H1 := Lib.hid h1
  clear h1
  have H6 := Lib.hid h6
  clear h6
  have H0 := Lib.hid h0
  clear h0
  go_enter Try.func9, Try.ntmps9
  go_upto_region 1 with fail
  have HS1 := Lib.hid (Since.refl w)
  refine wp_region_lit ?_
  refine wpList_q (by rfl) (.slice A n c) ?he ?_
  case he => (first | rfl | (go_simp; (try with_reducible rfl)))
  (try simp only [Act.put, sA, sB, sC])
  refine wpList_q (by rfl) (.int .i64 (n : Int)) ?he ?_
  case he => (first | rfl | (go_simp; (try with_reducible rfl)))
  (try simp only [Act.put, sA, sB, sC])
  refine wpList_q (by rfl) (.bool false) ?he ?_
  case he => (have q0 := H1.out; go_simp; (first | done | rfl | omega))
  (try simp only [Act.put, sA, sB, sC])
  refine wpList_q (by rfl) (.bool false) ?he ?_
  case he => (first | rfl | (go_simp; (try with_reducible rfl)))
  (try simp only [Act.put, sA, sB, sC])
  refine wpList_q (by rfl) (.slice A n c) ?he ?_
  case he => (first | rfl | (go_simp; (try with_reducible rfl)))
  (try simp only [Act.put, sA, sB, sC])
  refine wpList_q (by rfl) (.int .i64 (n : Int)) ?he ?_
  case he => (first | rfl | (go_simp; (try with_reducible rfl)))
  (try simp only [Act.put, sA, sB, sC])
  refine wpList_q (by rfl) (.bool false) ?he ?_
  case he => (have q0 := H6.out; go_simp; (first | done | rfl | omega))
  (try simp only [Act.put, sA, sB, sC])
  refine wpList_q (by rfl) (.bool false) ?he ?_
  case he => (first | rfl | (go_simp; (try with_reducible rfl)))
  (try simp only [Act.put, sA, sB, sC])
  refine wpList_q (by rfl) (.bool false) ?he ?_
  case he => (first | rfl | (go_simp; (try with_reducible rfl)))
  (try simp only [Act.put, sA, sB, sC])
  refine wpList_q (by rfl) (.int .u8 by_) ?he ?_
  case he => (first | rfl | (go_simp; (try with_reducible rfl)))
  (try simp only [Act.put, sA, sB, sC])
  refine wpList_q (by rfl) (.bool true) ?he ?_
  case he => (have q := H0.out; go_simp; (first | done | exact q | (simp [q]; done)))
  (try simp only [Act.put, sA, sB, sC])
  refine wpList_q (by rfl) (.bool true) ?he ?_
  case he => (first | rfl | (go_simp; (try with_reducible rfl)))
  (try simp only [Act.put, sA, sB, sC])
  refine wpList_nil ?_
  go_upto_region 2 with fail
  refine wp_region_lit ?_
  refine wpList_wp (by rfl) (fun K hK => ?_)
  (try go_simp)
  refine (ans _).mono ?_
  rintro e w2 ⟨rfl, hb⟩
  (try go_wp2_with fail)
  refine hK.out _ _ ?_
  clear hK K
  (try simp only [Act.put, sA, sB, sC])
  have HS2 := Lib.hid (Since.trans HS1.out hb)
  clear HS1 
  clear hb
  refine wpList_q (by rfl) (.bool true) ?he ?_
  case he => (first | rfl | (go_simp; (try with_reducible rfl)))
  (try simp only [Act.put, sA, sB, sC])
  refine wpList_nil ?_
  (try go_wp2_with fail)
  go_ret
  exact ⟨rfl, HS2.out⟩
theorem own_cell {w : World} {base g n c i : Nat} {e : TypeId} {zs : List Int} (h : w.ownsRow base e 1 (.slice (some ⟨g, 0, none⟩) n c) n (cells zs)) (hi : i < zs.length) : w.cell? ⟨g, i, none⟩ = some (.int .u8 (zs.getD i 0)) := by
  have := own_rng h (i := 0) (m := zs.length) (l := cells zs) (by rw [List.drop_zero]; exact List.take_of_length_le (by simp [cells])) i _ (Byt.cells_at zs i hi)
  simpa using this
set_option maxHeartbeats 4000000 in
theorem turYes (A : Option Addr) (n c : Nat) (zs : List Int) (t : Nat) (by_ : Int) (p rest : List Int) (w : World) (hb : BV w A n zs) (h1 : ¬ n < 1) (h6 : ¬ 64 < n) (h0 : by_ ≠ 0) (hy : isB by_) (ht : t < 256) (hx : nextF ((frm zs).set (t % (n + 6)) (bits .xor .u8 ((frm zs).getD (t % (n + 6)) 0) by_)) = (some p, rest)) : Calls Try.prog 9 #[.slice A n c, .int .u8 (t : Int), .int .u8 by_] w fun e w' => e = .returned (.bool true) ∧ Since w w' := by
  have HB := Lib.hid hb
  clear hb
  have H1 := Lib.hid h1
  clear h1
  have H6 := Lib.hid h6
  clear h6
  have H0 := Lib.hid h0
  clear h0
  have HY := Lib.hid hy
  clear hy
  have HT := Lib.hid ht
  clear ht
  have HX := Lib.hid hx
  clear hx
  go_enter Try.func9, Try.ntmps9
  go_upto_region 1 with fail
  have HS1 := Lib.hid (Since.refl w)
  refine wp_region_lit ?_
  refine wpList_q (by rfl) (.slice A n c) ?he ?_
  case he => (first | rfl | (go_simp; (try with_reducible rfl)))
  (try simp only [Act.put, sA, sB, sC])
  refine wpList_q (by rfl) (.int .i64 (n : Int)) ?he ?_
  case he => (first | rfl | (go_simp; (try with_reducible rfl)))
  (try simp only [Act.put, sA, sB, sC])
  refine wpList_q (by rfl) (.bool false) ?he ?_
  case he => (have q0 := H1.out; go_simp; (first | done | rfl | omega))
  (try simp only [Act.put, sA, sB, sC])
  refine wpList_q (by rfl) (.bool false) ?he ?_
  case he => (first | rfl | (go_simp; (try with_reducible rfl)))
  (try simp only [Act.put, sA, sB, sC])
  refine wpList_q (by rfl) (.slice A n c) ?he ?_
  case he => (first | rfl | (go_simp; (try with_reducible rfl)))
  (try simp only [Act.put, sA, sB, sC])
  refine wpList_q (by rfl) (.int .i64 (n : Int)) ?he ?_
  case he => (first | rfl | (go_simp; (try with_reducible rfl)))
  (try simp only [Act.put, sA, sB, sC])
  refine wpList_q (by rfl) (.bool false) ?he ?_
  case he => (have q0 := H6.out; go_simp; (first | done | rfl | omega))
  (try simp only [Act.put, sA, sB, sC])
  refine wpList_q (by rfl) (.bool false) ?he ?_
  case he => (first | rfl | (go_simp; (try with_reducible rfl)))
  (try simp only [Act.put, sA, sB, sC])
  refine wpList_q (by rfl) (.bool false) ?he ?_
  case he => (first | rfl | (go_simp; (try with_reducible rfl)))
  (try simp only [Act.put, sA, sB, sC])
  refine wpList_q (by rfl) (.int .u8 by_) ?he ?_
  case he => (first | rfl | (go_simp; (try with_reducible rfl)))
  (try simp only [Act.put, sA, sB, sC])
  refine wpList_q (by rfl) (.bool false) ?he ?_
  case he => (have q := H0.out; go_simp; (first | done | exact q | (simp [q]; done)))
  (try simp only [Act.put, sA, sB, sC])
  refine wpList_q (by rfl) (.bool false) ?he ?_
  case he => (first | rfl | (go_simp; (try with_reducible rfl)))
  (try simp only [Act.put, sA, sB, sC])
  refine wpList_nil ?_
  go_upto_region 3 with fail
  refine wp_region_lit ?_
  refine wpList_q (by rfl) (.slice A n c) ?he ?_
  case he => (first | rfl | (go_simp; (try with_reducible rfl)))
  (try simp only [Act.put, sA, sB, sC])
  refine wpList_wp (by rfl) (fun K hK => ?_)
  (try go_simp)
  refine (frameV A n c zs _ (keep_bv HS1.out HB.out) (by have := H6.out; omega)).mono ?_
  rintro e w2 ⟨Af, cf, rfl, hown, hb⟩
  (try go_wp2_with fail)
  refine hK.out _ _ ?_
  clear hK K
  (try simp only [Act.put, sA, sB, sC])
  have hown2 := own_base (lo' := w.heap.size) hown (Since.size HS1.out)
  have HS2 := Lib.hid (Since.trans HS1.out hb)
  clear HS1 
  clear hb
  have HFf := Lib.hid hown2
  clear hown hown2
  refine wpList_q (by rfl) (.slice Af (n + 6) cf) ?he ?_
  case he => (first | rfl | (go_simp; (try with_reducible rfl)))
  (try simp only [Act.put, sA, sB, sC])
  refine wpList_nil ?_
  go_upto_region 4 with fail
  refine wp_region_lit ?_
  refine wpList_q (by rfl) (.int .u8 (t : Int)) ?he ?_
  case he => (first | rfl | (go_simp; (try with_reducible rfl)))
  (try simp only [Act.put, sA, sB, sC])
  refine wpList_q (by rfl) (.int .i64 (t : Int)) ?he ?_
  case he => (have q := HT.out; go_simp; (first | done | exact wr64 _ (by omega) (by omega)))
  (try simp only [Act.put, sA, sB, sC])
  refine wpList_q (by rfl) (.slice Af (n + 6) cf) ?he ?_
  case he => (first | rfl | (go_simp; (try with_reducible rfl)))
  (try simp only [Act.put, sA, sB, sC])
  refine wpList_q (by rfl) (.int .i64 ((n + 6 : Nat) : Int)) ?he ?_
  case he => (first | rfl | (go_simp; (try with_reducible rfl)))
  (try simp only [Act.put, sA, sB, sC])
  refine wpList_q (by rfl) (.int .i64 ((t % (n + 6) : Nat) : Int)) ?he ?_
  case he => (have q := rem_nat t (n + 6); have q2 := Nat.mod_lt t (show 0 < n + 6 by omega); have q3 := H6.out; have q4 : IntKind.i64.wrap ((t % (n + 6) : Nat) : Int) = ((t % (n + 6) : Nat) : Int) := wr64 _ (by omega) (by omega); have q5 : (((n + 6 : Nat) : Int) == 0) = false := (by simp; omega); go_simp; (first | done | (rw [if_neg (by omega)]; simp [q, q4]; done) | (rw [if_neg (by omega)]; simp [q, q4]; exact Int.tmod_eq_emod_of_nonneg (by omega)) | (exact Int.tmod_eq_emod_of_nonneg (by omega)) | (simp [q, q4]; done)))
  (try simp only [Act.put, sA, sB, sC])
  refine wpList_q (by rfl) (.int .i64 ((t % (n + 6) : Nat) : Int)) ?he ?_
  case he => (first | rfl | (go_simp; (try with_reducible rfl)))
  (try simp only [Act.put, sA, sB, sC])
  refine wpList_nil ?_
  obtain ⟨gf, hg⟩ := own_addr HFf.out (by omega)
  subst hg
  have HKL := Lib.hid (show t % (n + 6) < n + 6 from Nat.mod_lt _ (by omega))
  have HFL := Lib.hid (show (frm zs).length = n + 6 by rw [frm_length, HB.out.1])
  go_upto_region 5 with fail
  refine wp_region_lit ?_
  refine wpList_q (by rfl) (.slice (some ⟨gf, 0, none⟩) (n + 6) cf) ?he ?_
  case he => (first | rfl | (go_simp; (try with_reducible rfl)))
  (try simp only [Act.put, sA, sB, sC])
  refine wpList_q (by rfl) (.int .i64 ((t % (n + 6) : Nat) : Int)) ?he ?_
  case he => (first | rfl | (go_simp; (try with_reducible rfl)))
  (try simp only [Act.put, sA, sB, sC])
  refine wpList_q (by rfl) (.slice (some ⟨gf, 0, none⟩) (n + 6) cf) ?he ?_
  case he => (first | rfl | (go_simp; (try with_reducible rfl)))
  (try simp only [Act.put, sA, sB, sC])
  refine wpList_q (by rfl) (.int .i64 ((t % (n + 6) : Nat) : Int)) ?he ?_
  case he => (first | rfl | (go_simp; (try with_reducible rfl)))
  (try simp only [Act.put, sA, sB, sC])
  refine wpList_q (by rfl) (.pointer (some ⟨gf, (t % (n + 6)), none⟩)) ?he ?_
  case he => (refine (exec_index (i := t % (n + 6)) (s := 1) (off := 0) 22 5 _ _ rfl rfl rfl rfl HKL.out Try.underlying22 (by kernel_rfl)).trans ?_; rw [Nat.zero_add, Nat.mul_one])
  (try simp only [Act.put, sA, sB, sC])
  refine wpList_q (by rfl) (.int .u8 ((frm zs).getD (t % (n + 6)) 0)) ?he ?_
  case he => exact exec_at 5 _ _ (own_cell HFf.out (by rw [HFL.out]; exact HKL.out)) rfl rfl Try.underlying5 rfl
  (try simp only [Act.put, sA, sB, sC])
  refine wpList_q (by rfl) (.int .u8 by_) ?he ?_
  case he => (first | rfl | (go_simp; (try with_reducible rfl)))
  (try simp only [Act.put, sA, sB, sC])
  refine wpList_q (by rfl) (.int .u8 (bits .xor .u8 ((frm zs).getD (t % (n + 6)) 0) by_)) ?he ?_
  case he => (go_simp; (first | done | rfl))
  (try simp only [Act.put, sA, sB, sC])
  refine wpList_q (by rfl) (.pointer (some ⟨gf, (t % (n + 6)), none⟩)) ?he ?_
  case he => (refine (exec_index (i := t % (n + 6)) (s := 1) (off := 0) 22 5 _ _ rfl rfl rfl rfl HKL.out Try.underlying22 (by kernel_rfl)).trans ?_; rw [Nat.zero_add, Nat.mul_one])
  (try simp only [Act.put, sA, sB, sC])
  refine wpList_wp (by rfl) (fun K hK => ?_)
  obtain ⟨cur, hcur, hcz, hown⟩ := own_setb HFf.out HKL.out (bits .xor .u8 ((frm zs).getD (t % (n + 6)) 0) by_)
  refine wp_st_cell 5 _ _ rfl (cur.setIfInBounds (t % (n + 6)) (.int .u8 (bits .xor .u8 ((frm zs).getD (t % (n + 6)) 0) by_))) (.int .u8 (bits .xor .u8 ((frm zs).getD (t % (n + 6)) 0) by_)) rfl rfl hcur hcz rfl (by first | rfl | simp [Value.oneCell']) (by kernel_rfl) ?_
  intro w3 hw
  refine hK.out _ _ ?_
  clear hK K
  (try simp only [Act.put, sA, sB, sC])
  rw [← hw] at hown
  clear hcur hcz
  have HS3 := Lib.hid (show Since w w3 by rw [hw]; exact Since.setRow HS2.out (own_low HFf.out gf (by simp [blkOf])) _)
  clear hw HS2
  have HFg := Lib.hid hown; clear hown HFf
  refine wpList_nil ?_
  go_upto_region 6 with fail
  refine wp_region_lit ?_
  refine wpList_wp (by rfl) (fun K hK => ?_)
  refine wp_new (fun b => .pointer (some ⟨b, 0, none⟩)) 40 #[.slice none 0 0, .int .i64 0] (by rintro b rfl; first | rfl | kernel_rfl) ?_
  intro bn41 w4 hge hB hb
  refine hK.out _ _ ?_
  clear hK K
  (try simp only [Act.put, sA, sB, sC])
  have HGn41 := Lib.hid (show w.heap.size ≤ bn41 by have := Since.size HS3.out; omega)
  have HIn41_f := Lib.hid (own_far HFg.out hge)
  have HS4 := Lib.hid (Since.trans HS3.out hb)
  have HFf4 := Lib.hid (keep_own hb HFg.out)
  clear HS3 HFg
  clear hb hge
  have HBn414 := Lib.hid hB
  clear hB
  refine wpList_q (by rfl) (.pointer (some ⟨bn41, 0, none⟩)) ?he ?_
  case he => (first | rfl | (go_simp; (try with_reducible rfl)))
  (try simp only [Act.put, sA, sB, sC])
  refine wpList_nil ?_
  have HDDf_s := Lib.hid (show ∀ g ∈ (blkOf (some ⟨gf, 0, none⟩)), g ∉ [bn41] from fun g hg h => HIn41_f.out (by simp at h; rw [← h]; exact hg))
  have HFs := Lib.hid (SO.new HBn414.out HGn41.out)
  clear HBn414
  have HFB := Lib.hid (show ∀ z ∈ ((frm zs).set (t % (n + 6)) (bits .xor .u8 ((frm zs).getD (t % (n + 6)) 0) by_)), isB z from set_isB (frm_isB HB.out.2.2.1) (isB_xor (getD_isB (frm_isB HB.out.2.2.1) _) HY.out))
  go_upto_region 7 with fail
  refine wp_region_lit ?_
  refine wpList_q (by rfl) (.pointer (some ⟨bn41, 0, none⟩)) ?he ?_
  case he => (first | rfl | (go_simp; (try with_reducible rfl)))
  (try simp only [Act.put, sA, sB, sC])
  refine wpList_q (by rfl) (.slice (some ⟨gf, 0, none⟩) (n + 6) cf) ?he ?_
  case he => (first | rfl | (go_simp; (try with_reducible rfl)))
  (try simp only [Act.put, sA, sB, sC])
  refine wpList_wp (by rfl) (fun K hK => ?_)
  (try go_simp)
  refine (feedV w.heap.size bn41 0 ([]) [bn41] (some ⟨gf, 0, none⟩) (n + 6) cf ((frm zs).set (t % (n + 6)) (bits .xor .u8 ((frm zs).getD (t % (n + 6)) 0) by_)) _ HFs.out (BV.of_own HFf4.out HFB.out) (by have := H6.out; omega) (0 + (n + 6)) ((frm zs).set (t % (n + 6)) (bits .xor .u8 ((frm zs).getD (t % (n + 6)) 0) by_)) rfl (List.nil_append _)).mono ?_
  rintro e w5 ⟨Ss_1, rfl, hobj, hupd, hfar⟩
  (try go_wp2_with fail)
  refine hK.out _ _ ?_
  clear hK K
  (try simp only [Act.put, sA, sB, sC])
  have HS5 := Lib.hid (Since.upd HS4.out hupd (SO.low HFs.out))
  have HFf5 := Lib.hid (Upd.own hupd HFf4.out HDDf_s.out)
  have HDDf_s_5 := Lib.hid (dis_next hfar HDDf_s.out (own_lt HFf4.out))
  have HFs5 := Lib.hid hobj
  clear hupd hobj hfar HS4 HFf4 HFs
  refine wpList_nil ?_
  go_upto_region 8 with fail
  refine wp_region_lit ?_
  refine wpList_q (by rfl) (.pointer (some ⟨bn41, 0, none⟩)) ?he ?_
  case he => (first | rfl | (go_simp; (try with_reducible rfl)))
  (try simp only [Act.put, sA, sB, sC])
  refine wpList_wp (by rfl) (fun K hK => ?_)
  (try go_simp)
  refine (nextS w.heap.size bn41 (0 + (n + 6)) ((frm zs).set (t % (n + 6)) (bits .xor .u8 ((frm zs).getD (t % (n + 6)) 0) by_)) p rest Ss_1 _ HFs5.out (by have := H6.out; omega) p.length rfl (nextF_isB HX.out HFB.out) HX.out).mono ?_
  rintro e w6 ⟨Ss_2, Ap, cp, rfl, hobj, hupd, hfar, hbvp, hcp⟩
  (try go_wp2_with fail)
  refine hK.out _ _ ?_
  clear hK K
  (try simp only [Act.put, sA, sB, sC])
  have HS6 := Lib.hid (Since.upd HS5.out hupd (SO.low HFs5.out))
  have HFf6 := Lib.hid (Upd.own hupd HFf5.out HDDf_s_5.out)
  have HDDf_s_6 := Lib.hid (dis_next hfar HDDf_s_5.out (own_lt HFf5.out))
  have HFs6 := Lib.hid hobj
  clear hupd hobj hfar HS5 HFf5 HFs5
  have HBVP := Lib.hid hbvp; have HCPP := Lib.hid hcp; clear hbvp hcp
  refine wpList_q (by rfl) (.tuple #[.slice Ap p.length cp, .bool true]) ?he ?_
  case he => (first | rfl | (go_simp; (try with_reducible rfl)))
  (try simp only [Act.put, sA, sB, sC])
  refine wpList_q (by rfl) (.slice Ap p.length cp) ?he ?_
  case he => (first | rfl | (go_simp; (try with_reducible rfl)))
  (try simp only [Act.put, sA, sB, sC])
  refine wpList_q (by rfl) (.bool true) ?he ?_
  case he => (first | rfl | (go_simp; (try with_reducible rfl)))
  (try simp only [Act.put, sA, sB, sC])
  refine wpList_q (by rfl) (.slice Ap p.length cp) ?he ?_
  case he => (first | rfl | (go_simp; (try with_reducible rfl)))
  (try simp only [Act.put, sA, sB, sC])
  refine wpList_q (by rfl) (.bool true) ?he ?_
  case he => (first | rfl | (go_simp; (try with_reducible rfl)))
  (try simp only [Act.put, sA, sB, sC])
  refine wpList_nil ?_
  have HPN := Lib.hid (turned zs ((frm zs).set (t % (n + 6)) (bits .xor .u8 ((frm zs).getD (t % (n + 6)) 0) by_)) (by rw [List.length_set, frm_length]) (set_ne (by rw [HFL.out]; exact HKL.out) (xor_ne (getD_isB (frm_isB HB.out.2.2.1) _) HY.out H0.out)) p rest HX.out)
  go_upto_region 9 with fail
  refine wp_region_lit ?_
  refine wpList_wp (by rfl) (fun K hK => ?_)
  (try go_simp)
  refine (ans _).mono ?_
  rintro e w7 ⟨rfl, hb⟩
  (try go_wp2_with fail)
  refine hK.out _ _ ?_
  clear hK K
  (try simp only [Act.put, sA, sB, sC])
  have HS7 := Lib.hid (Since.trans HS6.out hb)
  have HFf7 := Lib.hid (keep_own hb HFf6.out)
  have HFs7 := Lib.hid (SO.keep hb HFs6.out)
  have HFbp7 := Lib.hid (keep_bv hb HBVP.out)
  clear HS6 HFf6 HFs6 HBVP
  clear hb
  refine wpList_q (by rfl) (.bool true) ?he ?_
  case he => (first | rfl | (go_simp; (try with_reducible rfl)))
  (try simp only [Act.put, sA, sB, sC])
  refine wpList_q (by rfl) (.bool true) ?he ?_
  case he => (first | rfl | (go_simp; (try with_reducible rfl)))
  (try simp only [Act.put, sA, sB, sC])
  refine wpList_q (by rfl) (.bool false) ?he ?_
  case he => (go_simp; (try with_reducible rfl))
  (try simp only [Act.put, sA, sB, sC])
  refine wpList_q (by rfl) (.bool false) ?he ?_
  case he => (first | rfl | (go_simp; (try with_reducible rfl)))
  (try simp only [Act.put, sA, sB, sC])
  refine wpList_q (by rfl) (.slice Ap p.length cp) ?he ?_
  case he => (first | rfl | (go_simp; (try with_reducible rfl)))
  (try simp only [Act.put, sA, sB, sC])
  refine wpList_q (by rfl) (.string (strOfNums p)) ?he ?_
  case he => exact exec_str 22 5 9 _ HFbp7.out rfl rfl Try.underlying22 Try.underlying5 Try.underlying9
  (try simp only [Act.put, sA, sB, sC])
  refine wpList_q (by rfl) (.slice A n c) ?he ?_
  case he => (first | rfl | (go_simp; (try with_reducible rfl)))
  (try simp only [Act.put, sA, sB, sC])
  refine wpList_q (by rfl) (.string (strOfNums zs)) ?he ?_
  case he => exact exec_str 22 5 9 _ (keep_bv HS7.out HB.out) rfl rfl Try.underlying22 Try.underlying5 Try.underlying9
  (try simp only [Act.put, sA, sB, sC])
  refine wpList_q (by rfl) (.bool true) ?he ?_
  case he => (have q := str_ne (nextF_isB HX.out HFB.out) HB.out.2.2.1 HPN.out; go_simp; (first | done | exact q))
  (try simp only [Act.put, sA, sB, sC])
  refine wpList_q (by rfl) (.bool true) ?he ?_
  case he => (first | rfl | (go_simp; (try with_reducible rfl)))
  (try simp only [Act.put, sA, sB, sC])
  refine wpList_q (by rfl) (.bool true) ?he ?_
  case he => (first | rfl | (go_simp; (try with_reducible rfl)))
  (try simp only [Act.put, sA, sB, sC])
  refine wpList_q (by rfl) (.bool true) ?he ?_
  case he => (first | rfl | (go_simp; (try with_reducible rfl)))
  (try simp only [Act.put, sA, sB, sC])
  refine wpList_nil ?_
  (try go_wp2_with fail)
  go_ret
  exact ⟨rfl, HS7.out⟩
set_option maxHeartbeats 4000000 in
theorem turNo (A : Option Addr) (n c : Nat) (zs : List Int) (t : Nat) (by_ : Int) (rest : List Int) (w : World) (hb : BV w A n zs) (h1 : ¬ n < 1) (h6 : ¬ 64 < n) (h0 : by_ ≠ 0) (hy : isB by_) (ht : t < 256) (hx : nextF ((frm zs).set (t % (n + 6)) (bits .xor .u8 ((frm zs).getD (t % (n + 6)) 0) by_)) = (none, rest)) : Calls Try.prog 9 #[.slice A n c, .int .u8 (t : Int), .int .u8 by_] w fun e w' => e = .returned (.bool true) ∧ Since w w' := by
  have HB := Lib.hid hb
  clear hb
  have H1 := Lib.hid h1
  clear h1
  have H6 := Lib.hid h6
  clear h6
  have H0 := Lib.hid h0
  clear h0
  have HY := Lib.hid hy
  clear hy
  have HT := Lib.hid ht
  clear ht
  have HX := Lib.hid hx
  clear hx
  go_enter Try.func9, Try.ntmps9
  go_upto_region 1 with fail
  have HS1 := Lib.hid (Since.refl w)
  refine wp_region_lit ?_
  refine wpList_q (by rfl) (.slice A n c) ?he ?_
  case he => (first | rfl | (go_simp; (try with_reducible rfl)))
  (try simp only [Act.put, sA, sB, sC])
  refine wpList_q (by rfl) (.int .i64 (n : Int)) ?he ?_
  case he => (first | rfl | (go_simp; (try with_reducible rfl)))
  (try simp only [Act.put, sA, sB, sC])
  refine wpList_q (by rfl) (.bool false) ?he ?_
  case he => (have q0 := H1.out; go_simp; (first | done | rfl | omega))
  (try simp only [Act.put, sA, sB, sC])
  refine wpList_q (by rfl) (.bool false) ?he ?_
  case he => (first | rfl | (go_simp; (try with_reducible rfl)))
  (try simp only [Act.put, sA, sB, sC])
  refine wpList_q (by rfl) (.slice A n c) ?he ?_
  case he => (first | rfl | (go_simp; (try with_reducible rfl)))
  (try simp only [Act.put, sA, sB, sC])
  refine wpList_q (by rfl) (.int .i64 (n : Int)) ?he ?_
  case he => (first | rfl | (go_simp; (try with_reducible rfl)))
  (try simp only [Act.put, sA, sB, sC])
  refine wpList_q (by rfl) (.bool false) ?he ?_
  case he => (have q0 := H6.out; go_simp; (first | done | rfl | omega))
  (try simp only [Act.put, sA, sB, sC])
  refine wpList_q (by rfl) (.bool false) ?he ?_
  case he => (first | rfl | (go_simp; (try with_reducible rfl)))
  (try simp only [Act.put, sA, sB, sC])
  refine wpList_q (by rfl) (.bool false) ?he ?_
  case he => (first | rfl | (go_simp; (try with_reducible rfl)))
  (try simp only [Act.put, sA, sB, sC])
  refine wpList_q (by rfl) (.int .u8 by_) ?he ?_
  case he => (first | rfl | (go_simp; (try with_reducible rfl)))
  (try simp only [Act.put, sA, sB, sC])
  refine wpList_q (by rfl) (.bool false) ?he ?_
  case he => (have q := H0.out; go_simp; (first | done | exact q | (simp [q]; done)))
  (try simp only [Act.put, sA, sB, sC])
  refine wpList_q (by rfl) (.bool false) ?he ?_
  case he => (first | rfl | (go_simp; (try with_reducible rfl)))
  (try simp only [Act.put, sA, sB, sC])
  refine wpList_nil ?_
  go_upto_region 3 with fail
  refine wp_region_lit ?_
  refine wpList_q (by rfl) (.slice A n c) ?he ?_
  case he => (first | rfl | (go_simp; (try with_reducible rfl)))
  (try simp only [Act.put, sA, sB, sC])
  refine wpList_wp (by rfl) (fun K hK => ?_)
  (try go_simp)
  refine (frameV A n c zs _ (keep_bv HS1.out HB.out) (by have := H6.out; omega)).mono ?_
  rintro e w2 ⟨Af, cf, rfl, hown, hb⟩
  (try go_wp2_with fail)
  refine hK.out _ _ ?_
  clear hK K
  (try simp only [Act.put, sA, sB, sC])
  have hown2 := own_base (lo' := w.heap.size) hown (Since.size HS1.out)
  have HS2 := Lib.hid (Since.trans HS1.out hb)
  clear HS1 
  clear hb
  have HFf := Lib.hid hown2
  clear hown hown2
  refine wpList_q (by rfl) (.slice Af (n + 6) cf) ?he ?_
  case he => (first | rfl | (go_simp; (try with_reducible rfl)))
  (try simp only [Act.put, sA, sB, sC])
  refine wpList_nil ?_
  go_upto_region 4 with fail
  refine wp_region_lit ?_
  refine wpList_q (by rfl) (.int .u8 (t : Int)) ?he ?_
  case he => (first | rfl | (go_simp; (try with_reducible rfl)))
  (try simp only [Act.put, sA, sB, sC])
  refine wpList_q (by rfl) (.int .i64 (t : Int)) ?he ?_
  case he => (have q := HT.out; go_simp; (first | done | exact wr64 _ (by omega) (by omega)))
  (try simp only [Act.put, sA, sB, sC])
  refine wpList_q (by rfl) (.slice Af (n + 6) cf) ?he ?_
  case he => (first | rfl | (go_simp; (try with_reducible rfl)))
  (try simp only [Act.put, sA, sB, sC])
  refine wpList_q (by rfl) (.int .i64 ((n + 6 : Nat) : Int)) ?he ?_
  case he => (first | rfl | (go_simp; (try with_reducible rfl)))
  (try simp only [Act.put, sA, sB, sC])
  refine wpList_q (by rfl) (.int .i64 ((t % (n + 6) : Nat) : Int)) ?he ?_
  case he => (have q := rem_nat t (n + 6); have q2 := Nat.mod_lt t (show 0 < n + 6 by omega); have q3 := H6.out; have q4 : IntKind.i64.wrap ((t % (n + 6) : Nat) : Int) = ((t % (n + 6) : Nat) : Int) := wr64 _ (by omega) (by omega); have q5 : (((n + 6 : Nat) : Int) == 0) = false := (by simp; omega); go_simp; (first | done | (rw [if_neg (by omega)]; simp [q, q4]; done) | (rw [if_neg (by omega)]; simp [q, q4]; exact Int.tmod_eq_emod_of_nonneg (by omega)) | (exact Int.tmod_eq_emod_of_nonneg (by omega)) | (simp [q, q4]; done)))
  (try simp only [Act.put, sA, sB, sC])
  refine wpList_q (by rfl) (.int .i64 ((t % (n + 6) : Nat) : Int)) ?he ?_
  case he => (first | rfl | (go_simp; (try with_reducible rfl)))
  (try simp only [Act.put, sA, sB, sC])
  refine wpList_nil ?_
  obtain ⟨gf, hg⟩ := own_addr HFf.out (by omega)
  subst hg
  have HKL := Lib.hid (show t % (n + 6) < n + 6 from Nat.mod_lt _ (by omega))
  have HFL := Lib.hid (show (frm zs).length = n + 6 by rw [frm_length, HB.out.1])
  go_upto_region 5 with fail
  refine wp_region_lit ?_
  refine wpList_q (by rfl) (.slice (some ⟨gf, 0, none⟩) (n + 6) cf) ?he ?_
  case he => (first | rfl | (go_simp; (try with_reducible rfl)))
  (try simp only [Act.put, sA, sB, sC])
  refine wpList_q (by rfl) (.int .i64 ((t % (n + 6) : Nat) : Int)) ?he ?_
  case he => (first | rfl | (go_simp; (try with_reducible rfl)))
  (try simp only [Act.put, sA, sB, sC])
  refine wpList_q (by rfl) (.slice (some ⟨gf, 0, none⟩) (n + 6) cf) ?he ?_
  case he => (first | rfl | (go_simp; (try with_reducible rfl)))
  (try simp only [Act.put, sA, sB, sC])
  refine wpList_q (by rfl) (.int .i64 ((t % (n + 6) : Nat) : Int)) ?he ?_
  case he => (first | rfl | (go_simp; (try with_reducible rfl)))
  (try simp only [Act.put, sA, sB, sC])
  refine wpList_q (by rfl) (.pointer (some ⟨gf, (t % (n + 6)), none⟩)) ?he ?_
  case he => (refine (exec_index (i := t % (n + 6)) (s := 1) (off := 0) 22 5 _ _ rfl rfl rfl rfl HKL.out Try.underlying22 (by kernel_rfl)).trans ?_; rw [Nat.zero_add, Nat.mul_one])
  (try simp only [Act.put, sA, sB, sC])
  refine wpList_q (by rfl) (.int .u8 ((frm zs).getD (t % (n + 6)) 0)) ?he ?_
  case he => exact exec_at 5 _ _ (own_cell HFf.out (by rw [HFL.out]; exact HKL.out)) rfl rfl Try.underlying5 rfl
  (try simp only [Act.put, sA, sB, sC])
  refine wpList_q (by rfl) (.int .u8 by_) ?he ?_
  case he => (first | rfl | (go_simp; (try with_reducible rfl)))
  (try simp only [Act.put, sA, sB, sC])
  refine wpList_q (by rfl) (.int .u8 (bits .xor .u8 ((frm zs).getD (t % (n + 6)) 0) by_)) ?he ?_
  case he => (go_simp; (first | done | rfl))
  (try simp only [Act.put, sA, sB, sC])
  refine wpList_q (by rfl) (.pointer (some ⟨gf, (t % (n + 6)), none⟩)) ?he ?_
  case he => (refine (exec_index (i := t % (n + 6)) (s := 1) (off := 0) 22 5 _ _ rfl rfl rfl rfl HKL.out Try.underlying22 (by kernel_rfl)).trans ?_; rw [Nat.zero_add, Nat.mul_one])
  (try simp only [Act.put, sA, sB, sC])
  refine wpList_wp (by rfl) (fun K hK => ?_)
  obtain ⟨cur, hcur, hcz, hown⟩ := own_setb HFf.out HKL.out (bits .xor .u8 ((frm zs).getD (t % (n + 6)) 0) by_)
  refine wp_st_cell 5 _ _ rfl (cur.setIfInBounds (t % (n + 6)) (.int .u8 (bits .xor .u8 ((frm zs).getD (t % (n + 6)) 0) by_))) (.int .u8 (bits .xor .u8 ((frm zs).getD (t % (n + 6)) 0) by_)) rfl rfl hcur hcz rfl (by first | rfl | simp [Value.oneCell']) (by kernel_rfl) ?_
  intro w3 hw
  refine hK.out _ _ ?_
  clear hK K
  (try simp only [Act.put, sA, sB, sC])
  rw [← hw] at hown
  clear hcur hcz
  have HS3 := Lib.hid (show Since w w3 by rw [hw]; exact Since.setRow HS2.out (own_low HFf.out gf (by simp [blkOf])) _)
  clear hw HS2
  have HFg := Lib.hid hown; clear hown HFf
  refine wpList_nil ?_
  go_upto_region 6 with fail
  refine wp_region_lit ?_
  refine wpList_wp (by rfl) (fun K hK => ?_)
  refine wp_new (fun b => .pointer (some ⟨b, 0, none⟩)) 40 #[.slice none 0 0, .int .i64 0] (by rintro b rfl; first | rfl | kernel_rfl) ?_
  intro bn41 w4 hge hB hb
  refine hK.out _ _ ?_
  clear hK K
  (try simp only [Act.put, sA, sB, sC])
  have HGn41 := Lib.hid (show w.heap.size ≤ bn41 by have := Since.size HS3.out; omega)
  have HIn41_f := Lib.hid (own_far HFg.out hge)
  have HS4 := Lib.hid (Since.trans HS3.out hb)
  have HFf4 := Lib.hid (keep_own hb HFg.out)
  clear HS3 HFg
  clear hb hge
  have HBn414 := Lib.hid hB
  clear hB
  refine wpList_q (by rfl) (.pointer (some ⟨bn41, 0, none⟩)) ?he ?_
  case he => (first | rfl | (go_simp; (try with_reducible rfl)))
  (try simp only [Act.put, sA, sB, sC])
  refine wpList_nil ?_
  have HDDf_s := Lib.hid (show ∀ g ∈ (blkOf (some ⟨gf, 0, none⟩)), g ∉ [bn41] from fun g hg h => HIn41_f.out (by simp at h; rw [← h]; exact hg))
  have HFs := Lib.hid (SO.new HBn414.out HGn41.out)
  clear HBn414
  have HFB := Lib.hid (show ∀ z ∈ ((frm zs).set (t % (n + 6)) (bits .xor .u8 ((frm zs).getD (t % (n + 6)) 0) by_)), isB z from set_isB (frm_isB HB.out.2.2.1) (isB_xor (getD_isB (frm_isB HB.out.2.2.1) _) HY.out))
  go_upto_region 7 with fail
  refine wp_region_lit ?_
  refine wpList_q (by rfl) (.pointer (some ⟨bn41, 0, none⟩)) ?he ?_
  case he => (first | rfl | (go_simp; (try with_reducible rfl)))
  (try simp only [Act.put, sA, sB, sC])
  refine wpList_q (by rfl) (.slice (some ⟨gf, 0, none⟩) (n + 6) cf) ?he ?_
  case he => (first | rfl | (go_simp; (try with_reducible rfl)))
  (try simp only [Act.put, sA, sB, sC])
  refine wpList_wp (by rfl) (fun K hK => ?_)
  (try go_simp)
  refine (feedV w.heap.size bn41 0 ([]) [bn41] (some ⟨gf, 0, none⟩) (n + 6) cf ((frm zs).set (t % (n + 6)) (bits .xor .u8 ((frm zs).getD (t % (n + 6)) 0) by_)) _ HFs.out (BV.of_own HFf4.out HFB.out) (by have := H6.out; omega) (0 + (n + 6)) ((frm zs).set (t % (n + 6)) (bits .xor .u8 ((frm zs).getD (t % (n + 6)) 0) by_)) rfl (List.nil_append _)).mono ?_
  rintro e w5 ⟨Ss_1, rfl, hobj, hupd, hfar⟩
  (try go_wp2_with fail)
  refine hK.out _ _ ?_
  clear hK K
  (try simp only [Act.put, sA, sB, sC])
  have HS5 := Lib.hid (Since.upd HS4.out hupd (SO.low HFs.out))
  have HFf5 := Lib.hid (Upd.own hupd HFf4.out HDDf_s.out)
  have HDDf_s_5 := Lib.hid (dis_next hfar HDDf_s.out (own_lt HFf4.out))
  have HFs5 := Lib.hid hobj
  clear hupd hobj hfar HS4 HFf4 HFs
  refine wpList_nil ?_
  go_upto_region 8 with fail
  refine wp_region_lit ?_
  refine wpList_q (by rfl) (.pointer (some ⟨bn41, 0, none⟩)) ?he ?_
  case he => (first | rfl | (go_simp; (try with_reducible rfl)))
  (try simp only [Act.put, sA, sB, sC])
  refine wpList_wp (by rfl) (fun K hK => ?_)
  (try go_simp)
  refine (nextN w.heap.size bn41 (0 + (n + 6)) ((frm zs).set (t % (n + 6)) (bits .xor .u8 ((frm zs).getD (t % (n + 6)) 0) by_)) rest Ss_1 _ HFs5.out (by have := H6.out; omega) HX.out).mono ?_
  rintro e w6 ⟨Ss_2, rfl, hobj, hupd, hfar⟩
  (try go_wp2_with fail)
  refine hK.out _ _ ?_
  clear hK K
  (try simp only [Act.put, sA, sB, sC])
  have HS6 := Lib.hid (Since.upd HS5.out hupd (SO.low HFs5.out))
  have HFf6 := Lib.hid (Upd.own hupd HFf5.out HDDf_s_5.out)
  have HDDf_s_6 := Lib.hid (dis_next hfar HDDf_s_5.out (own_lt HFf5.out))
  have HFs6 := Lib.hid hobj
  clear hupd hobj hfar HS5 HFf5 HFs5
  refine wpList_q (by rfl) (.tuple #[.slice none 0 0, .bool false]) ?he ?_
  case he => (first | rfl | (go_simp; (try with_reducible rfl)))
  (try simp only [Act.put, sA, sB, sC])
  refine wpList_q (by rfl) (.slice none 0 0) ?he ?_
  case he => (first | rfl | (go_simp; (try with_reducible rfl)))
  (try simp only [Act.put, sA, sB, sC])
  refine wpList_q (by rfl) (.bool false) ?he ?_
  case he => (first | rfl | (go_simp; (try with_reducible rfl)))
  (try simp only [Act.put, sA, sB, sC])
  refine wpList_q (by rfl) (.slice none 0 0) ?he ?_
  case he => (first | rfl | (go_simp; (try with_reducible rfl)))
  (try simp only [Act.put, sA, sB, sC])
  refine wpList_q (by rfl) (.bool false) ?he ?_
  case he => (first | rfl | (go_simp; (try with_reducible rfl)))
  (try simp only [Act.put, sA, sB, sC])
  refine wpList_nil ?_
  go_upto_region 9 with fail
  refine wp_region_lit ?_
  refine wpList_wp (by rfl) (fun K hK => ?_)
  (try go_simp)
  refine (ans _).mono ?_
  rintro e w7 ⟨rfl, hb⟩
  (try go_wp2_with fail)
  refine hK.out _ _ ?_
  clear hK K
  (try simp only [Act.put, sA, sB, sC])
  have HS7 := Lib.hid (Since.trans HS6.out hb)
  have HFf7 := Lib.hid (keep_own hb HFf6.out)
  have HFs7 := Lib.hid (SO.keep hb HFs6.out)
  clear HS6 HFf6 HFs6
  clear hb
  refine wpList_q (by rfl) (.bool true) ?he ?_
  case he => (first | rfl | (go_simp; (try with_reducible rfl)))
  (try simp only [Act.put, sA, sB, sC])
  refine wpList_q (by rfl) (.bool false) ?he ?_
  case he => (first | rfl | (go_simp; (try with_reducible rfl)))
  (try simp only [Act.put, sA, sB, sC])
  refine wpList_q (by rfl) (.bool true) ?he ?_
  case he => (go_simp; (try with_reducible rfl))
  (try simp only [Act.put, sA, sB, sC])
  refine wpList_q (by rfl) (.bool true) ?he ?_
  case he => (first | rfl | (go_simp; (try with_reducible rfl)))
  (try simp only [Act.put, sA, sB, sC])
  refine wpList_no (by rfl) ?_
  (try simp only [Act.put, sA, sB, sC])
  refine wpList_no (by rfl) ?_
  (try simp only [Act.put, sA, sB, sC])
  refine wpList_no (by rfl) ?_
  (try simp only [Act.put, sA, sB, sC])
  refine wpList_no (by rfl) ?_
  (try simp only [Act.put, sA, sB, sC])
  refine wpList_no (by rfl) ?_
  (try simp only [Act.put, sA, sB, sC])
  refine wpList_q (by rfl) (.bool true) ?he ?_
  case he => (first | rfl | (go_simp; (try with_reducible rfl)))
  (try simp only [Act.put, sA, sB, sC])
  refine wpList_q (by rfl) (.bool true) ?he ?_
  case he => (first | rfl | (go_simp; (try with_reducible rfl)))
  (try simp only [Act.put, sA, sB, sC])
  refine wpList_q (by rfl) (.bool true) ?he ?_
  case he => (first | rfl | (go_simp; (try with_reducible rfl)))
  (try simp only [Act.put, sA, sB, sC])
  refine wpList_nil ?_
  (try go_wp2_with fail)
  go_ret
  exact ⟨rfl, HS7.out⟩
theorem turns (A : Option Addr) (n c : Nat) (zs : List Int) (t : Nat) (by_ : Int) (w : World) (hb : BV w A n zs) (ht : t < 256) (hy : isB by_) : Calls Try.prog 9 #[.slice A n c, .int .u8 (t : Int), .int .u8 by_] w fun e w' => e = .returned (.bool true) ∧ Since w w' := by
  by_cases h1 : n < 1
  · exact turLow A n c zs t by_ w hb h1
  · by_cases h6 : 64 < n
    · exact turHigh A n c zs t by_ w hb h1 h6
    · by_cases h0 : by_ = 0
      · exact turZero A n c zs t by_ w hb h1 h6 h0
      · match hx : nextF ((frm zs).set (t % (n + 6)) (bits .xor .u8 ((frm zs).getD (t % (n + 6)) 0) by_)) with
        | (some p, rest) => exact turYes A n c zs t by_ p rest w hb h1 h6 h0 hy ht hx
        | (none, rest) => exact turNo A n c zs t by_ rest w hb h1 h6 h0 hy ht hx
theorem turnsF (A : Option Addr) (n c : Nat) (zs : List Int) (t by_ : Int) (w : World) (hb : BV w A n zs) (ht : (Lit.int .u8 t).wf = true) (hy : (Lit.int .u8 by_).wf = true) : Calls Try.prog 9 #[.slice A n c, .int .u8 t, .int .u8 by_] w fun e w' => e = .returned (.bool true) ∧ Since w w' := by
  have q1 := bounds_u8 ht
  have q2 := bounds_u8 hy
  obtain ⟨k, rfl⟩ := Int.eq_ofNat_of_zero_le (show 0 ≤ t by omega)
  exact turns A n c zs k by_ w hb (by omega) (by unfold isB; omega)
end Go.Proofs.Ytfggnchfkoifeaa.Fq
