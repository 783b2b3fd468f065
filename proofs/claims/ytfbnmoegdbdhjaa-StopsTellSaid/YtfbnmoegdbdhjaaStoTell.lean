/-
  StopsTell, walked: the calls of any stops, told twice (layer 12).
  Conditions: each argument fits its kind.
-/
import Derived.Test.YtfbnmoegdbdhjaaStoAns
import Derived.Test.YtfbnmoegdbdhjaaStoRef
import Derived.Test.YtfbnmoegdbdhjaaStoPop
import Derived.Test.YtfbnmoegdbdhjaaRow
namespace Go.Proofs.Ytfbnmoegdbdhjaa.St
set_option linter.unusedVariables false
set_option linter.unusedSimpArgs false
open Go.RowKit Go.Proofs.Ytfbnmoegdbdhjaa.Ba Go.Proofs.Ytfbnmoegdbdhjaa.Mem
open Go.Proofs.Ytfbnmoegdbdhjaa.Byt (own_below own_form own_block own_mono)
set_option maxRecDepth 100000
theorem cells2_get : ∀ (L : List (Nat × Int)) (j : Nat) (a : Nat) (b : Int), L[j]? = some (a, b) → (cells2 L)[j * 2]? = some (.int .i64 a) ∧ (cells2 L)[j * 2 + 1]? = some (.int .i64 b)
  | [], j, a, b, h => by simp at h
  | x :: L, 0, a, b, h => by
    simp at h; subst h
    exact ⟨rfl, rfl⟩
  | x :: L, j + 1, a, b, h => by
    have ih := cells2_get L j a b (by simpa using h)
    have e : cells2 (x :: L) = .int .i64 x.1 :: .int .i64 x.2 :: cells2 L := rfl
    rw [e, show (j + 1) * 2 = j * 2 + 1 + 1 by omega]
    exact ⟨by simpa using ih.1, by simpa using ih.2⟩
theorem up_lo (x : Int) : ∀ k : Nat, 0 ≤ up x k ∧ up x k ≤ k
  | 0 => by simp [up]
  | k + 1 => by
    have := up_lo x k
    unfold up
    split <;> omega
def Own2 (w wr : World) (l : Value) (p u d : Int) (k : Nat) (N : Int) : Prop := N = up p k + up u k + up d k ∧ Own w wr l p u d k
theorem tell_bit {x : Int} (hx : R x) (k : Nat) (h : k < 64) : (bits .and .u64 (x / 2 ^ k) 1 == 1) = tb x k := by
  have := has_fact hx (k : Int) (by omega) (by omega)
  rw [mem_at _ _ h] at this
  simpa using this
set_option maxHeartbeats 4000000 in
theorem tell1 (p u d f way : Int) (hp : R p) (hu : R u) (hd : R d) (w : World) : Calls Try.prog 7 #[.agg #[.int .u64 p, .int .u64 u, .int .u64 d], .int .i64 f, .int .i64 way] w fun e w' => e = .returned (.bool true) ∧ Since w w' := by
  go_enter Try.func7, Try.ntmps7
  go_wp2_with fail
  go_loopw [7, 8, 9] (fun n l i wr => ∃ k : Nat, k ≤ 64 ∧ i = .int .i64 k ∧ ∃ N : Int, n = .int .i64 N ∧ Hid (Own2 w wr l p u d k N)) (fun _ _ i _ => (64 - intOf i).toNat)
  case atStart => exact ⟨0, by omega, rfl, 0, rfl, Lib.hid ⟨rfl, World.ownsRow_nil _ _ _ _, (by repeat (first | exact Since.refl _ | assumption | refine Since.setCell ?_ (by first | (simp; done) | (simp; omega)) _ | refine Since.drew ?_ | refine Since.drewN ?_ _ | refine Since.alloc ?_ _ | refine Since.trans ?_ (by assumption) | refine Since.trans ?_ (Hid.out (by assumption)))), Blk.new _ _ _⟩⟩
  case round =>
    obtain ⟨k, hk, rfl, N, rfl, HO⟩ := hrel
    have hN : 0 ≤ N ∧ N ≤ 192 := by have h := HO.out.1; have h1 := up_lo p k; have h2 := up_lo u k; have h3 := up_lo d k; omega
    obtain ⟨hN0, hN1⟩ := hN
    by_cases hlt : k < 64
    · have hk0 : (k : Int) < 64 := by omega
      have hk1 : (0 : Int) ≤ (k : Int) := by omega
      have hn := cl_len u d k
      have k0 := tell_bit hp k hlt
      have k1 := tell_bit hu k hlt
      have k2 := tell_bit hd k hlt
      have m1 := mem_at u k hlt
      have m2 := mem_at d k hlt
      rcases (show (tb p k = true ∨ tb p k = false) by cases tb p k <;> simp) with h0 | h0 <;> rcases (show (tb u k = true ∨ tb u k = false) by cases tb u k <;> simp) with h1 | h1 <;> rcases (show (tb d k = true ∨ tb d k = false) by cases tb d k <;> simp) with h2 | h2
      · rw [h0] at k0; rw [h1] at k1 m1; rw [h2] at k2 m2
        have HC := Lib.hid (show cl u d (k + 1) = cl u d k ++ [(k, 1), (k, 2)] by show cl u d k ++ callP u d k = _; unfold callP; rw [m1, m2]; rfl)
        have HNN := Lib.hid (show N + 3 = up p (k + 1) + up u (k + 1) + up d (k + 1) by have h := HO.out.1; simp only [up, h0, h1, h2]; simp; omega)
        clear h0 h1 h2 m1 m2
        obtain ⟨_, O, S, B⟩ := HO.out
        have c0 := B.cell 0; have c1 := B.cell 1; have c2 := B.cell 2
        simp at c0 c1 c2
        have hlw : w.heap.size < wr.heap.size := B.lt
        have HSr := Lib.hid S; have HRr := Lib.hid O; have HBr := Lib.hid B; clear S O B HO
        go_wp2_with fail
        refine wp_loop_rounds 4 ?_
        rw [rounds_succ]
        go_wp2_with fail
        rw [rounds_succ]
        go_wp2_with (first | (at_builtin; refine wpList_append_2 rfl (.tmp 40) (.tmp 44) _ rfl (w.heap.size + 1) 50 _ 16 Try.underlying46 infoC rfl _ (cl u d k).length (cells2 (cl u d k)) rfl ((HRr.out.alloc (.cells #[.int .u64 p, .int .u64 u, .int .u64 d] 26)).alloc (.cells #[.int .u64 p, .int .u64 u, .int .u64 d] 26)) (.int .i64 k) (.int .i64 1) rfl rfl (by show Value.slice (some ⟨wr.heap.size + 1 + 1, 0, none⟩) 1 1 = _; simp) (by unfold maxLen; omega) (by omega) (by simp; omega) ?_; intro v3 w3 O b b3; have B3 := (((HBr.out.alloc (.cells #[.int .u64 p, .int .u64 u, .int .u64 d] 26)).alloc (.cells #[.int .u64 p, .int .u64 u, .int .u64 d] 26)).alloc (.cells #[.int .i64 k, .int .i64 1] 50)).below b3 (by omega); have S3 : Since w w3 := Below.trans (((HSr.out.alloc (.cells #[.int .u64 p, .int .u64 u, .int .u64 d] 26)).alloc (.cells #[.int .u64 p, .int .u64 u, .int .u64 d] 26)).alloc (.cells #[.int .i64 k, .int .i64 1] 50)) (b3.mono (by omega)); have hlw3 : w.heap.size < w3.heap.size := B3.lt; have HS3 := Lib.hid S3; have HR3 := Lib.hid O; have HB3 := Lib.hid B3; clear S3 O B3 b b3))
        have e0 := HB3.out.cell 0; have e1 := HB3.out.cell 1; have e2 := HB3.out.cell 2
        simp at e0 e1 e2
        rw [rounds_succ]
        go_wp2_with (first | (at_builtin; refine wpList_append_2 rfl (.tmp 40) (.tmp 44) _ rfl (w.heap.size + 1) 50 _ 16 Try.underlying46 infoC rfl _ ((cl u d k).length + 1) (cells2 (cl u d k) ++ [.int .i64 k, .int .i64 1]) rfl (HR3.out.alloc (.cells #[.int .u64 p, .int .u64 u, .int .u64 d] 26)) (.int .i64 k) (.int .i64 2) rfl rfl (by show Value.slice (some ⟨w3.heap.size + 1, 0, none⟩) 1 1 = _; simp) (by unfold maxLen; omega) (by omega) (by simp; omega) ?_; intro v5 w5 O b b5; have B5 := ((HB3.out.alloc (.cells #[.int .u64 p, .int .u64 u, .int .u64 d] 26)).alloc (.cells #[.int .i64 k, .int .i64 2] 50)).below b5 (by omega); have S5 : Since w w5 := Below.trans ((HS3.out.alloc (.cells #[.int .u64 p, .int .u64 u, .int .u64 d] 26)).alloc (.cells #[.int .i64 k, .int .i64 2] 50)) (b5.mono (by omega)); have hlw5 : w.heap.size < w5.heap.size := B5.lt; have HS5 := Lib.hid S5; have HR5 := Lib.hid O; have HB5 := Lib.hid B5; clear S5 O B5 b b5))
        rw [rounds_succ]
        go_wp2_with fail
        go_roundw
        case rel => exact ⟨k + 1, by omega, by go_num, N + 3, by go_num, Lib.hid ⟨HNN.out, by rw [HC.out, cells2_app, List.length_append]; simpa [cells2] using HR5.out, HS5.out, HB5.out⟩⟩
        case measure => simp [intOf]; omega
      · rw [h0] at k0; rw [h1] at k1 m1; rw [h2] at k2 m2
        have HC := Lib.hid (show cl u d (k + 1) = cl u d k ++ [(k, 1)] by show cl u d k ++ callP u d k = _; unfold callP; rw [m1, m2]; rfl)
        have HNN := Lib.hid (show N + 2 = up p (k + 1) + up u (k + 1) + up d (k + 1) by have h := HO.out.1; simp only [up, h0, h1, h2]; simp; omega)
        clear h0 h1 h2 m1 m2
        obtain ⟨_, O, S, B⟩ := HO.out
        have c0 := B.cell 0; have c1 := B.cell 1; have c2 := B.cell 2
        simp at c0 c1 c2
        have hlw : w.heap.size < wr.heap.size := B.lt
        have HSr := Lib.hid S; have HRr := Lib.hid O; have HBr := Lib.hid B; clear S O B HO
        go_wp2_with fail
        refine wp_loop_rounds 4 ?_
        rw [rounds_succ]
        go_wp2_with fail
        rw [rounds_succ]
        go_wp2_with (first | (at_builtin; refine wpList_append_2 rfl (.tmp 40) (.tmp 44) _ rfl (w.heap.size + 1) 50 _ 16 Try.underlying46 infoC rfl _ (cl u d k).length (cells2 (cl u d k)) rfl ((HRr.out.alloc (.cells #[.int .u64 p, .int .u64 u, .int .u64 d] 26)).alloc (.cells #[.int .u64 p, .int .u64 u, .int .u64 d] 26)) (.int .i64 k) (.int .i64 1) rfl rfl (by show Value.slice (some ⟨wr.heap.size + 1 + 1, 0, none⟩) 1 1 = _; simp) (by unfold maxLen; omega) (by omega) (by simp; omega) ?_; intro v3 w3 O b b3; have B3 := (((HBr.out.alloc (.cells #[.int .u64 p, .int .u64 u, .int .u64 d] 26)).alloc (.cells #[.int .u64 p, .int .u64 u, .int .u64 d] 26)).alloc (.cells #[.int .i64 k, .int .i64 1] 50)).below b3 (by omega); have S3 : Since w w3 := Below.trans (((HSr.out.alloc (.cells #[.int .u64 p, .int .u64 u, .int .u64 d] 26)).alloc (.cells #[.int .u64 p, .int .u64 u, .int .u64 d] 26)).alloc (.cells #[.int .i64 k, .int .i64 1] 50)) (b3.mono (by omega)); have hlw3 : w.heap.size < w3.heap.size := B3.lt; have HS3 := Lib.hid S3; have HR3 := Lib.hid O; have HB3 := Lib.hid B3; clear S3 O B3 b b3))
        have e0 := HB3.out.cell 0; have e1 := HB3.out.cell 1; have e2 := HB3.out.cell 2
        simp at e0 e1 e2
        rw [rounds_succ]
        go_wp2_with fail
        rw [rounds_succ]
        go_wp2_with fail
        go_roundw
        case rel => exact ⟨k + 1, by omega, by go_num, N + 2, by go_num, Lib.hid ⟨HNN.out, by rw [HC.out, cells2_app, List.length_append]; simpa [cells2] using (HR3.out.alloc (.cells #[.int .u64 p, .int .u64 u, .int .u64 d] 26)), (HS3.out.alloc (.cells #[.int .u64 p, .int .u64 u, .int .u64 d] 26)), (HB3.out.alloc (.cells #[.int .u64 p, .int .u64 u, .int .u64 d] 26))⟩⟩
        case measure => simp [intOf]; omega
      · rw [h0] at k0; rw [h1] at k1 m1; rw [h2] at k2 m2
        have HC := Lib.hid (show cl u d (k + 1) = cl u d k ++ [(k, 2)] by show cl u d k ++ callP u d k = _; unfold callP; rw [m1, m2]; rfl)
        have HNN := Lib.hid (show N + 2 = up p (k + 1) + up u (k + 1) + up d (k + 1) by have h := HO.out.1; simp only [up, h0, h1, h2]; simp; omega)
        clear h0 h1 h2 m1 m2
        obtain ⟨_, O, S, B⟩ := HO.out
        have c0 := B.cell 0; have c1 := B.cell 1; have c2 := B.cell 2
        simp at c0 c1 c2
        have hlw : w.heap.size < wr.heap.size := B.lt
        have HSr := Lib.hid S; have HRr := Lib.hid O; have HBr := Lib.hid B; clear S O B HO
        go_wp2_with fail
        refine wp_loop_rounds 4 ?_
        rw [rounds_succ]
        go_wp2_with fail
        rw [rounds_succ]
        go_wp2_with fail
        rw [rounds_succ]
        go_wp2_with (first | (at_builtin; refine wpList_append_2 rfl (.tmp 40) (.tmp 44) _ rfl (w.heap.size + 1) 50 _ 16 Try.underlying46 infoC rfl _ (cl u d k).length (cells2 (cl u d k)) rfl (((HRr.out.alloc (.cells #[.int .u64 p, .int .u64 u, .int .u64 d] 26)).alloc (.cells #[.int .u64 p, .int .u64 u, .int .u64 d] 26)).alloc (.cells #[.int .u64 p, .int .u64 u, .int .u64 d] 26)) (.int .i64 k) (.int .i64 2) rfl rfl (by show Value.slice (some ⟨wr.heap.size + 1 + 1 + 1, 0, none⟩) 1 1 = _; simp) (by unfold maxLen; omega) (by omega) (by simp; omega) ?_; intro v5 w5 O b b5; have B5 := ((((HBr.out.alloc (.cells #[.int .u64 p, .int .u64 u, .int .u64 d] 26)).alloc (.cells #[.int .u64 p, .int .u64 u, .int .u64 d] 26)).alloc (.cells #[.int .u64 p, .int .u64 u, .int .u64 d] 26)).alloc (.cells #[.int .i64 k, .int .i64 2] 50)).below b5 (by omega); have S5 : Since w w5 := Below.trans ((((HSr.out.alloc (.cells #[.int .u64 p, .int .u64 u, .int .u64 d] 26)).alloc (.cells #[.int .u64 p, .int .u64 u, .int .u64 d] 26)).alloc (.cells #[.int .u64 p, .int .u64 u, .int .u64 d] 26)).alloc (.cells #[.int .i64 k, .int .i64 2] 50)) (b5.mono (by omega)); have hlw5 : w.heap.size < w5.heap.size := B5.lt; have HS5 := Lib.hid S5; have HR5 := Lib.hid O; have HB5 := Lib.hid B5; clear S5 O B5 b b5))
        rw [rounds_succ]
        go_wp2_with fail
        go_roundw
        case rel => exact ⟨k + 1, by omega, by go_num, N + 2, by go_num, Lib.hid ⟨HNN.out, by rw [HC.out, cells2_app, List.length_append]; simpa [cells2] using HR5.out, HS5.out, HB5.out⟩⟩
        case measure => simp [intOf]; omega
      · rw [h0] at k0; rw [h1] at k1 m1; rw [h2] at k2 m2
        have HC := Lib.hid (show cl u d (k + 1) = cl u d k ++ [] by show cl u d k ++ callP u d k = _; unfold callP; rw [m1, m2]; rfl)
        have HNN := Lib.hid (show N + 1 = up p (k + 1) + up u (k + 1) + up d (k + 1) by have h := HO.out.1; simp only [up, h0, h1, h2]; simp; omega)
        clear h0 h1 h2 m1 m2
        obtain ⟨_, O, S, B⟩ := HO.out
        have c0 := B.cell 0; have c1 := B.cell 1; have c2 := B.cell 2
        simp at c0 c1 c2
        have hlw : w.heap.size < wr.heap.size := B.lt
        have HSr := Lib.hid S; have HRr := Lib.hid O; have HBr := Lib.hid B; clear S O B HO
        go_wp2_with fail
        refine wp_loop_rounds 4 ?_
        rw [rounds_succ]
        go_wp2_with fail
        rw [rounds_succ]
        go_wp2_with fail
        rw [rounds_succ]
        go_wp2_with fail
        rw [rounds_succ]
        go_wp2_with fail
        go_roundw
        case rel => exact ⟨k + 1, by omega, by go_num, N + 1, by go_num, Lib.hid ⟨HNN.out, by rw [HC.out, cells2_app, List.length_append]; simpa [cells2] using (((HRr.out.alloc (.cells #[.int .u64 p, .int .u64 u, .int .u64 d] 26)).alloc (.cells #[.int .u64 p, .int .u64 u, .int .u64 d] 26)).alloc (.cells #[.int .u64 p, .int .u64 u, .int .u64 d] 26)), (((HSr.out.alloc (.cells #[.int .u64 p, .int .u64 u, .int .u64 d] 26)).alloc (.cells #[.int .u64 p, .int .u64 u, .int .u64 d] 26)).alloc (.cells #[.int .u64 p, .int .u64 u, .int .u64 d] 26)), (((HBr.out.alloc (.cells #[.int .u64 p, .int .u64 u, .int .u64 d] 26)).alloc (.cells #[.int .u64 p, .int .u64 u, .int .u64 d] 26)).alloc (.cells #[.int .u64 p, .int .u64 u, .int .u64 d] 26))⟩⟩
        case measure => simp [intOf]; omega
      · rw [h0] at k0; rw [h1] at k1 m1; rw [h2] at k2 m2
        have HC := Lib.hid (show cl u d (k + 1) = cl u d k ++ [(k, 1), (k, 2)] by show cl u d k ++ callP u d k = _; unfold callP; rw [m1, m2]; rfl)
        have HNN := Lib.hid (show N + 2 = up p (k + 1) + up u (k + 1) + up d (k + 1) by have h := HO.out.1; simp only [up, h0, h1, h2]; simp; omega)
        clear h0 h1 h2 m1 m2
        obtain ⟨_, O, S, B⟩ := HO.out
        have c0 := B.cell 0; have c1 := B.cell 1; have c2 := B.cell 2
        simp at c0 c1 c2
        have hlw : w.heap.size < wr.heap.size := B.lt
        have HSr := Lib.hid S; have HRr := Lib.hid O; have HBr := Lib.hid B; clear S O B HO
        go_wp2_with fail
        refine wp_loop_rounds 4 ?_
        rw [rounds_succ]
        go_wp2_with fail
        rw [rounds_succ]
        go_wp2_with (first | (at_builtin; refine wpList_append_2 rfl (.tmp 40) (.tmp 44) _ rfl (w.heap.size + 1) 50 _ 16 Try.underlying46 infoC rfl _ (cl u d k).length (cells2 (cl u d k)) rfl ((HRr.out.alloc (.cells #[.int .u64 p, .int .u64 u, .int .u64 d] 26)).alloc (.cells #[.int .u64 p, .int .u64 u, .int .u64 d] 26)) (.int .i64 k) (.int .i64 1) rfl rfl (by show Value.slice (some ⟨wr.heap.size + 1 + 1, 0, none⟩) 1 1 = _; simp) (by unfold maxLen; omega) (by omega) (by simp; omega) ?_; intro v3 w3 O b b3; have B3 := (((HBr.out.alloc (.cells #[.int .u64 p, .int .u64 u, .int .u64 d] 26)).alloc (.cells #[.int .u64 p, .int .u64 u, .int .u64 d] 26)).alloc (.cells #[.int .i64 k, .int .i64 1] 50)).below b3 (by omega); have S3 : Since w w3 := Below.trans (((HSr.out.alloc (.cells #[.int .u64 p, .int .u64 u, .int .u64 d] 26)).alloc (.cells #[.int .u64 p, .int .u64 u, .int .u64 d] 26)).alloc (.cells #[.int .i64 k, .int .i64 1] 50)) (b3.mono (by omega)); have hlw3 : w.heap.size < w3.heap.size := B3.lt; have HS3 := Lib.hid S3; have HR3 := Lib.hid O; have HB3 := Lib.hid B3; clear S3 O B3 b b3))
        have e0 := HB3.out.cell 0; have e1 := HB3.out.cell 1; have e2 := HB3.out.cell 2
        simp at e0 e1 e2
        rw [rounds_succ]
        go_wp2_with (first | (at_builtin; refine wpList_append_2 rfl (.tmp 40) (.tmp 44) _ rfl (w.heap.size + 1) 50 _ 16 Try.underlying46 infoC rfl _ ((cl u d k).length + 1) (cells2 (cl u d k) ++ [.int .i64 k, .int .i64 1]) rfl (HR3.out.alloc (.cells #[.int .u64 p, .int .u64 u, .int .u64 d] 26)) (.int .i64 k) (.int .i64 2) rfl rfl (by show Value.slice (some ⟨w3.heap.size + 1, 0, none⟩) 1 1 = _; simp) (by unfold maxLen; omega) (by omega) (by simp; omega) ?_; intro v5 w5 O b b5; have B5 := ((HB3.out.alloc (.cells #[.int .u64 p, .int .u64 u, .int .u64 d] 26)).alloc (.cells #[.int .i64 k, .int .i64 2] 50)).below b5 (by omega); have S5 : Since w w5 := Below.trans ((HS3.out.alloc (.cells #[.int .u64 p, .int .u64 u, .int .u64 d] 26)).alloc (.cells #[.int .i64 k, .int .i64 2] 50)) (b5.mono (by omega)); have hlw5 : w.heap.size < w5.heap.size := B5.lt; have HS5 := Lib.hid S5; have HR5 := Lib.hid O; have HB5 := Lib.hid B5; clear S5 O B5 b b5))
        rw [rounds_succ]
        go_wp2_with fail
        go_roundw
        case rel => exact ⟨k + 1, by omega, by go_num, N + 2, by go_num, Lib.hid ⟨HNN.out, by rw [HC.out, cells2_app, List.length_append]; simpa [cells2] using HR5.out, HS5.out, HB5.out⟩⟩
        case measure => simp [intOf]; omega
      · rw [h0] at k0; rw [h1] at k1 m1; rw [h2] at k2 m2
        have HC := Lib.hid (show cl u d (k + 1) = cl u d k ++ [(k, 1)] by show cl u d k ++ callP u d k = _; unfold callP; rw [m1, m2]; rfl)
        have HNN := Lib.hid (show N + 1 = up p (k + 1) + up u (k + 1) + up d (k + 1) by have h := HO.out.1; simp only [up, h0, h1, h2]; simp; omega)
        clear h0 h1 h2 m1 m2
        obtain ⟨_, O, S, B⟩ := HO.out
        have c0 := B.cell 0; have c1 := B.cell 1; have c2 := B.cell 2
        simp at c0 c1 c2
        have hlw : w.heap.size < wr.heap.size := B.lt
        have HSr := Lib.hid S; have HRr := Lib.hid O; have HBr := Lib.hid B; clear S O B HO
        go_wp2_with fail
        refine wp_loop_rounds 4 ?_
        rw [rounds_succ]
        go_wp2_with fail
        rw [rounds_succ]
        go_wp2_with (first | (at_builtin; refine wpList_append_2 rfl (.tmp 40) (.tmp 44) _ rfl (w.heap.size + 1) 50 _ 16 Try.underlying46 infoC rfl _ (cl u d k).length (cells2 (cl u d k)) rfl ((HRr.out.alloc (.cells #[.int .u64 p, .int .u64 u, .int .u64 d] 26)).alloc (.cells #[.int .u64 p, .int .u64 u, .int .u64 d] 26)) (.int .i64 k) (.int .i64 1) rfl rfl (by show Value.slice (some ⟨wr.heap.size + 1 + 1, 0, none⟩) 1 1 = _; simp) (by unfold maxLen; omega) (by omega) (by simp; omega) ?_; intro v3 w3 O b b3; have B3 := (((HBr.out.alloc (.cells #[.int .u64 p, .int .u64 u, .int .u64 d] 26)).alloc (.cells #[.int .u64 p, .int .u64 u, .int .u64 d] 26)).alloc (.cells #[.int .i64 k, .int .i64 1] 50)).below b3 (by omega); have S3 : Since w w3 := Below.trans (((HSr.out.alloc (.cells #[.int .u64 p, .int .u64 u, .int .u64 d] 26)).alloc (.cells #[.int .u64 p, .int .u64 u, .int .u64 d] 26)).alloc (.cells #[.int .i64 k, .int .i64 1] 50)) (b3.mono (by omega)); have hlw3 : w.heap.size < w3.heap.size := B3.lt; have HS3 := Lib.hid S3; have HR3 := Lib.hid O; have HB3 := Lib.hid B3; clear S3 O B3 b b3))
        have e0 := HB3.out.cell 0; have e1 := HB3.out.cell 1; have e2 := HB3.out.cell 2
        simp at e0 e1 e2
        rw [rounds_succ]
        go_wp2_with fail
        rw [rounds_succ]
        go_wp2_with fail
        go_roundw
        case rel => exact ⟨k + 1, by omega, by go_num, N + 1, by go_num, Lib.hid ⟨HNN.out, by rw [HC.out, cells2_app, List.length_append]; simpa [cells2] using (HR3.out.alloc (.cells #[.int .u64 p, .int .u64 u, .int .u64 d] 26)), (HS3.out.alloc (.cells #[.int .u64 p, .int .u64 u, .int .u64 d] 26)), (HB3.out.alloc (.cells #[.int .u64 p, .int .u64 u, .int .u64 d] 26))⟩⟩
        case measure => simp [intOf]; omega
      · rw [h0] at k0; rw [h1] at k1 m1; rw [h2] at k2 m2
        have HC := Lib.hid (show cl u d (k + 1) = cl u d k ++ [(k, 2)] by show cl u d k ++ callP u d k = _; unfold callP; rw [m1, m2]; rfl)
        have HNN := Lib.hid (show N + 1 = up p (k + 1) + up u (k + 1) + up d (k + 1) by have h := HO.out.1; simp only [up, h0, h1, h2]; simp; omega)
        clear h0 h1 h2 m1 m2
        obtain ⟨_, O, S, B⟩ := HO.out
        have c0 := B.cell 0; have c1 := B.cell 1; have c2 := B.cell 2
        simp at c0 c1 c2
        have hlw : w.heap.size < wr.heap.size := B.lt
        have HSr := Lib.hid S; have HRr := Lib.hid O; have HBr := Lib.hid B; clear S O B HO
        go_wp2_with fail
        refine wp_loop_rounds 4 ?_
        rw [rounds_succ]
        go_wp2_with fail
        rw [rounds_succ]
        go_wp2_with fail
        rw [rounds_succ]
        go_wp2_with (first | (at_builtin; refine wpList_append_2 rfl (.tmp 40) (.tmp 44) _ rfl (w.heap.size + 1) 50 _ 16 Try.underlying46 infoC rfl _ (cl u d k).length (cells2 (cl u d k)) rfl (((HRr.out.alloc (.cells #[.int .u64 p, .int .u64 u, .int .u64 d] 26)).alloc (.cells #[.int .u64 p, .int .u64 u, .int .u64 d] 26)).alloc (.cells #[.int .u64 p, .int .u64 u, .int .u64 d] 26)) (.int .i64 k) (.int .i64 2) rfl rfl (by show Value.slice (some ⟨wr.heap.size + 1 + 1 + 1, 0, none⟩) 1 1 = _; simp) (by unfold maxLen; omega) (by omega) (by simp; omega) ?_; intro v5 w5 O b b5; have B5 := ((((HBr.out.alloc (.cells #[.int .u64 p, .int .u64 u, .int .u64 d] 26)).alloc (.cells #[.int .u64 p, .int .u64 u, .int .u64 d] 26)).alloc (.cells #[.int .u64 p, .int .u64 u, .int .u64 d] 26)).alloc (.cells #[.int .i64 k, .int .i64 2] 50)).below b5 (by omega); have S5 : Since w w5 := Below.trans ((((HSr.out.alloc (.cells #[.int .u64 p, .int .u64 u, .int .u64 d] 26)).alloc (.cells #[.int .u64 p, .int .u64 u, .int .u64 d] 26)).alloc (.cells #[.int .u64 p, .int .u64 u, .int .u64 d] 26)).alloc (.cells #[.int .i64 k, .int .i64 2] 50)) (b5.mono (by omega)); have hlw5 : w.heap.size < w5.heap.size := B5.lt; have HS5 := Lib.hid S5; have HR5 := Lib.hid O; have HB5 := Lib.hid B5; clear S5 O B5 b b5))
        rw [rounds_succ]
        go_wp2_with fail
        go_roundw
        case rel => exact ⟨k + 1, by omega, by go_num, N + 1, by go_num, Lib.hid ⟨HNN.out, by rw [HC.out, cells2_app, List.length_append]; simpa [cells2] using HR5.out, HS5.out, HB5.out⟩⟩
        case measure => simp [intOf]; omega
      · rw [h0] at k0; rw [h1] at k1 m1; rw [h2] at k2 m2
        have HC := Lib.hid (show cl u d (k + 1) = cl u d k ++ [] by show cl u d k ++ callP u d k = _; unfold callP; rw [m1, m2]; rfl)
        have HNN := Lib.hid (show N + 0 = up p (k + 1) + up u (k + 1) + up d (k + 1) by have h := HO.out.1; simp only [up, h0, h1, h2]; simp; omega)
        clear h0 h1 h2 m1 m2
        obtain ⟨_, O, S, B⟩ := HO.out
        have c0 := B.cell 0; have c1 := B.cell 1; have c2 := B.cell 2
        simp at c0 c1 c2
        have hlw : w.heap.size < wr.heap.size := B.lt
        have HSr := Lib.hid S; have HRr := Lib.hid O; have HBr := Lib.hid B; clear S O B HO
        go_wp2_with fail
        refine wp_loop_rounds 4 ?_
        rw [rounds_succ]
        go_wp2_with fail
        rw [rounds_succ]
        go_wp2_with fail
        rw [rounds_succ]
        go_wp2_with fail
        rw [rounds_succ]
        go_wp2_with fail
        go_roundw
        case rel => exact ⟨k + 1, by omega, by go_num, N + 0, by go_num, Lib.hid ⟨HNN.out, by rw [HC.out, cells2_app, List.length_append]; simpa [cells2] using (((HRr.out.alloc (.cells #[.int .u64 p, .int .u64 u, .int .u64 d] 26)).alloc (.cells #[.int .u64 p, .int .u64 u, .int .u64 d] 26)).alloc (.cells #[.int .u64 p, .int .u64 u, .int .u64 d] 26)), (((HSr.out.alloc (.cells #[.int .u64 p, .int .u64 u, .int .u64 d] 26)).alloc (.cells #[.int .u64 p, .int .u64 u, .int .u64 d] 26)).alloc (.cells #[.int .u64 p, .int .u64 u, .int .u64 d] 26)), (((HBr.out.alloc (.cells #[.int .u64 p, .int .u64 u, .int .u64 d] 26)).alloc (.cells #[.int .u64 p, .int .u64 u, .int .u64 d] 26)).alloc (.cells #[.int .u64 p, .int .u64 u, .int .u64 d] 26))⟩⟩
        case measure => simp [intOf]; omega
    · obtain rfl : k = 64 := by omega
      obtain ⟨_, O, S, B⟩ := HO.out
      have c0 := B.cell 0; have c1 := B.cell 1; have c2 := B.cell 2
      simp at c0 c1 c2
      have HS := Lib.hid S; have HR := Lib.hid O; clear S O B HO
      go_wp2_with fail
      refine (callsT p u d hp hu hd _).mono ?_
      rintro e w2 ⟨v2, rfl, own2, hb2⟩
      have own1 := own_below HR.out hb2
      replace c0 := keep_cell hb2 c0; replace c1 := keep_cell hb2 c1; replace c2 := keep_cell hb2 c2
      have HS2 := Lib.hid (HS.out.trans hb2)
      clear hb2 HS HR
      obtain ⟨A2, q2, rfl⟩ := own_form _ own2
      obtain ⟨A1, q1, rfl⟩ := own_form _ own1
      have own1' := own_mono own1 (Nat.zero_le _)
      have own2' := own_mono own2 (Nat.zero_le _)
      clear own1 own2
      have hLn := cl_len u d 64
      generalize hL : cl u d 64 = L at own1' own2' hLn
      clear hL
      have hLi : (L.length : Int) ≤ 128 := by omega
      have HO1 := Lib.hid own1'; have HO2 := Lib.hid own2'
      clear own1' own2'
      go_wp2_with fail
      go_loopw [12] (fun i wr2 => ∃ j : Nat, j ≤ L.length ∧ i = .int .i64 j ∧ Hid (wr2.ownsRow 0 50 2 (.slice A1 L.length q1) L.length (cells2 L) ∧ wr2.ownsRow 0 50 2 (.slice A2 L.length q2) L.length (cells2 L) ∧ Since w wr2 ∧ wr2.cell? ⟨w.heap.size, 0, none⟩ = some (.int .u64 p) ∧ wr2.cell? ⟨w.heap.size, 1, none⟩ = some (.int .u64 u) ∧ wr2.cell? ⟨w.heap.size, 2, none⟩ = some (.int .u64 d))) (fun i _ => ((L.length : Int) - intOf i).toNat)
      case atStart => exact ⟨0, by omega, rfl, Lib.hid ⟨HO1.out, HO2.out, HS2.out, c0, c1, c2⟩⟩
      case round =>
        clear HO1 HO2 HS2 c0 c1 c2
        obtain ⟨j, hj, rfl, HX⟩ := hrel
        by_cases hjl : j < L.length
        · have hji : (j : Int) < (L.length : Int) := by omega
          have hj0 : (0 : Int) ≤ (j : Int) := by omega
          have HJ := Lib.hid hjl
          obtain ⟨O1, O2, S, c0, c1, c2⟩ := HX.out
          obtain ⟨g1, cap1, hv1, _, hg1⟩ := O1.form (by omega)
          obtain ⟨g2, cap2, hv2, _, hg2⟩ := O2.form (by omega)
          injection hv1 with e1 _ e1'
          injection hv2 with e2 _ e2'
          subst e1 e1' e2 e2'
          have hcs1 := O1.cells (g := g1) rfl
          have hcs2 := O2.cells (g := g2) rfl
          obtain ⟨⟨a, b⟩, hab⟩ : ∃ x, L[j]? = some x := ⟨_, List.getElem?_eq_getElem hjl⟩
          obtain ⟨k1, k2⟩ := cells2_get L j a b hab
          have x0 := hcs1 _ _ k1; have x1 := hcs1 _ _ k2; have y0 := hcs2 _ _ k1; have y1 := hcs2 _ _ k2
          rw [Go.WideShapes.add_plain] at x0 x1 y0 y1
          rw [Nat.zero_add] at x0 x1 y0 y1
          clear hcs1 hcs2 k1 k2 hab c0 c1 c2 O1 O2
          have HS := Lib.hid S
          clear S
          go_wp2_with fail
          go_quiet (fail)
          go_wp2_with fail
          go_roundw
          case rel => exact ⟨j + 1, by have := HJ.out; omega, by go_num, Lib.hid (by obtain ⟨O1, O2, S, c0, c1, c2⟩ := HX.out; exact ⟨own_below O1 (Since.drewN (Since.refl _) _), own_below O2 (Since.drewN (Since.refl _) _), S.drewN _, c0, c1, c2⟩)⟩
          case measure => have := HJ.out; simp [intOf]; omega
        · obtain rfl : j = L.length := by omega
          obtain ⟨_, _, S, c0, c1, c2⟩ := HX.out
          have HS9 := Lib.hid S
          clear S HX
          simp only [up_cn p hp, up_cn u hu, up_cn d hd]
          go_upto_region 21 with fail
          have hrK : ∀ W W' : World, Since W W' → (Since wr W ∧ W.cell? ⟨w.heap.size, 0, none⟩ = some (.int .u64 p) ∧ W.cell? ⟨w.heap.size, 1, none⟩ = some (.int .u64 u) ∧ W.cell? ⟨w.heap.size, 2, none⟩ = some (.int .u64 d)) → (Since wr W' ∧ W'.cell? ⟨w.heap.size, 0, none⟩ = some (.int .u64 p) ∧ W'.cell? ⟨w.heap.size, 1, none⟩ = some (.int .u64 u) ∧ W'.cell? ⟨w.heap.size, 2, none⟩ = some (.int .u64 d)) := fun W W' k ⟨h, h0, h1, h2⟩ => ⟨h.trans k, keep_cell k h0, keep_cell k h1, keep_cell k h2⟩
          have hrS : (fun W : World => Since wr W ∧ W.cell? ⟨w.heap.size, 0, none⟩ = some (.int .u64 p) ∧ W.cell? ⟨w.heap.size, 1, none⟩ = some (.int .u64 u) ∧ W.cell? ⟨w.heap.size, 2, none⟩ = some (.int .u64 d)) (wr) := ⟨Since.refl _, by first | assumption | (simp; done), by first | assumption | (simp; done), by first | assumption | (simp; done)⟩
          have HRK := Lib.hid hrK
          have HRD := Lib.hid (show (fun W : World => Since wr W ∧ W.cell? ⟨w.heap.size, 0, none⟩ = some (.int .u64 p) ∧ W.cell? ⟨w.heap.size, 1, none⟩ = some (.int .u64 u) ∧ W.cell? ⟨w.heap.size, 2, none⟩ = some (.int .u64 d)) (World.drew (wr)) from ⟨(Since.refl _).drew, hrS.2⟩)
          clear hrK hrS
          refine wp_region_held_drew (S := fun W : World => Since wr W ∧ W.cell? ⟨w.heap.size, 0, none⟩ = some (.int .u64 p) ∧ W.cell? ⟨w.heap.size, 1, none⟩ = some (.int .u64 u) ∧ W.cell? ⟨w.heap.size, 2, none⟩ = some (.int .u64 d)) (by kernel_rfl) HRD.out (fun hHeld => ?_)
          refine wpAnyH_ready (rs := [0]) (by kernel_rfl) (by simp) ?_
          refine AllReadyH.cons (o := ?o_0) ?h_0 (fun K hK => ?_) AllReadyH.nil
          case h_0 => (first | (simp only [List.getElem?_toArray, List.getElem?_cons_zero, List.getElem?_cons_succ]; done) | (simp only [List.getElem?_toArray, List.getElem?_cons_zero, List.getElem?_cons_succ]; exact rfl))
          (try go_simp)
          (go_at_call 25; refine (ans _).mono ?_; rintro e w9 ⟨rfl, hb9⟩)
          (try go_wp2_with fail)
          refine hK.out _ _ ?_ (fun hHeld2 => ?_)
          · first | exact HRD.out | exact hHeld | (apply HRK.out; assumption; assumption)
          clear hK K hHeld
          have hHeld := hHeld2
          clear hHeld2
          (try simp only [Act.put, List.setIfInBounds_toArray, List.set_cons_zero, List.set_cons_succ])
          refine wpAnyH_take (i := 1) (oi := ?o_1) (v := ?v_1) ?h_1 (by kernel_rfl) (by kernel_rfl) (by kernel_rfl) ?q_1 ?y_1 (by assumption) ?_
          case h_1 => (first | (simp only [List.getElem?_toArray, List.getElem?_cons_zero, List.getElem?_cons_succ]; done) | (simp only [List.getElem?_toArray, List.getElem?_cons_zero, List.getElem?_cons_succ]; exact rfl))
          case q_1 => exact fun _ _ _ h => h
          case y_1 => (refine Or.inl ⟨rfl, ?_⟩; intro w hSw; (try dsimp only at hSw); go_simp; (try with_reducible rfl))
          (try simp only [Act.put, List.setIfInBounds_toArray, List.set_cons_zero, List.set_cons_succ])
          refine wpAnyH_take (i := 2) (oi := ?o_2) (v := .agg #[.int .u64 p, .int .u64 u, .int .u64 d]) ?h_2 (by kernel_rfl) (by kernel_rfl) (by kernel_rfl) ?q_2 ?y_2 (by assumption) ?_
          case h_2 => (first | (simp only [List.getElem?_toArray, List.getElem?_cons_zero, List.getElem?_cons_succ]; done) | (simp only [List.getElem?_toArray, List.getElem?_cons_zero, List.getElem?_cons_succ]; exact rfl))
          case q_2 => exact fun _ _ _ h => h
          case y_2 => (refine Or.inl ⟨rfl, ?_⟩; intro w hSw; (try dsimp only at hSw); go_simp; (try with_reducible rfl))
          (try simp only [Act.put, List.setIfInBounds_toArray, List.set_cons_zero, List.set_cons_succ])
          refine wpAnyH_take (i := 3) (oi := ?o_3) (v := ?v_3) ?h_3 (by kernel_rfl) (by kernel_rfl) (by kernel_rfl) ?q_3 ?y_3 (by assumption) ?_
          case h_3 => (first | (simp only [List.getElem?_toArray, List.getElem?_cons_zero, List.getElem?_cons_succ]; done) | (simp only [List.getElem?_toArray, List.getElem?_cons_zero, List.getElem?_cons_succ]; exact rfl))
          case q_3 => exact fun _ _ _ h => h
          case y_3 => (refine Or.inl ⟨rfl, ?_⟩; intro w hSw; (try dsimp only at hSw); go_simp; (try with_reducible rfl))
          (try simp only [Act.put, List.setIfInBounds_toArray, List.set_cons_zero, List.set_cons_succ])
          refine wpAnyH_take (i := 4) (oi := ?o_4) (v := ?v_4) ?h_4 (by kernel_rfl) (by kernel_rfl) (by kernel_rfl) ?q_4 ?y_4 (by assumption) ?_
          case h_4 => (first | (simp only [List.getElem?_toArray, List.getElem?_cons_zero, List.getElem?_cons_succ]; done) | (simp only [List.getElem?_toArray, List.getElem?_cons_zero, List.getElem?_cons_succ]; exact rfl))
          case q_4 => exact fun _ _ _ h => h
          case y_4 => (refine Or.inl ⟨rfl, ?_⟩; intro w hSw; (try dsimp only at hSw); go_simp; (try with_reducible rfl))
          (try simp only [Act.put, List.setIfInBounds_toArray, List.set_cons_zero, List.set_cons_succ])
          refine wpAnyH_take (i := 6) (oi := ?o_6) (v := .agg #[.int .u64 p, .int .u64 u, .int .u64 d]) ?h_6 (by kernel_rfl) (by kernel_rfl) (by kernel_rfl) ?q_6 ?y_6 (by assumption) ?_
          case h_6 => (first | (simp only [List.getElem?_toArray, List.getElem?_cons_zero, List.getElem?_cons_succ]; done) | (simp only [List.getElem?_toArray, List.getElem?_cons_zero, List.getElem?_cons_succ]; exact rfl))
          case q_6 => exact fun _ _ _ h => h
          case y_6 => (refine Or.inl ⟨rfl, ?_⟩; intro w hSw; (try dsimp only at hSw); go_simp; (try with_reducible rfl))
          (try simp only [Act.put, List.setIfInBounds_toArray, List.set_cons_zero, List.set_cons_succ])
          refine wpAnyH_take (i := 7) (oi := ?o_7) (v := ?v_7) ?h_7 (by kernel_rfl) (by kernel_rfl) (by kernel_rfl) ?q_7 ?y_7 (by assumption) ?_
          case h_7 => (first | (simp only [List.getElem?_toArray, List.getElem?_cons_zero, List.getElem?_cons_succ]; done) | (simp only [List.getElem?_toArray, List.getElem?_cons_zero, List.getElem?_cons_succ]; exact rfl))
          case q_7 => exact fun _ _ _ h => h
          case y_7 => (refine Or.inl ⟨rfl, ?_⟩; intro w hSw; (try dsimp only at hSw); go_simp; (try with_reducible rfl))
          (try simp only [Act.put, List.setIfInBounds_toArray, List.set_cons_zero, List.set_cons_succ])
          refine wpAnyH_take (i := 8) (oi := ?o_8) (v := ?v_8) ?h_8 (by kernel_rfl) (by kernel_rfl) (by kernel_rfl) ?q_8 ?y_8 (by assumption) ?_
          case h_8 => (first | (simp only [List.getElem?_toArray, List.getElem?_cons_zero, List.getElem?_cons_succ]; done) | (simp only [List.getElem?_toArray, List.getElem?_cons_zero, List.getElem?_cons_succ]; exact rfl))
          case q_8 => exact fun _ _ _ h => h
          case y_8 => (refine Or.inl ⟨rfl, ?_⟩; intro w hSw; (try dsimp only at hSw); go_simp; (try with_reducible rfl))
          (try simp only [Act.put, List.setIfInBounds_toArray, List.set_cons_zero, List.set_cons_succ])
          refine wpAnyH_ready (rs := [5]) (by kernel_rfl) (by simp) ?_
          refine AllReadyH.cons (o := ?o_5) ?h_5 (fun K hK => ?_) AllReadyH.nil
          case h_5 => (first | (simp only [List.getElem?_toArray, List.getElem?_cons_zero, List.getElem?_cons_succ]; done) | (simp only [List.getElem?_toArray, List.getElem?_cons_zero, List.getElem?_cons_succ]; exact rfl))
          (try go_simp)
          (go_at_call 30; refine (atT p u d f way hu hd _).mono ?_; rintro e w9 ⟨rfl, hb9⟩)
          (try go_wp2_with fail)
          refine hK.out _ _ ?_ (fun hHeld2 => ?_)
          · first | exact HRD.out | exact hHeld | (apply HRK.out; assumption; assumption)
          clear hK K hHeld
          have hHeld := hHeld2
          clear hHeld2
          (try simp only [Act.put, List.setIfInBounds_toArray, List.set_cons_zero, List.set_cons_succ])
          refine wpAnyH_ready (rs := [9]) (by kernel_rfl) (by simp) ?_
          refine AllReadyH.cons (o := ?o_9) ?h_9 (fun K hK => ?_) AllReadyH.nil
          case h_9 => (first | (simp only [List.getElem?_toArray, List.getElem?_cons_zero, List.getElem?_cons_succ]; done) | (simp only [List.getElem?_toArray, List.getElem?_cons_zero, List.getElem?_cons_succ]; exact rfl))
          (try go_simp)
          (go_at_call 31; refine (hallR p u d f way hu hd _).mono ?_; rintro e w9 ⟨rfl, hb9⟩)
          (try go_wp2_with fail)
          refine hK.out _ _ ?_ (fun hHeld2 => ?_)
          · first | exact HRD.out | exact hHeld | (apply HRK.out; assumption; assumption)
          clear hK K hHeld
          have hHeld := hHeld2
          clear hHeld2
          (try simp only [Act.put, List.setIfInBounds_toArray, List.set_cons_zero, List.set_cons_succ])
          refine wpAnyH_take (i := 10) (oi := ?o_10) (v := .bool true) ?h_10 (by kernel_rfl) (by kernel_rfl) (by kernel_rfl) ?q_10 ?y_10 (by assumption) ?_
          case h_10 => (first | (simp only [List.getElem?_toArray, List.getElem?_cons_zero, List.getElem?_cons_succ]; done) | (simp only [List.getElem?_toArray, List.getElem?_cons_zero, List.getElem?_cons_succ]; exact rfl))
          case q_10 => exact fun _ _ _ h => h
          case y_10 => (refine Or.inl ⟨rfl, ?_⟩; intro w hSw; (try dsimp only at hSw); go_simp; (try with_reducible rfl))
          (try simp only [Act.put, List.setIfInBounds_toArray, List.set_cons_zero, List.set_cons_succ])
          refine wpAnyH_take (i := 11) (oi := ?o_11) (v := .bool true) ?h_11 (by kernel_rfl) (by kernel_rfl) (by kernel_rfl) ?q_11 ?y_11 (by assumption) ?_
          case h_11 => (first | (simp only [List.getElem?_toArray, List.getElem?_cons_zero, List.getElem?_cons_succ]; done) | (simp only [List.getElem?_toArray, List.getElem?_cons_zero, List.getElem?_cons_succ]; exact rfl))
          case q_11 => exact fun _ _ _ h => h
          case y_11 => (refine Or.inl ⟨rfl, ?_⟩; intro w hSw; (try dsimp only at hSw); go_simp; (try with_reducible rfl))
          (try simp only [Act.put, List.setIfInBounds_toArray, List.set_cons_zero, List.set_cons_succ])
          refine wpAnyH_take (i := 12) (oi := ?o_12) (v := .bool true) ?h_12 (by kernel_rfl) (by kernel_rfl) (by kernel_rfl) ?q_12 ?y_12 (by assumption) ?_
          case h_12 => (first | (simp only [List.getElem?_toArray, List.getElem?_cons_zero, List.getElem?_cons_succ]; done) | (simp only [List.getElem?_toArray, List.getElem?_cons_zero, List.getElem?_cons_succ]; exact rfl))
          case q_12 => exact fun _ _ _ h => h
          case y_12 => (refine Or.inl ⟨rfl, ?_⟩; intro w hSw; (try dsimp only at hSw); go_simp; (try with_reducible rfl))
          (try simp only [Act.put, List.setIfInBounds_toArray, List.set_cons_zero, List.set_cons_succ])
          refine wpAnyH_take (i := 13) (oi := ?o_13) (v := .agg #[.int .u64 p, .int .u64 u, .int .u64 d]) ?h_13 (by kernel_rfl) (by kernel_rfl) (by kernel_rfl) ?q_13 ?y_13 (by assumption) ?_
          case h_13 => (first | (simp only [List.getElem?_toArray, List.getElem?_cons_zero, List.getElem?_cons_succ]; done) | (simp only [List.getElem?_toArray, List.getElem?_cons_zero, List.getElem?_cons_succ]; exact rfl))
          case q_13 => exact fun _ _ _ h => h
          case y_13 => (refine Or.inl ⟨rfl, ?_⟩; intro w hSw; (try dsimp only at hSw); go_simp; (try with_reducible rfl))
          (try simp only [Act.put, List.setIfInBounds_toArray, List.set_cons_zero, List.set_cons_succ])
          refine wpAnyH_take (i := 14) (oi := ?o_14) (v := ?v_14) ?h_14 (by kernel_rfl) (by kernel_rfl) (by kernel_rfl) ?q_14 ?y_14 (by assumption) ?_
          case h_14 => (first | (simp only [List.getElem?_toArray, List.getElem?_cons_zero, List.getElem?_cons_succ]; done) | (simp only [List.getElem?_toArray, List.getElem?_cons_zero, List.getElem?_cons_succ]; exact rfl))
          case q_14 => exact fun _ _ _ h => h
          case y_14 => (refine Or.inl ⟨rfl, ?_⟩; intro w hSw; (try dsimp only at hSw); go_simp; (try with_reducible rfl))
          (try simp only [Act.put, List.setIfInBounds_toArray, List.set_cons_zero, List.set_cons_succ])
          refine wpAnyH_take (i := 16) (oi := ?o_16) (v := .agg #[.int .u64 p, .int .u64 u, .int .u64 d]) ?h_16 (by kernel_rfl) (by kernel_rfl) (by kernel_rfl) ?q_16 ?y_16 (by assumption) ?_
          case h_16 => (first | (simp only [List.getElem?_toArray, List.getElem?_cons_zero, List.getElem?_cons_succ]; done) | (simp only [List.getElem?_toArray, List.getElem?_cons_zero, List.getElem?_cons_succ]; exact rfl))
          case q_16 => exact fun _ _ _ h => h
          case y_16 => (refine Or.inl ⟨rfl, ?_⟩; intro w hSw; (try dsimp only at hSw); go_simp; (try with_reducible rfl))
          (try simp only [Act.put, List.setIfInBounds_toArray, List.set_cons_zero, List.set_cons_succ])
          refine wpAnyH_take (i := 17) (oi := ?o_17) (v := ?v_17) ?h_17 (by kernel_rfl) (by kernel_rfl) (by kernel_rfl) ?q_17 ?y_17 (by assumption) ?_
          case h_17 => (first | (simp only [List.getElem?_toArray, List.getElem?_cons_zero, List.getElem?_cons_succ]; done) | (simp only [List.getElem?_toArray, List.getElem?_cons_zero, List.getElem?_cons_succ]; exact rfl))
          case q_17 => exact fun _ _ _ h => h
          case y_17 => (refine Or.inl ⟨rfl, ?_⟩; intro w hSw; (try dsimp only at hSw); go_simp; (try with_reducible rfl))
          (try simp only [Act.put, List.setIfInBounds_toArray, List.set_cons_zero, List.set_cons_succ])
          refine wpAnyH_ready (rs := [15]) (by kernel_rfl) (by simp) ?_
          refine AllReadyH.cons (o := ?o_15) ?h_15 (fun K hK => ?_) AllReadyH.nil
          case h_15 => (first | (simp only [List.getElem?_toArray, List.getElem?_cons_zero, List.getElem?_cons_succ]; done) | (simp only [List.getElem?_toArray, List.getElem?_cons_zero, List.getElem?_cons_succ]; exact rfl))
          (try go_simp)
          (go_at_call 32; refine (hereT p u d f hp hu hd _).mono ?_; rintro e w9 ⟨rfl, hb9⟩)
          (try go_wp2_with fail)
          refine hK.out _ _ ?_ (fun hHeld2 => ?_)
          · first | exact HRD.out | exact hHeld | (apply HRK.out; assumption; assumption)
          clear hK K hHeld
          have hHeld := hHeld2
          clear hHeld2
          (try simp only [Act.put, List.setIfInBounds_toArray, List.set_cons_zero, List.set_cons_succ])
          refine wpAnyH_ready (rs := [18]) (by kernel_rfl) (by simp) ?_
          refine AllReadyH.cons (o := ?o_18) ?h_18 (fun K hK => ?_) AllReadyH.nil
          case h_18 => (first | (simp only [List.getElem?_toArray, List.getElem?_cons_zero, List.getElem?_cons_succ]; done) | (simp only [List.getElem?_toArray, List.getElem?_cons_zero, List.getElem?_cons_succ]; exact rfl))
          (try go_simp)
          (go_at_call 33; refine (anyR p u d f hp hu hd _).mono ?_; rintro e w9 ⟨rfl, hb9⟩)
          (try go_wp2_with fail)
          refine hK.out _ _ ?_ (fun hHeld2 => ?_)
          · first | exact HRD.out | exact hHeld | (apply HRK.out; assumption; assumption)
          clear hK K hHeld
          have hHeld := hHeld2
          clear hHeld2
          (try simp only [Act.put, List.setIfInBounds_toArray, List.set_cons_zero, List.set_cons_succ])
          refine wpAnyH_take (i := 19) (oi := ?o_19) (v := .bool true) ?h_19 (by kernel_rfl) (by kernel_rfl) (by kernel_rfl) ?q_19 ?y_19 (by assumption) ?_
          case h_19 => (first | (simp only [List.getElem?_toArray, List.getElem?_cons_zero, List.getElem?_cons_succ]; done) | (simp only [List.getElem?_toArray, List.getElem?_cons_zero, List.getElem?_cons_succ]; exact rfl))
          case q_19 => exact fun _ _ _ h => h
          case y_19 => (refine Or.inl ⟨rfl, ?_⟩; intro w hSw; (try dsimp only at hSw); go_simp; (try with_reducible rfl))
          (try simp only [Act.put, List.setIfInBounds_toArray, List.set_cons_zero, List.set_cons_succ])
          refine wpAnyH_take (i := 20) (oi := ?o_20) (v := .bool true) ?h_20 (by kernel_rfl) (by kernel_rfl) (by kernel_rfl) ?q_20 ?y_20 (by assumption) ?_
          case h_20 => (first | (simp only [List.getElem?_toArray, List.getElem?_cons_zero, List.getElem?_cons_succ]; done) | (simp only [List.getElem?_toArray, List.getElem?_cons_zero, List.getElem?_cons_succ]; exact rfl))
          case q_20 => exact fun _ _ _ h => h
          case y_20 => (refine Or.inl ⟨rfl, ?_⟩; intro w hSw; (try dsimp only at hSw); go_simp; (try with_reducible rfl))
          (try simp only [Act.put, List.setIfInBounds_toArray, List.set_cons_zero, List.set_cons_succ])
          refine wpAnyH_take (i := 21) (oi := ?o_21) (v := .bool true) ?h_21 (by kernel_rfl) (by kernel_rfl) (by kernel_rfl) ?q_21 ?y_21 (by assumption) ?_
          case h_21 => (first | (simp only [List.getElem?_toArray, List.getElem?_cons_zero, List.getElem?_cons_succ]; done) | (simp only [List.getElem?_toArray, List.getElem?_cons_zero, List.getElem?_cons_succ]; exact rfl))
          case q_21 => exact fun _ _ _ h => h
          case y_21 => (refine Or.inl ⟨rfl, ?_⟩; intro w hSw; (try dsimp only at hSw); go_simp; (try with_reducible rfl))
          (try simp only [Act.put, List.setIfInBounds_toArray, List.set_cons_zero, List.set_cons_succ])
          refine wpAnyH_take (i := 22) (oi := ?o_22) (v := .agg #[.int .u64 p, .int .u64 u, .int .u64 d]) ?h_22 (by kernel_rfl) (by kernel_rfl) (by kernel_rfl) ?q_22 ?y_22 (by assumption) ?_
          case h_22 => (first | (simp only [List.getElem?_toArray, List.getElem?_cons_zero, List.getElem?_cons_succ]; done) | (simp only [List.getElem?_toArray, List.getElem?_cons_zero, List.getElem?_cons_succ]; exact rfl))
          case q_22 => exact fun _ _ _ h => h
          case y_22 => (refine Or.inl ⟨rfl, ?_⟩; intro w hSw; (try dsimp only at hSw); go_simp; (try with_reducible rfl))
          (try simp only [Act.put, List.setIfInBounds_toArray, List.set_cons_zero, List.set_cons_succ])
          refine wpAnyH_take (i := 23) (oi := ?o_23) (v := ?v_23) ?h_23 (by kernel_rfl) (by kernel_rfl) (by kernel_rfl) ?q_23 ?y_23 (by assumption) ?_
          case h_23 => (first | (simp only [List.getElem?_toArray, List.getElem?_cons_zero, List.getElem?_cons_succ]; done) | (simp only [List.getElem?_toArray, List.getElem?_cons_zero, List.getElem?_cons_succ]; exact rfl))
          case q_23 => exact fun _ _ _ h => h
          case y_23 => (refine Or.inl ⟨rfl, ?_⟩; intro w hSw; (try dsimp only at hSw); go_simp; (try with_reducible rfl))
          (try simp only [Act.put, List.setIfInBounds_toArray, List.set_cons_zero, List.set_cons_succ])
          refine wpAnyH_take (i := 24) (oi := ?o_24) (v := ?v_24) ?h_24 (by kernel_rfl) (by kernel_rfl) (by kernel_rfl) ?q_24 ?y_24 (by assumption) ?_
          case h_24 => (first | (simp only [List.getElem?_toArray, List.getElem?_cons_zero, List.getElem?_cons_succ]; done) | (simp only [List.getElem?_toArray, List.getElem?_cons_zero, List.getElem?_cons_succ]; exact rfl))
          case q_24 => exact fun _ _ _ h => h
          case y_24 => (refine Or.inl ⟨rfl, ?_⟩; intro w hSw; (try dsimp only at hSw); go_simp; (try with_reducible rfl))
          (try simp only [Act.put, List.setIfInBounds_toArray, List.set_cons_zero, List.set_cons_succ])
          refine wpAnyH_take (i := 26) (oi := ?o_26) (v := .agg #[.int .u64 p, .int .u64 u, .int .u64 d]) ?h_26 (by kernel_rfl) (by kernel_rfl) (by kernel_rfl) ?q_26 ?y_26 (by assumption) ?_
          case h_26 => (first | (simp only [List.getElem?_toArray, List.getElem?_cons_zero, List.getElem?_cons_succ]; done) | (simp only [List.getElem?_toArray, List.getElem?_cons_zero, List.getElem?_cons_succ]; exact rfl))
          case q_26 => exact fun _ _ _ h => h
          case y_26 => (refine Or.inl ⟨rfl, ?_⟩; intro w hSw; (try dsimp only at hSw); go_simp; (try with_reducible rfl))
          (try simp only [Act.put, List.setIfInBounds_toArray, List.set_cons_zero, List.set_cons_succ])
          refine wpAnyH_take (i := 27) (oi := ?o_27) (v := ?v_27) ?h_27 (by kernel_rfl) (by kernel_rfl) (by kernel_rfl) ?q_27 ?y_27 (by assumption) ?_
          case h_27 => (first | (simp only [List.getElem?_toArray, List.getElem?_cons_zero, List.getElem?_cons_succ]; done) | (simp only [List.getElem?_toArray, List.getElem?_cons_zero, List.getElem?_cons_succ]; exact rfl))
          case q_27 => exact fun _ _ _ h => h
          case y_27 => (refine Or.inl ⟨rfl, ?_⟩; intro w hSw; (try dsimp only at hSw); go_simp; (try with_reducible rfl))
          (try simp only [Act.put, List.setIfInBounds_toArray, List.set_cons_zero, List.set_cons_succ])
          refine wpAnyH_take (i := 28) (oi := ?o_28) (v := ?v_28) ?h_28 (by kernel_rfl) (by kernel_rfl) (by kernel_rfl) ?q_28 ?y_28 (by assumption) ?_
          case h_28 => (first | (simp only [List.getElem?_toArray, List.getElem?_cons_zero, List.getElem?_cons_succ]; done) | (simp only [List.getElem?_toArray, List.getElem?_cons_zero, List.getElem?_cons_succ]; exact rfl))
          case q_28 => exact fun _ _ _ h => h
          case y_28 => (refine Or.inl ⟨rfl, ?_⟩; intro w hSw; (try dsimp only at hSw); go_simp; (try with_reducible rfl))
          (try simp only [Act.put, List.setIfInBounds_toArray, List.set_cons_zero, List.set_cons_succ])
          refine wpAnyH_ready (rs := [25]) (by kernel_rfl) (by simp) ?_
          refine AllReadyH.cons (o := ?o_25) ?h_25 (fun K hK => ?_) AllReadyH.nil
          case h_25 => (first | (simp only [List.getElem?_toArray, List.getElem?_cons_zero, List.getElem?_cons_succ]; done) | (simp only [List.getElem?_toArray, List.getElem?_cons_zero, List.getElem?_cons_succ]; exact rfl))
          (try go_simp)
          (go_at_call 34; refine (aheadT p u d f way hp hu hd _).mono ?_; rintro e w9 ⟨rfl, hb9⟩)
          (try go_wp2_with fail)
          refine hK.out _ _ ?_ (fun hHeld2 => ?_)
          · first | exact HRD.out | exact hHeld | (apply HRK.out; assumption; assumption)
          clear hK K hHeld
          have hHeld := hHeld2
          clear hHeld2
          (try simp only [Act.put, List.setIfInBounds_toArray, List.set_cons_zero, List.set_cons_succ])
          refine wpAnyH_ready (rs := [29]) (by kernel_rfl) (by simp) ?_
          refine AllReadyH.cons (o := ?o_29) ?h_29 (fun K hK => ?_) AllReadyH.nil
          case h_29 => (first | (simp only [List.getElem?_toArray, List.getElem?_cons_zero, List.getElem?_cons_succ]; done) | (simp only [List.getElem?_toArray, List.getElem?_cons_zero, List.getElem?_cons_succ]; exact rfl))
          (try go_simp)
          (go_at_call 35; refine (aheadR p u d f way hp hu hd _).mono ?_; rintro e w9 ⟨rfl, hb9⟩)
          (try go_wp2_with fail)
          refine hK.out _ _ ?_ (fun hHeld2 => ?_)
          · first | exact HRD.out | exact hHeld | (apply HRK.out; assumption; assumption)
          clear hK K hHeld
          have hHeld := hHeld2
          clear hHeld2
          (try simp only [Act.put, List.setIfInBounds_toArray, List.set_cons_zero, List.set_cons_succ])
          refine wpAnyH_take (i := 30) (oi := ?o_30) (v := .bool true) ?h_30 (by kernel_rfl) (by kernel_rfl) (by kernel_rfl) ?q_30 ?y_30 (by assumption) ?_
          case h_30 => (first | (simp only [List.getElem?_toArray, List.getElem?_cons_zero, List.getElem?_cons_succ]; done) | (simp only [List.getElem?_toArray, List.getElem?_cons_zero, List.getElem?_cons_succ]; exact rfl))
          case q_30 => exact fun _ _ _ h => h
          case y_30 => (refine Or.inl ⟨rfl, ?_⟩; intro w hSw; (try dsimp only at hSw); go_simp; (try with_reducible rfl))
          (try simp only [Act.put, List.setIfInBounds_toArray, List.set_cons_zero, List.set_cons_succ])
          refine wpAnyH_take (i := 31) (oi := ?o_31) (v := .bool true) ?h_31 (by kernel_rfl) (by kernel_rfl) (by kernel_rfl) ?q_31 ?y_31 (by assumption) ?_
          case h_31 => (first | (simp only [List.getElem?_toArray, List.getElem?_cons_zero, List.getElem?_cons_succ]; done) | (simp only [List.getElem?_toArray, List.getElem?_cons_zero, List.getElem?_cons_succ]; exact rfl))
          case q_31 => exact fun _ _ _ h => h
          case y_31 => (refine Or.inl ⟨rfl, ?_⟩; intro w hSw; (try dsimp only at hSw); go_simp; (try with_reducible rfl))
          (try simp only [Act.put, List.setIfInBounds_toArray, List.set_cons_zero, List.set_cons_succ])
          refine wpAnyH_take (i := 32) (oi := ?o_32) (v := .bool true) ?h_32 (by kernel_rfl) (by kernel_rfl) (by kernel_rfl) ?q_32 ?y_32 (by assumption) ?_
          case h_32 => (first | (simp only [List.getElem?_toArray, List.getElem?_cons_zero, List.getElem?_cons_succ]; done) | (simp only [List.getElem?_toArray, List.getElem?_cons_zero, List.getElem?_cons_succ]; exact rfl))
          case q_32 => exact fun _ _ _ h => h
          case y_32 => (refine Or.inl ⟨rfl, ?_⟩; intro w hSw; (try dsimp only at hSw); go_simp; (try with_reducible rfl))
          (try simp only [Act.put, List.setIfInBounds_toArray, List.set_cons_zero, List.set_cons_succ])
          refine wpAnyH_take (i := 33) (oi := ?o_33) (v := .agg #[.int .u64 p, .int .u64 u, .int .u64 d]) ?h_33 (by kernel_rfl) (by kernel_rfl) (by kernel_rfl) ?q_33 ?y_33 (by assumption) ?_
          case h_33 => (first | (simp only [List.getElem?_toArray, List.getElem?_cons_zero, List.getElem?_cons_succ]; done) | (simp only [List.getElem?_toArray, List.getElem?_cons_zero, List.getElem?_cons_succ]; exact rfl))
          case q_33 => exact fun _ _ _ h => h
          case y_33 => (refine Or.inl ⟨rfl, ?_⟩; intro w hSw; (try dsimp only at hSw); go_simp; (try with_reducible rfl))
          (try simp only [Act.put, List.setIfInBounds_toArray, List.set_cons_zero, List.set_cons_succ])
          refine wpAnyH_take (i := 35) (oi := ?o_35) (v := ?v_35) ?h_35 (by kernel_rfl) (by kernel_rfl) (by kernel_rfl) ?q_35 ?y_35 (by assumption) ?_
          case h_35 => (first | (simp only [List.getElem?_toArray, List.getElem?_cons_zero, List.getElem?_cons_succ]; done) | (simp only [List.getElem?_toArray, List.getElem?_cons_zero, List.getElem?_cons_succ]; exact rfl))
          case q_35 => exact fun _ _ _ h => h
          case y_35 => (refine Or.inl ⟨rfl, ?_⟩; intro w hSw; (try dsimp only at hSw); go_simp; (try with_reducible rfl))
          (try simp only [Act.put, List.setIfInBounds_toArray, List.set_cons_zero, List.set_cons_succ])
          refine wpAnyH_ready (rs := [34]) (by kernel_rfl) (by simp) ?_
          refine AllReadyH.cons (o := ?o_34) ?h_34 (fun K hK => ?_) AllReadyH.nil
          case h_34 => (first | (simp only [List.getElem?_toArray, List.getElem?_cons_zero, List.getElem?_cons_succ]; done) | (simp only [List.getElem?_toArray, List.getElem?_cons_zero, List.getElem?_cons_succ]; exact rfl))
          (try go_simp)
          (go_at_call 36; refine (countT p u d hp hu hd _).mono ?_; rintro e w9 ⟨rfl, hb9⟩)
          (try go_wp2_with fail)
          refine hK.out _ _ ?_ (fun hHeld2 => ?_)
          · first | exact HRD.out | exact hHeld | (apply HRK.out; assumption; assumption)
          clear hK K hHeld
          have hHeld := hHeld2
          clear hHeld2
          (try simp only [Act.put, List.setIfInBounds_toArray, List.set_cons_zero, List.set_cons_succ])
          refine wpAnyH_take (i := 36) (oi := ?o_36) (v := .bool true) ?h_36 (by kernel_rfl) (by kernel_rfl) (by kernel_rfl) ?q_36 ?y_36 (by assumption) ?_
          case h_36 => (first | (simp only [List.getElem?_toArray, List.getElem?_cons_zero, List.getElem?_cons_succ]; done) | (simp only [List.getElem?_toArray, List.getElem?_cons_zero, List.getElem?_cons_succ]; exact rfl))
          case q_36 => exact fun _ _ _ h => h
          case y_36 => (refine Or.inl ⟨rfl, ?_⟩; intro w hSw; (try dsimp only at hSw); go_simp; (try with_reducible rfl))
          (try simp only [Act.put, List.setIfInBounds_toArray, List.set_cons_zero, List.set_cons_succ])
          refine wpAnyH_take (i := 37) (oi := ?o_37) (v := .bool true) ?h_37 (by kernel_rfl) (by kernel_rfl) (by kernel_rfl) ?q_37 ?y_37 (by assumption) ?_
          case h_37 => (first | (simp only [List.getElem?_toArray, List.getElem?_cons_zero, List.getElem?_cons_succ]; done) | (simp only [List.getElem?_toArray, List.getElem?_cons_zero, List.getElem?_cons_succ]; exact rfl))
          case q_37 => exact fun _ _ _ h => h
          case y_37 => (refine Or.inl ⟨rfl, ?_⟩; intro w hSw; (try dsimp only at hSw); go_simp; (try with_reducible rfl))
          (try simp only [Act.put, List.setIfInBounds_toArray, List.set_cons_zero, List.set_cons_succ])
          refine wpAnyH_take (i := 38) (oi := ?o_38) (v := .bool true) ?h_38 (by kernel_rfl) (by kernel_rfl) (by kernel_rfl) ?q_38 ?y_38 (by assumption) ?_
          case h_38 => (first | (simp only [List.getElem?_toArray, List.getElem?_cons_zero, List.getElem?_cons_succ]; done) | (simp only [List.getElem?_toArray, List.getElem?_cons_zero, List.getElem?_cons_succ]; exact rfl))
          case q_38 => exact fun _ _ _ h => h
          case y_38 => (refine Or.inl ⟨rfl, ?_⟩; intro w hSw; (try dsimp only at hSw); go_simp; (try with_reducible rfl))
          (try simp only [Act.put, List.setIfInBounds_toArray, List.set_cons_zero, List.set_cons_succ])
          refine wpAnyH_done (by kernel_rfl) ?_ _
          obtain ⟨hs2, _⟩ := hHeld
          have HS2 := Lib.hid hs2
          clear hs2 HRK HRD
          go_wp2
          go_ret
          exact ⟨rfl, HS9.out.trans HS2.out⟩
end Go.Proofs.Ytfbnmoegdbdhjaa.St
