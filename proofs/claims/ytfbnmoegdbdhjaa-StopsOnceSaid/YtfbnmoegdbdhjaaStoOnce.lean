/-
  StopsOnce, walked (layer 12).
  Conditions: each argument fits its kind.
-/
import Derived.Test.YtfbnmoegdbdhjaaStoAns
import Derived.Test.YtfbnmoegdbdhjaaStoRef
namespace Go.Proofs.Ytfbnmoegdbdhjaa.St
set_option linter.unusedVariables false
set_option linter.unusedSimpArgs false
open Go.RowKit Go.Proofs.Ytfbnmoegdbdhjaa.Ba Go.Proofs.Ytfbnmoegdbdhjaa.Mem
set_option maxRecDepth 100000
theorem or_twice {x y : Int} (hx : R x) (hy : R y) : bits .or .u64 (bits .or .u64 x y) y = bits .or .u64 x y :=
  ext (or_R (or_R hx hy) hy) (or_R hx hy) fun i _ => by rw [or_tb (or_R hx hy) hy, or_tb hx hy]; cases tb x i <;> cases tb y i <;> rfl
theorem or_self {x : Int} (hx : R x) : bits .or .u64 x x = x :=
  ext (or_R hx hx) hx fun i _ => by rw [or_tb hx hx]; cases tb x i <;> rfl
theorem once_back {x y : Int} (hx : R x) (hy : R y) : bits .or .u64 (bits .or .u64 (bits .andNot .u64 (bits .or .u64 x y) y) y) x = bits .or .u64 x y :=
  ext (or_R (or_R (an_R (or_R hx hy) hy) hy) hx) (or_R hx hy) fun i _ => by
    rw [or_tb (or_R (an_R (or_R hx hy) hy) hy) hx, or_tb (an_R (or_R hx hy) hy) hy, an_tb (or_R hx hy) hy, or_tb hx hy]; cases tb x i <;> cases tb y i <;> rfl
theorem mem_or {x : Int} (hx : R x) (f : Int) (h0 : 0 ≤ f) (h1 : f < 64) : mem (bits .or .u64 x (bit f)) f = true := by
  obtain ⟨n, rfl⟩ := Int.eq_ofNat_of_zero_le h0
  rw [mem_at _ _ (by omega), or_tb hx (bit_R _), bit_tb]
  simp; right; omega
theorem mem_an {x : Int} (hx : R x) (f : Int) (h0 : 0 ≤ f) (h1 : f < 64) : mem (bits .andNot .u64 x (bit f)) f = false := by
  obtain ⟨n, rfl⟩ := Int.eq_ofNat_of_zero_le h0
  rw [mem_at _ _ (by omega), an_tb hx (bit_R _), bit_tb]
  simp; intro _; omega
theorem haU_R {u : Int} (hu : R u) (f way : Int) : R (haU u f way) := by unfold haU; split; exact or_R hu (bit_R _); exact hu
theorem haD_R {d : Int} (hd : R d) (f way : Int) : R (haD d f way) := by unfold haD; split; exact or_R hd (bit_R _); exact hd
theorem clU_R {u : Int} (hu : R u) (f way : Int) : R (clU u f way) := by unfold clU; split; exact an_R hu (bit_R _); exact hu
theorem clD_R {d : Int} (hd : R d) (f way : Int) : R (clD d f way) := by unfold clD; split; exact an_R hd (bit_R _); exact hd
theorem haU_2 {u : Int} (hu : R u) (f way : Int) : haU (haU u f way) f way = haU u f way := by unfold haU; split; exact or_twice hu (bit_R _); rfl
theorem haD_2 {d : Int} (hd : R d) (f way : Int) : haD (haD d f way) f way = haD d f way := by unfold haD; split; exact or_twice hd (bit_R _); rfl
theorem at_on {u d : Int} (hu : R u) (hd : R d) (f way : Int) (g0 : 0 ≤ f) (g1 : f < 64) (hw : way = 1 ∨ way = 2) : atB (haU u f way) (haD d f way) f way = true := by
  rcases hw with rfl | rfl
  · unfold atB haU; simp [mem_or hu f g0 g1]
  · unfold atB haD; simp [mem_or hd f g0 g1]
theorem at_off {u d : Int} (hu : R u) (hd : R d) (f way : Int) (g0 : 0 ≤ f) (g1 : f < 64) (hw : way = 1 ∨ way = 2) : atB (clU (haU u f way) f way) (clD (haD d f way) f way) f way = false := by
  rcases hw with rfl | rfl
  · have h := mem_an (or_R hu (bit_R f)) f g0 g1
    unfold atB clU haU; simp [h]
  · have h := mem_an (or_R hd (bit_R f)) f g0 g1
    unfold atB clD haD; simp [h]
theorem at_1 (u d f : Int) : atB (clU (haU u f 1) f 1) (clD (haD d f 1) f 1) f 2 = atB u d f 2 := by unfold atB clD haD; simp
theorem at_2 (u d f : Int) : atB (clU (haU u f 2) f 2) (clD (haD d f 2) f 2) f 1 = atB u d f 1 := by unfold atB clU haU; simp
theorem back_1 {u : Int} (hu : R u) (f : Int) : bits .or .u64 (haU (clU (haU u f 1) f 1) f 1) u = haU u f 1 := by
  show bits .or .u64 (bits .or .u64 (bits .andNot .u64 (bits .or .u64 u (bit f)) (bit f)) (bit f)) u = bits .or .u64 u (bit f)
  exact once_back hu (bit_R f)
theorem back_2 {u : Int} (hu : R u) (f : Int) : bits .or .u64 (haU (clU (haU u f 2) f 2) f 2) u = haU u f 2 := by
  show bits .or .u64 u u = u
  exact or_self hu
set_option maxHeartbeats 4000000 in
theorem once (p u d f8 w8 : Int) (w : World) (hp : R p) (hu : R u) (hd : R d) (f0 : 0 ≤ f8) (f1 : f8 ≤ 255) (w0 : 0 ≤ w8) (w1 : w8 ≤ 255) :
    Calls Try.prog 8 #[.agg #[.int .u64 p, .int .u64 u, .int .u64 d], .int .u8 f8, .int .u8 w8] w fun e w' => e = .returned (.bool true) ∧ Since w w' := by
  go_enter Try.func8, Try.ntmps8
  go_wp2_with fail
  have kf : ∀ (w : World) (a b c : Value), (Instr.field 28 (.agg #[a, b, c]) 1).run Try.prog w = .ok b w := fun _ _ _ _ => by kernel_rfl
  generalize hF : f8 % 64 = f
  have g0 : 0 ≤ f := by omega
  have g1 : f < 64 := by omega
  clear hF
  rcases (show w8 % 2 = 0 ∨ w8 % 2 = 1 by omega) with hw | hw
  ·
    have e : w8 % 2 + 1 = 1 := by omega
    simp only [e]
    clear e hw
    have F1 := haU_2 hu f 1; have F1d := haD_2 hd f 1; have F3 := at_on hu hd f 1 g0 g1 (by omega); have F4 := at_off hu hd f 1 g0 g1 (by omega); have F5 := at_1 u d f; have F6 := back_1 hu f; have F7 := or_twice hp (bit_R f)
    have HF := Lib.hid (And.intro F1 (And.intro F1d (And.intro F3 (And.intro F4 (And.intro F5 (And.intro F6 F7))))))
    clear F1 F1d F3 F4 F5 F6 F7
    have ru := haU_R hu f 1; have rd := haD_R hd f 1; have ru2 := clU_R ru f 1; have rd2 := clD_R rd f 1
    refine (hallT p u d f 1 _).mono ?_
    rintro e w1 ⟨rfl, hb1⟩
    have s0 : w1.cell? ⟨w.heap.size, 0, none⟩ = some (.int .u64 p) := keep_cell hb1 (by simp [go_sem])
    have s1 : w1.cell? ⟨w.heap.size, 1, none⟩ = some (.int .u64 u) := keep_cell hb1 (by simp [go_sem])
    have s2 : w1.cell? ⟨w.heap.size, 2, none⟩ = some (.int .u64 d) := keep_cell hb1 (by simp [go_sem])
    have S1 : Since w w1 := Since.trans ((Since.refl w).alloc _) hb1
    have HS1 := Lib.hid S1
    clear hb1 S1
    go_wp2_with fail
    refine (clearT _ _ _ _ _ _).mono ?_
    rintro e w2 ⟨rfl, hb2⟩
    replace s0 := keep_alloc hb2 s0
    replace s1 := keep_alloc hb2 s1
    replace s2 := keep_alloc hb2 s2
    have a0 : w2.cell? ⟨w1.heap.size, 0, none⟩ = some (.int .u64 (p)) := new_alloc hb2 rfl
    have a1 : w2.cell? ⟨w1.heap.size, 1, none⟩ = some (.int .u64 (haU u f 1)) := new_alloc hb2 rfl
    have a2 : w2.cell? ⟨w1.heap.size, 2, none⟩ = some (.int .u64 (haD d f 1)) := new_alloc hb2 rfl
    have S2 : Since w w2 := Since.trans (HS1.out.alloc _) hb2
    have HS2 := Lib.hid S2
    clear hb2 S2 HS1
    go_wp2_with fail
    obtain ⟨w3, hw3⟩ : ∃ w3, w3 = w2.alloc (.cells #[.int .u64 (clP p f), .int .u64 (clU (haU u f 1) f 1), .int .u64 (clD (haD d f 1) f 1)] 28) := ⟨_, rfl⟩
    rw [← hw3]
    have hb3 : Since w2 w3 := by rw [hw3]; exact (Since.refl w2).alloc _
    replace s0 := keep_cell hb3 s0; replace a0 := keep_cell hb3 a0
    replace s1 := keep_cell hb3 s1; replace a1 := keep_cell hb3 a1
    replace s2 := keep_cell hb3 s2; replace a2 := keep_cell hb3 a2
    have b0 : w3.cell? ⟨w2.heap.size, 0, none⟩ = some (.int .u64 (clP p f)) := by rw [hw3]; simp [go_sem]
    have b1 : w3.cell? ⟨w2.heap.size, 1, none⟩ = some (.int .u64 (clU (haU u f 1) f 1)) := by rw [hw3]; simp [go_sem]
    have b2 : w3.cell? ⟨w2.heap.size, 2, none⟩ = some (.int .u64 (clD (haD d f 1) f 1)) := by rw [hw3]; simp [go_sem]
    have HS3 := Lib.hid (HS2.out.trans hb3)
    clear hb3 hw3 HS2
    have W1 : IntKind.i64.wrap (3 - 1) = 2 := by decide
    have W2 : IntKind.i64.wrap 2 = 2 := by decide
    obtain ⟨F1, F1d, F3, F4, F5, F6, F7⟩ := HF.out
    clear HF
    have hrK : ∀ W W' : World, Since W W' → (Since (w3) W ∧ W.cell? ⟨w.heap.size, 0, none⟩ = some (.int .u64 p) ∧ W.cell? ⟨w.heap.size, 1, none⟩ = some (.int .u64 u) ∧ W.cell? ⟨w.heap.size, 2, none⟩ = some (.int .u64 d) ∧ W.cell? ⟨w1.heap.size, 0, none⟩ = some (.int .u64 (p)) ∧ W.cell? ⟨w1.heap.size, 1, none⟩ = some (.int .u64 (haU u f 1)) ∧ W.cell? ⟨w1.heap.size, 2, none⟩ = some (.int .u64 (haD d f 1)) ∧ W.cell? ⟨w2.heap.size, 0, none⟩ = some (.int .u64 (clP p f)) ∧ W.cell? ⟨w2.heap.size, 1, none⟩ = some (.int .u64 (clU (haU u f 1) f 1)) ∧ W.cell? ⟨w2.heap.size, 2, none⟩ = some (.int .u64 (clD (haD d f 1) f 1))) → (Since (w3) W' ∧ W'.cell? ⟨w.heap.size, 0, none⟩ = some (.int .u64 p) ∧ W'.cell? ⟨w.heap.size, 1, none⟩ = some (.int .u64 u) ∧ W'.cell? ⟨w.heap.size, 2, none⟩ = some (.int .u64 d) ∧ W'.cell? ⟨w1.heap.size, 0, none⟩ = some (.int .u64 (p)) ∧ W'.cell? ⟨w1.heap.size, 1, none⟩ = some (.int .u64 (haU u f 1)) ∧ W'.cell? ⟨w1.heap.size, 2, none⟩ = some (.int .u64 (haD d f 1)) ∧ W'.cell? ⟨w2.heap.size, 0, none⟩ = some (.int .u64 (clP p f)) ∧ W'.cell? ⟨w2.heap.size, 1, none⟩ = some (.int .u64 (clU (haU u f 1) f 1)) ∧ W'.cell? ⟨w2.heap.size, 2, none⟩ = some (.int .u64 (clD (haD d f 1) f 1))) := fun W W' k ⟨h, h0, h1, h2, h3, h4, h5, h6, h7, h8⟩ => ⟨h.trans k, keep_cell k h0, keep_cell k h1, keep_cell k h2, keep_cell k h3, keep_cell k h4, keep_cell k h5, keep_cell k h6, keep_cell k h7, keep_cell k h8⟩
    have hrS : (fun W : World => Since (w3) W ∧ W.cell? ⟨w.heap.size, 0, none⟩ = some (.int .u64 p) ∧ W.cell? ⟨w.heap.size, 1, none⟩ = some (.int .u64 u) ∧ W.cell? ⟨w.heap.size, 2, none⟩ = some (.int .u64 d) ∧ W.cell? ⟨w1.heap.size, 0, none⟩ = some (.int .u64 (p)) ∧ W.cell? ⟨w1.heap.size, 1, none⟩ = some (.int .u64 (haU u f 1)) ∧ W.cell? ⟨w1.heap.size, 2, none⟩ = some (.int .u64 (haD d f 1)) ∧ W.cell? ⟨w2.heap.size, 0, none⟩ = some (.int .u64 (clP p f)) ∧ W.cell? ⟨w2.heap.size, 1, none⟩ = some (.int .u64 (clU (haU u f 1) f 1)) ∧ W.cell? ⟨w2.heap.size, 2, none⟩ = some (.int .u64 (clD (haD d f 1) f 1))) (w3) := ⟨Since.refl _, by first | assumption | (simp; done), by first | assumption | (simp; done), by first | assumption | (simp; done), by first | assumption | (simp; done), by first | assumption | (simp; done), by first | assumption | (simp; done), by first | assumption | (simp; done), by first | assumption | (simp; done), by first | assumption | (simp; done)⟩
    have hrD : (fun W : World => Since (w3) W ∧ W.cell? ⟨w.heap.size, 0, none⟩ = some (.int .u64 p) ∧ W.cell? ⟨w.heap.size, 1, none⟩ = some (.int .u64 u) ∧ W.cell? ⟨w.heap.size, 2, none⟩ = some (.int .u64 d) ∧ W.cell? ⟨w1.heap.size, 0, none⟩ = some (.int .u64 (p)) ∧ W.cell? ⟨w1.heap.size, 1, none⟩ = some (.int .u64 (haU u f 1)) ∧ W.cell? ⟨w1.heap.size, 2, none⟩ = some (.int .u64 (haD d f 1)) ∧ W.cell? ⟨w2.heap.size, 0, none⟩ = some (.int .u64 (clP p f)) ∧ W.cell? ⟨w2.heap.size, 1, none⟩ = some (.int .u64 (clU (haU u f 1) f 1)) ∧ W.cell? ⟨w2.heap.size, 2, none⟩ = some (.int .u64 (clD (haD d f 1) f 1))) (World.drew (w3)) := ⟨(Since.refl _).drew, hrS.2⟩
    have HRK := Lib.hid hrK
    have HRD := Lib.hid hrD
    clear hrK hrS hrD
    go_region_held3 (fun W => Since (w3) W ∧ W.cell? ⟨w.heap.size, 0, none⟩ = some (.int .u64 p) ∧ W.cell? ⟨w.heap.size, 1, none⟩ = some (.int .u64 u) ∧ W.cell? ⟨w.heap.size, 2, none⟩ = some (.int .u64 d) ∧ W.cell? ⟨w1.heap.size, 0, none⟩ = some (.int .u64 (p)) ∧ W.cell? ⟨w1.heap.size, 1, none⟩ = some (.int .u64 (haU u f 1)) ∧ W.cell? ⟨w1.heap.size, 2, none⟩ = some (.int .u64 (haD d f 1)) ∧ W.cell? ⟨w2.heap.size, 0, none⟩ = some (.int .u64 (clP p f)) ∧ W.cell? ⟨w2.heap.size, 1, none⟩ = some (.int .u64 (clU (haU u f 1) f 1)) ∧ W.cell? ⟨w2.heap.size, 2, none⟩ = some (.int .u64 (clD (haD d f 1) f 1))) (first | exact HRD.out | (apply HRK.out; assumption; assumption)) (first | (go_at_call 25; refine (ans _).mono ?_; rintro e w9 ⟨rfl, hb9⟩) | (go_at_call 26; refine (pressT _ _ _ _ _).mono ?_; rintro e w9 ⟨rfl, hb9⟩) | (go_at_call 27; refine (hallT _ _ _ _ _ _).mono ?_; rintro e w9 ⟨rfl, hb9⟩) | (go_at_call 30; refine (atT _ _ _ _ _ (by assumption) (by assumption) _).mono ?_; rintro e w9 ⟨rfl, hb9⟩))
    rename_i hq
    obtain ⟨hs9, hc9_0_0, hc9_0_1, hc9_0_2, hc9_1_0, hc9_1_1, hc9_1_2, hc9_2_0, hc9_2_1, hc9_2_2⟩ := hq
    clear HRK HRD
    have hl9_0 : w.heap.size < w9.heap.size := World.block_lt_of_cell? _ _ hc9_0_0
    have hl9_1 : w1.heap.size < w9.heap.size := World.block_lt_of_cell? _ _ hc9_1_0
    have hl9_2 : w2.heap.size < w9.heap.size := World.block_lt_of_cell? _ _ hc9_2_0
    have HS9 := Lib.hid hs9
    clear hs9
    all_goals
      go_wp2
      go_ret
      exact ⟨rfl, HS3.out.trans HS9.out⟩
  ·
    have e : w8 % 2 + 1 = 2 := by omega
    simp only [e]
    clear e hw
    have F1 := haU_2 hu f 2; have F1d := haD_2 hd f 2; have F3 := at_on hu hd f 2 g0 g1 (by omega); have F4 := at_off hu hd f 2 g0 g1 (by omega); have F5 := at_2 u d f; have F6 := back_2 hu f; have F7 := or_twice hp (bit_R f)
    have HF := Lib.hid (And.intro F1 (And.intro F1d (And.intro F3 (And.intro F4 (And.intro F5 (And.intro F6 F7))))))
    clear F1 F1d F3 F4 F5 F6 F7
    have ru := haU_R hu f 2; have rd := haD_R hd f 2; have ru2 := clU_R ru f 2; have rd2 := clD_R rd f 2
    refine (hallT p u d f 2 _).mono ?_
    rintro e w1 ⟨rfl, hb1⟩
    have s0 : w1.cell? ⟨w.heap.size, 0, none⟩ = some (.int .u64 p) := keep_cell hb1 (by simp [go_sem])
    have s1 : w1.cell? ⟨w.heap.size, 1, none⟩ = some (.int .u64 u) := keep_cell hb1 (by simp [go_sem])
    have s2 : w1.cell? ⟨w.heap.size, 2, none⟩ = some (.int .u64 d) := keep_cell hb1 (by simp [go_sem])
    have S1 : Since w w1 := Since.trans ((Since.refl w).alloc _) hb1
    have HS1 := Lib.hid S1
    clear hb1 S1
    go_wp2_with fail
    refine (clearT _ _ _ _ _ _).mono ?_
    rintro e w2 ⟨rfl, hb2⟩
    replace s0 := keep_alloc hb2 s0
    replace s1 := keep_alloc hb2 s1
    replace s2 := keep_alloc hb2 s2
    have a0 : w2.cell? ⟨w1.heap.size, 0, none⟩ = some (.int .u64 (p)) := new_alloc hb2 rfl
    have a1 : w2.cell? ⟨w1.heap.size, 1, none⟩ = some (.int .u64 (haU u f 2)) := new_alloc hb2 rfl
    have a2 : w2.cell? ⟨w1.heap.size, 2, none⟩ = some (.int .u64 (haD d f 2)) := new_alloc hb2 rfl
    have S2 : Since w w2 := Since.trans (HS1.out.alloc _) hb2
    have HS2 := Lib.hid S2
    clear hb2 S2 HS1
    go_wp2_with fail
    obtain ⟨w3, hw3⟩ : ∃ w3, w3 = w2.alloc (.cells #[.int .u64 (clP p f), .int .u64 (clU (haU u f 2) f 2), .int .u64 (clD (haD d f 2) f 2)] 28) := ⟨_, rfl⟩
    rw [← hw3]
    have hb3 : Since w2 w3 := by rw [hw3]; exact (Since.refl w2).alloc _
    replace s0 := keep_cell hb3 s0; replace a0 := keep_cell hb3 a0
    replace s1 := keep_cell hb3 s1; replace a1 := keep_cell hb3 a1
    replace s2 := keep_cell hb3 s2; replace a2 := keep_cell hb3 a2
    have b0 : w3.cell? ⟨w2.heap.size, 0, none⟩ = some (.int .u64 (clP p f)) := by rw [hw3]; simp [go_sem]
    have b1 : w3.cell? ⟨w2.heap.size, 1, none⟩ = some (.int .u64 (clU (haU u f 2) f 2)) := by rw [hw3]; simp [go_sem]
    have b2 : w3.cell? ⟨w2.heap.size, 2, none⟩ = some (.int .u64 (clD (haD d f 2) f 2)) := by rw [hw3]; simp [go_sem]
    have HS3 := Lib.hid (HS2.out.trans hb3)
    clear hb3 hw3 HS2
    have W1 : IntKind.i64.wrap (3 - 2) = 1 := by decide
    have W2 : IntKind.i64.wrap 1 = 1 := by decide
    obtain ⟨F1, F1d, F3, F4, F5, F6, F7⟩ := HF.out
    clear HF
    have hrK : ∀ W W' : World, Since W W' → (Since (w3) W ∧ W.cell? ⟨w.heap.size, 0, none⟩ = some (.int .u64 p) ∧ W.cell? ⟨w.heap.size, 1, none⟩ = some (.int .u64 u) ∧ W.cell? ⟨w.heap.size, 2, none⟩ = some (.int .u64 d) ∧ W.cell? ⟨w1.heap.size, 0, none⟩ = some (.int .u64 (p)) ∧ W.cell? ⟨w1.heap.size, 1, none⟩ = some (.int .u64 (haU u f 2)) ∧ W.cell? ⟨w1.heap.size, 2, none⟩ = some (.int .u64 (haD d f 2)) ∧ W.cell? ⟨w2.heap.size, 0, none⟩ = some (.int .u64 (clP p f)) ∧ W.cell? ⟨w2.heap.size, 1, none⟩ = some (.int .u64 (clU (haU u f 2) f 2)) ∧ W.cell? ⟨w2.heap.size, 2, none⟩ = some (.int .u64 (clD (haD d f 2) f 2))) → (Since (w3) W' ∧ W'.cell? ⟨w.heap.size, 0, none⟩ = some (.int .u64 p) ∧ W'.cell? ⟨w.heap.size, 1, none⟩ = some (.int .u64 u) ∧ W'.cell? ⟨w.heap.size, 2, none⟩ = some (.int .u64 d) ∧ W'.cell? ⟨w1.heap.size, 0, none⟩ = some (.int .u64 (p)) ∧ W'.cell? ⟨w1.heap.size, 1, none⟩ = some (.int .u64 (haU u f 2)) ∧ W'.cell? ⟨w1.heap.size, 2, none⟩ = some (.int .u64 (haD d f 2)) ∧ W'.cell? ⟨w2.heap.size, 0, none⟩ = some (.int .u64 (clP p f)) ∧ W'.cell? ⟨w2.heap.size, 1, none⟩ = some (.int .u64 (clU (haU u f 2) f 2)) ∧ W'.cell? ⟨w2.heap.size, 2, none⟩ = some (.int .u64 (clD (haD d f 2) f 2))) := fun W W' k ⟨h, h0, h1, h2, h3, h4, h5, h6, h7, h8⟩ => ⟨h.trans k, keep_cell k h0, keep_cell k h1, keep_cell k h2, keep_cell k h3, keep_cell k h4, keep_cell k h5, keep_cell k h6, keep_cell k h7, keep_cell k h8⟩
    have hrS : (fun W : World => Since (w3) W ∧ W.cell? ⟨w.heap.size, 0, none⟩ = some (.int .u64 p) ∧ W.cell? ⟨w.heap.size, 1, none⟩ = some (.int .u64 u) ∧ W.cell? ⟨w.heap.size, 2, none⟩ = some (.int .u64 d) ∧ W.cell? ⟨w1.heap.size, 0, none⟩ = some (.int .u64 (p)) ∧ W.cell? ⟨w1.heap.size, 1, none⟩ = some (.int .u64 (haU u f 2)) ∧ W.cell? ⟨w1.heap.size, 2, none⟩ = some (.int .u64 (haD d f 2)) ∧ W.cell? ⟨w2.heap.size, 0, none⟩ = some (.int .u64 (clP p f)) ∧ W.cell? ⟨w2.heap.size, 1, none⟩ = some (.int .u64 (clU (haU u f 2) f 2)) ∧ W.cell? ⟨w2.heap.size, 2, none⟩ = some (.int .u64 (clD (haD d f 2) f 2))) (w3) := ⟨Since.refl _, by first | assumption | (simp; done), by first | assumption | (simp; done), by first | assumption | (simp; done), by first | assumption | (simp; done), by first | assumption | (simp; done), by first | assumption | (simp; done), by first | assumption | (simp; done), by first | assumption | (simp; done), by first | assumption | (simp; done)⟩
    have hrD : (fun W : World => Since (w3) W ∧ W.cell? ⟨w.heap.size, 0, none⟩ = some (.int .u64 p) ∧ W.cell? ⟨w.heap.size, 1, none⟩ = some (.int .u64 u) ∧ W.cell? ⟨w.heap.size, 2, none⟩ = some (.int .u64 d) ∧ W.cell? ⟨w1.heap.size, 0, none⟩ = some (.int .u64 (p)) ∧ W.cell? ⟨w1.heap.size, 1, none⟩ = some (.int .u64 (haU u f 2)) ∧ W.cell? ⟨w1.heap.size, 2, none⟩ = some (.int .u64 (haD d f 2)) ∧ W.cell? ⟨w2.heap.size, 0, none⟩ = some (.int .u64 (clP p f)) ∧ W.cell? ⟨w2.heap.size, 1, none⟩ = some (.int .u64 (clU (haU u f 2) f 2)) ∧ W.cell? ⟨w2.heap.size, 2, none⟩ = some (.int .u64 (clD (haD d f 2) f 2))) (World.drew (w3)) := ⟨(Since.refl _).drew, hrS.2⟩
    have HRK := Lib.hid hrK
    have HRD := Lib.hid hrD
    clear hrK hrS hrD
    go_region_held3 (fun W => Since (w3) W ∧ W.cell? ⟨w.heap.size, 0, none⟩ = some (.int .u64 p) ∧ W.cell? ⟨w.heap.size, 1, none⟩ = some (.int .u64 u) ∧ W.cell? ⟨w.heap.size, 2, none⟩ = some (.int .u64 d) ∧ W.cell? ⟨w1.heap.size, 0, none⟩ = some (.int .u64 (p)) ∧ W.cell? ⟨w1.heap.size, 1, none⟩ = some (.int .u64 (haU u f 2)) ∧ W.cell? ⟨w1.heap.size, 2, none⟩ = some (.int .u64 (haD d f 2)) ∧ W.cell? ⟨w2.heap.size, 0, none⟩ = some (.int .u64 (clP p f)) ∧ W.cell? ⟨w2.heap.size, 1, none⟩ = some (.int .u64 (clU (haU u f 2) f 2)) ∧ W.cell? ⟨w2.heap.size, 2, none⟩ = some (.int .u64 (clD (haD d f 2) f 2))) (first | exact HRD.out | (apply HRK.out; assumption; assumption)) (first | (go_at_call 25; refine (ans _).mono ?_; rintro e w9 ⟨rfl, hb9⟩) | (go_at_call 26; refine (pressT _ _ _ _ _).mono ?_; rintro e w9 ⟨rfl, hb9⟩) | (go_at_call 27; refine (hallT _ _ _ _ _ _).mono ?_; rintro e w9 ⟨rfl, hb9⟩) | (go_at_call 30; refine (atT _ _ _ _ _ (by assumption) (by assumption) _).mono ?_; rintro e w9 ⟨rfl, hb9⟩))
    rename_i hq
    obtain ⟨hs9, hc9_0_0, hc9_0_1, hc9_0_2, hc9_1_0, hc9_1_1, hc9_1_2, hc9_2_0, hc9_2_1, hc9_2_2⟩ := hq
    clear HRK HRD
    have hl9_0 : w.heap.size < w9.heap.size := World.block_lt_of_cell? _ _ hc9_0_0
    have hl9_1 : w1.heap.size < w9.heap.size := World.block_lt_of_cell? _ _ hc9_1_0
    have hl9_2 : w2.heap.size < w9.heap.size := World.block_lt_of_cell? _ _ hc9_2_0
    have HS9 := Lib.hid hs9
    clear hs9
    all_goals
      go_wp2
      go_ret
      exact ⟨rfl, HS3.out.trans HS9.out⟩
end Go.Proofs.Ytfbnmoegdbdhjaa.St
