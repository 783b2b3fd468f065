/-
  stops.Calls: which hall calls there are, floor by floor, up ahead of down, as a slice of the call's own (layer 12).
  No condition.
-/
import Derived.Test.YtfbnmoegdbdhjaaStoW
import Derived.Test.YtfbnmoegdbdhjaaByt
import Derived.LoopN
namespace Go.Proofs.Ytfbnmoegdbdhjaa.St
set_option linter.unusedVariables false
set_option linter.unusedSimpArgs false
open Go.RowKit Go.Proofs.Ytfbnmoegdbdhjaa.Ba Go.Proofs.Ytfbnmoegdbdhjaa.Mem
open Go.Proofs.Ytfbnmoegdbdhjaa.Byt (own_below own_form own_block own_mono)
set_option maxRecDepth 100000
/-- Two values, laid in a block of their own just ahead, appended to a row of the call's own. -/
theorem wpList_append_2 {P : Program} {W0 : World} {ops : Array Oper} {rest : List Oper} {o : Oper} {a : Act} {Q : Exit → Act → World → Prop} (hgd : o.guard = none) (s x : Operand) (t : TypeId)
    (ho : o.op = .call { callee := .builtin .append, args := #[s, x], argTypes := #[t, t] })
    (base : Nat) (e : TypeId) (z : Value) (bytes : Nat) (ht : P.underlying t = some (.slice e)) (hinf : (P.info? e).map (fun i => (i.zero, i.size, i.bytes)) = some (some z, 2, bytes)) (hzs : z.cells.size = 2)
    (v : Value) (n : Nat) (xs : List Value) (hs : a.eval s = v) (hown : W0.ownsRow base e 2 v n xs)
    (u1 u2 : Value) (hu1 : u1.oneCell' = true) (hu2 : u2.oneCell' = true) (hx : a.eval x = .slice (some ⟨W0.heap.size, 0, none⟩) 1 1) (h63 : n + 1 ≤ maxLen) (hbytes : (n + 1) * bytes ≤ 140737488355328) (hbase : base ≤ W0.heap.size)
    (h : ∀ v' w', w'.ownsRow base e 2 v' (n + 1) (xs ++ [u1, u2]) → (W0.alloc (.cells #[u1, u2] e)).grownBy w' v.ownBlock → Below base (W0.alloc (.cells #[u1, u2] e)) w' → wpList P ops Q rest (a.put o.dst v') w') :
    wpList P ops Q (o :: rest) a (W0.alloc (.cells #[u1, u2] e)) := by
  obtain ⟨i, hi, hz, h1, h2⟩ := info_parts hinf
  have hr : Reads (W0.alloc (.cells #[u1, u2] e)) (W0.alloc (.cells #[u1, u2] e)).heap.size 2 (some ⟨W0.heap.size, 0, none⟩) 1 [u1, u2] := by
    refine ⟨rfl, fun _ => ⟨_, rfl, by simp, fun j y hj => ?_⟩⟩
    rw [Go.WideShapes.add_plain, cell_of_row (W0.alloc (.cells #[u1, u2] e)) W0.heap.size (0 + j) _ _ _ (heap_alloc_new W0 _), Nat.zero_add]
    simpa using hj
  refine wpList_append_any (W0.alloc (.cells #[u1, u2] e)) hgd s x t ho base e i _ 2 bytes ht hi hz h1 h2 hzs (by omega) v n xs hs (hown.alloc _) _ _ 1 1 [u1, u2] hx hr (by intro y hy; simp at hy; rcases hy with rfl | rfl <;> assumption) h63 hbytes (by simp; omega) ?_
  intro v' w' hown' hg hat
  exact h v' w' hown' hg ((Below.refl _ _).grown hg (by simp; omega) (own_block W0 hown))
/-- The hall calls at a floor; at all floors below k; as cells. -/
def callP (u d : Int) (k : Nat) : List (Nat × Int) := (if mem u k = true then [(k, 1)] else []) ++ (if mem d k = true then [(k, 2)] else [])
def cl (u d : Int) : Nat → List (Nat × Int)
  | 0 => []
  | k + 1 => cl u d k ++ callP u d k
def cells2 (l : List (Nat × Int)) : List Value := l.flatMap fun x => [.int .i64 x.1, .int .i64 x.2]
theorem cells2_app (l m : List (Nat × Int)) : cells2 (l ++ m) = cells2 l ++ cells2 m := by unfold cells2; simp
theorem cl_len (u d : Int) : ∀ k, (cl u d k).length ≤ 2 * k
  | 0 => by simp [cl]
  | k + 1 => by
    have := cl_len u d k
    unfold cl callP
    simp only [List.length_append]
    repeat' split
    all_goals simp
    all_goals omega
/-- The list, floors below k told, and where s lies. -/
def Own (w wr : World) (v : Value) (p u d : Int) (k : Nat) : Prop := wr.ownsRow (w.heap.size + 1) 50 2 v (cl u d k).length (cells2 (cl u d k)) ∧ Since w wr ∧ Blk wr w.heap.size 28 #[.int .u64 p, .int .u64 u, .int .u64 d]
theorem infoC : (Try.prog.info? 50).map (fun i => (i.zero, i.size, i.bytes)) = some (some (.agg #[.int .i64 0, .int .i64 0]), 2, 16) := by kernel_rfl
set_option maxHeartbeats 4000000 in
theorem callsT (p u d : Int) (hp : R p) (hu : R u) (hd : R d) (w : World) : Calls Try.prog 29 #[.agg #[.int .u64 p, .int .u64 u, .int .u64 d]] w fun e w' => ∃ v, e = .returned v ∧ w'.ownsRow w.heap.size 50 2 v (cl u d 64).length (cells2 (cl u d 64)) ∧ Since w w' := by
  go_enter Try.func29, Try.ntmps29
  go_wp2_with fail
  go_loopw [3, 7] (fun v i wr => ∃ k : Nat, k ≤ 64 ∧ i = .int .i64 k ∧ Hid (Own w wr v p u d k)) (fun _ i _ => (64 - intOf i).toNat)
  case atStart => exact ⟨0, by omega, rfl, Lib.hid ⟨World.ownsRow_nil _ _ _ _, (by repeat (first | exact Since.refl _ | assumption | refine Since.setCell ?_ (by first | (simp; done) | (simp; omega)) _ | refine Since.drew ?_ | refine Since.drewN ?_ _ | refine Since.alloc ?_ _ | refine Since.trans ?_ (by assumption) | refine Since.trans ?_ (Hid.out (by assumption)))), Blk.new _ _ _⟩⟩
  case round =>
    obtain ⟨k, hk, rfl, HO⟩ := hrel
    by_cases hlt : k < 64
    · have hk0 : (k : Int) < 64 := by omega
      have hk1 : (0 : Int) ≤ (k : Int) := by omega
      have hn := cl_len u d k
      rcases (show (mem u k = true ∧ mem d k = true) ∨ (mem u k = true ∧ mem d k = false) ∨ (mem u k = false ∧ mem d k = true) ∨ (mem u k = false ∧ mem d k = false) by cases mem u k <;> cases mem d k <;> simp) with ⟨h1, h2⟩ | ⟨h1, h2⟩ | ⟨h1, h2⟩ | ⟨h1, h2⟩
      · have HC := Lib.hid (show cl u d (k + 1) = cl u d k ++ [(k, 1), (k, 2)] by show cl u d k ++ callP u d k = _; unfold callP; rw [h1, h2]; rfl)
        have hA1 : atB u d (k : Int) 1 = true := by unfold atB; simp [h1]
        have hA2 : atB u d (k : Int) 2 = true := by unfold atB; simp [h2]
        obtain ⟨O, S, B⟩ := HO.out
        have c0 := B.cell 0
        have c1 := B.cell 1
        have c2 := B.cell 2
        simp at c0 c1 c2
        have hlw : w.heap.size < wr.heap.size := B.lt
        clear h1 h2
        have HS := Lib.hid S
        have HR := Lib.hid O
        have HB := Lib.hid B
        clear S O B
        go_wp2_with fail
        refine wp_loop_rounds 3 ?_
        rw [rounds_succ]
        go_wp2_with fail
        refine (atT _ _ _ _ _ hu hd _).mono ?_
        rintro e w2 ⟨rfl, hb2⟩
        have A2 := (Blk.new wr 3 #[.int .i64 1, .int .i64 2]).below hb2 (by simp)
        have B2 := (HB.out.alloc (.cells #[.int .i64 1, .int .i64 2] 3)).below hb2 (by simp; omega)
        have O2 := own_below (HR.out.alloc (.cells #[.int .i64 1, .int .i64 2] 3)) hb2
        have S2 : Since w w2 := (HS.out.alloc (.cells #[.int .i64 1, .int .i64 2] 3)).trans hb2
        clear c0 c1 c2 HS HR HB hb2
        have hlw2 : w.heap.size < w2.heap.size := B2.lt
        have a0 := A2.cell 0; have a1 := A2.cell 1; simp at a0 a1
        have HS2 := Lib.hid S2; have HR2 := Lib.hid O2; have HB2 := Lib.hid B2; have HA2 := Lib.hid A2; clear S2 O2 B2 A2
        go_wp2_with (first | (at_builtin; refine wpList_append_2 rfl (.tmp 20) (.tmp 24) _ rfl (w.heap.size + 1) 50 _ 16 Try.underlying46 infoC rfl _ (cl u d k).length (cells2 (cl u d k)) rfl HR2.out (.int .i64 k) (.int .i64 1) rfl rfl rfl (by unfold maxLen; omega) (by omega) (by omega) ?_; intro v3 w3 O3 g3 b3; have A3 := (HA2.out.alloc (.cells #[.int .i64 k, .int .i64 1] 50)).grown g3 (Ne.symm (own_blk_ne (HR2.out.alloc (.cells #[.int .i64 k, .int .i64 1] 50)) (HA2.out.alloc (.cells #[.int .i64 k, .int .i64 1] 50)) (by decide))); have B3 := (HB2.out.alloc (.cells #[.int .i64 k, .int .i64 1] 50)).below b3 (by omega); have S3 : Since w w3 := Below.trans (HS2.out.alloc (.cells #[.int .i64 k, .int .i64 1] 50)) (b3.mono (by omega)); have hlw3 : w.heap.size < w3.heap.size := B3.lt; have HS3 := Lib.hid S3; have HR3 := Lib.hid O3; have HB3 := Lib.hid B3; have HA3 := Lib.hid A3; clear S3 O3 B3 A3 g3 b3 HA2 HB2 HR2 HS2))
        have S3 := HS3.out; have O3 := HR3.out; have B3 := HB3.out; have A3 := HA3.out; clear HS3 HR3 HB3 HA3
        clear a0 a1
        have a0 := A3.cell 0; have a1 := A3.cell 1; have c0 := B3.cell 0; have c1 := B3.cell 1; have c2 := B3.cell 2
        simp at a0 a1 c0 c1 c2
        have HS3 := Lib.hid S3; have HR3 := Lib.hid O3; have HB3 := Lib.hid B3; have HA3 := Lib.hid A3; clear S3 O3 B3 A3
        rw [rounds_succ]
        go_wp2_with fail
        refine (atT _ _ _ _ _ hu hd _).mono ?_
        rintro e w4 ⟨rfl, hb4⟩
        have A4 := HA3.out.below hb4 HA3.out.lt; have B4 := HB3.out.below hb4 (by omega); have O4 := own_below HR3.out hb4; have S4 : Since w w4 := HS3.out.trans hb4
        clear hb4 HS3 HR3 HB3 HA3 a0 a1 c0 c1 c2
        have hlw4 : w.heap.size < w4.heap.size := B4.lt
        have HS4 := Lib.hid S4; have HR4 := Lib.hid O4; have HB4 := Lib.hid B4; have HA4 := Lib.hid A4; clear S4 O4 B4 A4
        go_wp2_with (first | (at_builtin; refine wpList_append_2 rfl (.tmp 20) (.tmp 24) _ rfl (w.heap.size + 1) 50 _ 16 Try.underlying46 infoC rfl _ ((cl u d k).length + 1) (cells2 (cl u d k) ++ [.int .i64 k, .int .i64 1]) rfl HR4.out (.int .i64 k) (.int .i64 2) rfl rfl rfl (by unfold maxLen; omega) (by omega) (by omega) ?_; intro v5 w5 O5 g5 b5; have A5 := (HA4.out.alloc (.cells #[.int .i64 k, .int .i64 2] 50)).grown g5 (Ne.symm (own_blk_ne (HR4.out.alloc (.cells #[.int .i64 k, .int .i64 2] 50)) (HA4.out.alloc (.cells #[.int .i64 k, .int .i64 2] 50)) (by decide))); have B5 := (HB4.out.alloc (.cells #[.int .i64 k, .int .i64 2] 50)).below b5 (by omega); have S5 : Since w w5 := Below.trans (HS4.out.alloc (.cells #[.int .i64 k, .int .i64 2] 50)) (b5.mono (by omega)); have hlw5 : w.heap.size < w5.heap.size := B5.lt; have HS5 := Lib.hid S5; have HR5 := Lib.hid O5; have HB5 := Lib.hid B5; have HA5 := Lib.hid A5; clear S5 O5 B5 A5 g5 b5 HA4 HB4 HR4 HS4))
        have S5 := HS5.out; have O5 := HR5.out; have B5 := HB5.out; have A5 := HA5.out; clear HS5 HR5 HB5 HA5
        have HS5 := Lib.hid S5; have HR5 := Lib.hid O5; have HB5 := Lib.hid B5; clear S5 O5 B5 A5
        rw [rounds_succ]
        go_wp2_with fail
        go_roundw
        case rel => exact ⟨k + 1, by omega, by go_num, Lib.hid ⟨by rw [HC.out, cells2_app, List.length_append]; simpa [cells2] using HR5.out, HS5.out, HB5.out⟩⟩
        case measure => simp [intOf]; omega
      · have HC := Lib.hid (show cl u d (k + 1) = cl u d k ++ [(k, 1)] by show cl u d k ++ callP u d k = _; unfold callP; rw [h1, h2]; rfl)
        have hA1 : atB u d (k : Int) 1 = true := by unfold atB; simp [h1]
        have hA2 : atB u d (k : Int) 2 = false := by unfold atB; simp [h2]
        obtain ⟨O, S, B⟩ := HO.out
        have c0 := B.cell 0
        have c1 := B.cell 1
        have c2 := B.cell 2
        simp at c0 c1 c2
        have hlw : w.heap.size < wr.heap.size := B.lt
        clear h1 h2
        have HS := Lib.hid S
        have HR := Lib.hid O
        have HB := Lib.hid B
        clear S O B
        go_wp2_with fail
        refine wp_loop_rounds 3 ?_
        rw [rounds_succ]
        go_wp2_with fail
        refine (atT _ _ _ _ _ hu hd _).mono ?_
        rintro e w2 ⟨rfl, hb2⟩
        have A2 := (Blk.new wr 3 #[.int .i64 1, .int .i64 2]).below hb2 (by simp)
        have B2 := (HB.out.alloc (.cells #[.int .i64 1, .int .i64 2] 3)).below hb2 (by simp; omega)
        have O2 := own_below (HR.out.alloc (.cells #[.int .i64 1, .int .i64 2] 3)) hb2
        have S2 : Since w w2 := (HS.out.alloc (.cells #[.int .i64 1, .int .i64 2] 3)).trans hb2
        clear c0 c1 c2 HS HR HB hb2
        have hlw2 : w.heap.size < w2.heap.size := B2.lt
        have a0 := A2.cell 0; have a1 := A2.cell 1; simp at a0 a1
        have HS2 := Lib.hid S2; have HR2 := Lib.hid O2; have HB2 := Lib.hid B2; have HA2 := Lib.hid A2; clear S2 O2 B2 A2
        go_wp2_with (first | (at_builtin; refine wpList_append_2 rfl (.tmp 20) (.tmp 24) _ rfl (w.heap.size + 1) 50 _ 16 Try.underlying46 infoC rfl _ (cl u d k).length (cells2 (cl u d k)) rfl HR2.out (.int .i64 k) (.int .i64 1) rfl rfl rfl (by unfold maxLen; omega) (by omega) (by omega) ?_; intro v3 w3 O3 g3 b3; have A3 := (HA2.out.alloc (.cells #[.int .i64 k, .int .i64 1] 50)).grown g3 (Ne.symm (own_blk_ne (HR2.out.alloc (.cells #[.int .i64 k, .int .i64 1] 50)) (HA2.out.alloc (.cells #[.int .i64 k, .int .i64 1] 50)) (by decide))); have B3 := (HB2.out.alloc (.cells #[.int .i64 k, .int .i64 1] 50)).below b3 (by omega); have S3 : Since w w3 := Below.trans (HS2.out.alloc (.cells #[.int .i64 k, .int .i64 1] 50)) (b3.mono (by omega)); have hlw3 : w.heap.size < w3.heap.size := B3.lt; have HS3 := Lib.hid S3; have HR3 := Lib.hid O3; have HB3 := Lib.hid B3; have HA3 := Lib.hid A3; clear S3 O3 B3 A3 g3 b3 HA2 HB2 HR2 HS2))
        have S3 := HS3.out; have O3 := HR3.out; have B3 := HB3.out; have A3 := HA3.out; clear HS3 HR3 HB3 HA3
        clear a0 a1
        have a0 := A3.cell 0; have a1 := A3.cell 1; have c0 := B3.cell 0; have c1 := B3.cell 1; have c2 := B3.cell 2
        simp at a0 a1 c0 c1 c2
        have HS3 := Lib.hid S3; have HR3 := Lib.hid O3; have HB3 := Lib.hid B3; have HA3 := Lib.hid A3; clear S3 O3 B3 A3
        rw [rounds_succ]
        go_wp2_with fail
        refine (atT _ _ _ _ _ hu hd _).mono ?_
        rintro e w4 ⟨rfl, hb4⟩
        have A4 := HA3.out.below hb4 HA3.out.lt; have B4 := HB3.out.below hb4 (by omega); have O4 := own_below HR3.out hb4; have S4 : Since w w4 := HS3.out.trans hb4
        clear hb4 HS3 HR3 HB3 HA3 a0 a1 c0 c1 c2
        have hlw4 : w.heap.size < w4.heap.size := B4.lt
        have HS4 := Lib.hid S4; have HR4 := Lib.hid O4; have HB4 := Lib.hid B4; clear S4 O4 B4 A4
        go_wp2_with fail
        rw [rounds_succ]
        go_wp2_with fail
        go_roundw
        case rel => exact ⟨k + 1, by omega, by go_num, Lib.hid ⟨by rw [HC.out, cells2_app, List.length_append]; simpa [cells2] using HR4.out, HS4.out, HB4.out⟩⟩
        case measure => simp [intOf]; omega
      · have HC := Lib.hid (show cl u d (k + 1) = cl u d k ++ [(k, 2)] by show cl u d k ++ callP u d k = _; unfold callP; rw [h1, h2]; rfl)
        have hA1 : atB u d (k : Int) 1 = false := by unfold atB; simp [h1]
        have hA2 : atB u d (k : Int) 2 = true := by unfold atB; simp [h2]
        obtain ⟨O, S, B⟩ := HO.out
        have c0 := B.cell 0
        have c1 := B.cell 1
        have c2 := B.cell 2
        simp at c0 c1 c2
        have hlw : w.heap.size < wr.heap.size := B.lt
        clear h1 h2
        have HS := Lib.hid S
        have HR := Lib.hid O
        have HB := Lib.hid B
        clear S O B
        go_wp2_with fail
        refine wp_loop_rounds 3 ?_
        rw [rounds_succ]
        go_wp2_with fail
        refine (atT _ _ _ _ _ hu hd _).mono ?_
        rintro e w2 ⟨rfl, hb2⟩
        have A2 := (Blk.new wr 3 #[.int .i64 1, .int .i64 2]).below hb2 (by simp)
        have B2 := (HB.out.alloc (.cells #[.int .i64 1, .int .i64 2] 3)).below hb2 (by simp; omega)
        have O2 := own_below (HR.out.alloc (.cells #[.int .i64 1, .int .i64 2] 3)) hb2
        have S2 : Since w w2 := (HS.out.alloc (.cells #[.int .i64 1, .int .i64 2] 3)).trans hb2
        clear c0 c1 c2 HS HR HB hb2
        have hlw2 : w.heap.size < w2.heap.size := B2.lt
        have a0 := A2.cell 0; have a1 := A2.cell 1; simp at a0 a1
        have HS2 := Lib.hid S2; have HR2 := Lib.hid O2; have HB2 := Lib.hid B2; have HA2 := Lib.hid A2; clear S2 O2 B2 A2
        go_wp2_with fail
        have S2 := HS2.out; have O2 := HR2.out; have B2 := HB2.out; have A2 := HA2.out; clear HS2 HR2 HB2 HA2
        clear a0 a1
        have a0 := A2.cell 0; have a1 := A2.cell 1; have c0 := B2.cell 0; have c1 := B2.cell 1; have c2 := B2.cell 2
        simp at a0 a1 c0 c1 c2
        have HS2 := Lib.hid S2; have HR2 := Lib.hid O2; have HB2 := Lib.hid B2; have HA2 := Lib.hid A2; clear S2 O2 B2 A2
        rw [rounds_succ]
        go_wp2_with fail
        refine (atT _ _ _ _ _ hu hd _).mono ?_
        rintro e w4 ⟨rfl, hb4⟩
        have A4 := HA2.out.below hb4 HA2.out.lt; have B4 := HB2.out.below hb4 (by omega); have O4 := own_below HR2.out hb4; have S4 : Since w w4 := HS2.out.trans hb4
        clear hb4 HS2 HR2 HB2 HA2 a0 a1 c0 c1 c2
        have hlw4 : w.heap.size < w4.heap.size := B4.lt
        have HS4 := Lib.hid S4; have HR4 := Lib.hid O4; have HB4 := Lib.hid B4; have HA4 := Lib.hid A4; clear S4 O4 B4 A4
        go_wp2_with (first | (at_builtin; refine wpList_append_2 rfl (.tmp 20) (.tmp 24) _ rfl (w.heap.size + 1) 50 _ 16 Try.underlying46 infoC rfl _ (cl u d k).length (cells2 (cl u d k)) rfl HR4.out (.int .i64 k) (.int .i64 2) rfl rfl rfl (by unfold maxLen; omega) (by omega) (by omega) ?_; intro v5 w5 O5 g5 b5; have A5 := (HA4.out.alloc (.cells #[.int .i64 k, .int .i64 2] 50)).grown g5 (Ne.symm (own_blk_ne (HR4.out.alloc (.cells #[.int .i64 k, .int .i64 2] 50)) (HA4.out.alloc (.cells #[.int .i64 k, .int .i64 2] 50)) (by decide))); have B5 := (HB4.out.alloc (.cells #[.int .i64 k, .int .i64 2] 50)).below b5 (by omega); have S5 : Since w w5 := Below.trans (HS4.out.alloc (.cells #[.int .i64 k, .int .i64 2] 50)) (b5.mono (by omega)); have hlw5 : w.heap.size < w5.heap.size := B5.lt; have HS5 := Lib.hid S5; have HR5 := Lib.hid O5; have HB5 := Lib.hid B5; have HA5 := Lib.hid A5; clear S5 O5 B5 A5 g5 b5 HA4 HB4 HR4 HS4))
        have S5 := HS5.out; have O5 := HR5.out; have B5 := HB5.out; have A5 := HA5.out; clear HS5 HR5 HB5 HA5
        have HS5 := Lib.hid S5; have HR5 := Lib.hid O5; have HB5 := Lib.hid B5; clear S5 O5 B5 A5
        rw [rounds_succ]
        go_wp2_with fail
        go_roundw
        case rel => exact ⟨k + 1, by omega, by go_num, Lib.hid ⟨by rw [HC.out, cells2_app, List.length_append]; simpa [cells2] using HR5.out, HS5.out, HB5.out⟩⟩
        case measure => simp [intOf]; omega
      · have HC := Lib.hid (show cl u d (k + 1) = cl u d k ++ [] by show cl u d k ++ callP u d k = _; unfold callP; rw [h1, h2]; rfl)
        have hA1 : atB u d (k : Int) 1 = false := by unfold atB; simp [h1]
        have hA2 : atB u d (k : Int) 2 = false := by unfold atB; simp [h2]
        obtain ⟨O, S, B⟩ := HO.out
        have c0 := B.cell 0
        have c1 := B.cell 1
        have c2 := B.cell 2
        simp at c0 c1 c2
        have hlw : w.heap.size < wr.heap.size := B.lt
        clear h1 h2
        have HS := Lib.hid S
        have HR := Lib.hid O
        have HB := Lib.hid B
        clear S O B
        go_wp2_with fail
        refine wp_loop_rounds 3 ?_
        rw [rounds_succ]
        go_wp2_with fail
        refine (atT _ _ _ _ _ hu hd _).mono ?_
        rintro e w2 ⟨rfl, hb2⟩
        have A2 := (Blk.new wr 3 #[.int .i64 1, .int .i64 2]).below hb2 (by simp)
        have B2 := (HB.out.alloc (.cells #[.int .i64 1, .int .i64 2] 3)).below hb2 (by simp; omega)
        have O2 := own_below (HR.out.alloc (.cells #[.int .i64 1, .int .i64 2] 3)) hb2
        have S2 : Since w w2 := (HS.out.alloc (.cells #[.int .i64 1, .int .i64 2] 3)).trans hb2
        clear c0 c1 c2 HS HR HB hb2
        have hlw2 : w.heap.size < w2.heap.size := B2.lt
        have a0 := A2.cell 0; have a1 := A2.cell 1; simp at a0 a1
        have HS2 := Lib.hid S2; have HR2 := Lib.hid O2; have HB2 := Lib.hid B2; have HA2 := Lib.hid A2; clear S2 O2 B2 A2
        go_wp2_with fail
        have S2 := HS2.out; have O2 := HR2.out; have B2 := HB2.out; have A2 := HA2.out; clear HS2 HR2 HB2 HA2
        clear a0 a1
        have a0 := A2.cell 0; have a1 := A2.cell 1; have c0 := B2.cell 0; have c1 := B2.cell 1; have c2 := B2.cell 2
        simp at a0 a1 c0 c1 c2
        have HS2 := Lib.hid S2; have HR2 := Lib.hid O2; have HB2 := Lib.hid B2; have HA2 := Lib.hid A2; clear S2 O2 B2 A2
        rw [rounds_succ]
        go_wp2_with fail
        refine (atT _ _ _ _ _ hu hd _).mono ?_
        rintro e w4 ⟨rfl, hb4⟩
        have A4 := HA2.out.below hb4 HA2.out.lt; have B4 := HB2.out.below hb4 (by omega); have O4 := own_below HR2.out hb4; have S4 : Since w w4 := HS2.out.trans hb4
        clear hb4 HS2 HR2 HB2 HA2 a0 a1 c0 c1 c2
        have hlw4 : w.heap.size < w4.heap.size := B4.lt
        have HS4 := Lib.hid S4; have HR4 := Lib.hid O4; have HB4 := Lib.hid B4; clear S4 O4 B4 A4
        go_wp2_with fail
        rw [rounds_succ]
        go_wp2_with fail
        go_roundw
        case rel => exact ⟨k + 1, by omega, by go_num, Lib.hid ⟨by rw [HC.out, cells2_app, List.length_append]; simpa [cells2] using HR4.out, HS4.out, HB4.out⟩⟩
        case measure => simp [intOf]; omega
    · obtain rfl : k = 64 := by omega
      go_wp2
      go_ret
      exact ⟨_, rfl, own_mono HO.out.1 (Nat.le_succ _), HO.out.2.1⟩
end Go.Proofs.Ytfbnmoegdbdhjaa.St
