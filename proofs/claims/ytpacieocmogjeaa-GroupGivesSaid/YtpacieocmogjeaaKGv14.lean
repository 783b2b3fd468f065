/-
  What is wanted by the last of these texts, part 14.
  No condition.
-/
import Derived.Test.YtpacieocmogjeaaKGv6
import Derived.Test.YtpacieocmogjeaaKGv11
import Derived.Test.YtpacieocmogjeaaKGv10
import Derived.Test.YtpacieocmogjeaaKGv12
import Derived.Test.YtpacieocmogjeaaKGv1
import Derived.Laws.CopyRow
import Derived.Laws.MakeOwn
import Derived.Test.YtpacieocmogjeaaProg
import Derived.Test.YtpacieocmogjeaaKGv0
import Derived.Test.YtpacieocmogjeaaKGv13
import Derived.WalkKit
import Derived.Test.YtpacieocmogjeaaRows
namespace Go.Proofs.Ytpacieocmogjeaa.Sc
set_option linter.unusedVariables false
set_option linter.unusedSimpArgs false
open Go.RowKit Go.Proofs.Ytpacieocmogjeaa.Ba Go.Proofs.Ytpacieocmogjeaa.St
set_option maxRecDepth 100000
end Go.Proofs.Ytpacieocmogjeaa.Sc
namespace Go.Proofs.Ytpacieocmogjeaa.Sc
set_option linter.unusedVariables false
set_option linter.unusedSimpArgs false
open Go.Proofs.Ytpacieocmogjeaa.St
end Go.Proofs.Ytpacieocmogjeaa.Sc
namespace Go.Proofs.Ytpacieocmogjeaa.Ct
set_option linter.unusedVariables false
set_option linter.unusedSimpArgs false
open Go.RowKit Go.Proofs.Ytpacieocmogjeaa.Ba Go.Proofs.Ytpacieocmogjeaa.Mem Go.Proofs.Ytpacieocmogjeaa.Ty Go.Proofs.Ytpacieocmogjeaa.Do Go.Proofs.Ytpacieocmogjeaa.Mo Go.Proofs.Ytpacieocmogjeaa.St Go.Proofs.Ytpacieocmogjeaa.Sc Go.Proofs.Ytpacieocmogjeaa.Pl
/-- A car that may be. -/
def mayB (c : CfgV) (x : CarV) : Bool := goodB c x && decide ((x.mo = 0 ∨ x.mo = 1) ∧ (lvB x.un = true ∨ ¬ x.wy = 0) ∧ (¬ x.mo = 1 ∨ (0 ≤ x.ta ∧ x.ta < fl c.fl)))
theorem mayB_iff (c : CfgV) (x : CarV) : mayB c x = true ↔ (goodB c x = true ∧ (x.mo = 0 ∨ x.mo = 1) ∧ (lvB x.un = true ∨ ¬ x.wy = 0) ∧ (¬ x.mo = 1 ∨ (0 ≤ x.ta ∧ x.ta < fl c.fl))) := by unfold mayB; simp
/-- A step that is no move leaves place and way; one that is goes by a way. -/
theorem step_un (c : CfgV) (x : CarV) (r : Int) (o k : Bool) : ((stepV c x r o k).un = x.un ∧ (stepV c x r o k).wy = x.wy) ∨ (x.br = false ∧ x.ds = 0 ∧ (stepV c x r o k).ds = 0 ∧ (r = 1 ∨ r = 2) ∧ (stepV c x r o k).wy = r) := by
  show (un1 c x r o k = x.un ∧ wy1 c x r o k = x.wy) ∨ (x.br = false ∧ x.ds = 0 ∧ dS1 c x o k = 0 ∧ (r = 1 ∨ r = 2) ∧ wy1 c x r o k = r)
  unfold un1 wy1
  by_cases g : goesB c x r o k = true
  · rw [if_pos g, if_pos g]
    have g' := of_decide_eq_true (show decide _ = true from g)
    exact .inr ⟨g'.1, g'.2.1, g'.2.2.1, g'.2.2.2, rfl⟩
  · rw [if_neg g, if_neg g]
    exact .inl ⟨rfl, rfl⟩
theorem st_in (p u d f j : Int) : stW p u d f j = 0 ∨ stW p u d f j = 1 ∨ stW p u d f j = 2 := by
  unfold stW fst2; (repeat' split) <;> omega
theorem nx_in {p u d f way j : Int} (h : way = 0 ∨ way = 1 ∨ way = 2) : nxW p u d f way j = 0 ∨ nxW p u d f way j = 1 ∨ nxW p u d f way j = 2 := by
  unfold nxW
  split
  · exact st_in _ _ _ _ _
  · unfold onW ot
    try unfold stW
    try unfold fst2
    (repeat' split) <;> omega
theorem dw_in (n : Int) : 1 ≤ dwV n ∧ dwV n ≤ 1000 := by unfold dwV m1; (repeat' split) <;> omega
/-- What of a car a tick looks at, behind what it is told ahead of its step. -/
theorem tk_same (c : CfgV) (x : CarV) : (tkX c x).ds = x.ds ∧ (tkX c x).da = x.da ∧ (tkX c x).un = x.un ∧ (tkX c x).br = x.br ∧ (tkX c x).mo = x.mo ∧ (tkX c x).ta = x.ta ∧ (tkX c x).bl = x.bl ∧ (tkX c x).ho = x.ho := by
  unfold tkX ldX goX stX svX
  (repeat' split) <;> exact ⟨rfl, rfl, rfl, rfl, rfl, rfl, rfl, rfl⟩
theorem tk_wy (c : CfgV) (x : CarV) (h : x.wy = 0 ∨ x.wy = 1 ∨ x.wy = 2) : ((tkX c x).wy = 0 ∨ (tkX c x).wy = 1 ∨ (tkX c x).wy = 2) ∧ (lvB x.un = false → x.ds = 0 ∨ (tkX c x).wy = x.wy) ∧ (lvB x.un = false → (tkX c x).wy = x.wy) := by
  have hn := nx_in (p := x.sp) (u := x.su) (d := x.sd) (f := lvN x.un) (j := x.ju) h
  refine ⟨?_, ?_, ?_⟩
  · unfold tkX ldX goX stX svX nW
    (repeat' split) <;> first | exact h | exact hn
  · intro hl
    unfold tkX ldX goX stX svX
    rw [hl]
    simp only [if_true]
    (repeat' split) <;> first | exact .inr rfl
  · intro hl
    unfold tkX ldX goX stX svX
    rw [hl]
    simp only [if_true]
    (repeat' split) <;> rfl
theorem tk_ti (c : CfgV) (x : CarV) (n : Int) (h0 : -n ≤ x.ti) (hn : 0 ≤ n) (h1 : x.ti ≤ 2000) : -(n + 1) ≤ (tkX c x).ti ∧ (tkX c x).ti ≤ 2000 := by
  have hd := dw_in c.dw
  unfold tkX ldX goX stX svX
  (repeat' split) <;> (first | omega | (simp only []; omega) | (dsimp only; omega))
theorem tk_R (c : CfgV) (x : CarV) (hp : R x.sp) (hu : R x.su) (hd : R x.sd) : R (tkX c x).sp ∧ R (tkX c x).su ∧ R (tkX c x).sd := by
  have cU : ∀ f w, R (clU x.su f w) := fun f w => by unfold clU; split; exact an_R hu (bit_R f); exact hu
  have cD : ∀ f w, R (clD x.sd f w) := fun f w => by unfold clD; split; exact an_R hd (bit_R f); exact hd
  unfold tkX ldX goX stX svX
  (repeat' split) <;> first | exact ⟨hp, hu, hd⟩ | exact ⟨an_R hp (bit_R _), cU _ _, cD _ _⟩
/-- A car that may be still may be, a tick later. -/
theorem tk_may (c : CfgV) (x : CarV) (h : mayB c x = true) : mayB c (tkV c x) = true := by
  rw [mayB_iff] at h
  obtain ⟨hg, hm, hl, ht⟩ := h
  obtain ⟨e1, e2, e3, e4, e5, e6, e7, e8⟩ := tk_same c x
  have hg0 := (goodB_iff c x).1 hg
  have hw := tk_wy c x hg0.2.2.2.1
  have hgX : goodB c (tkX c x) = true := by
    rw [goodB_iff, e1, e2, e3]
    exact ⟨hg0.1, hg0.2.1, hg0.2.2.1, hw.1, hg0.2.2.2.2⟩
  have hgs := good_step c (tkX c x) (tkR x) (tkO x) (tkK c x) hgX
  rw [mayB_iff]
  refine ⟨hgs, ?_, ?_, ?_⟩
  · show (tkX c x).mo = 0 ∨ (tkX c x).mo = 1
    rw [e5]; exact hm
  · rcases step_un c (tkX c x) (tkR x) (tkO x) (tkK c x) with ⟨h1, h2⟩ | ⟨_, _, _, h4, h5⟩
    · cases hq : lvB x.un with
      | true => left; show lvB (stepV c _ _ _ _).un = true; rw [h1, e3]; exact hq
      | false =>
        right
        show ¬ (stepV c _ _ _ _).wy = 0
        rw [h2, hw.2.2 hq]
        rcases hl with h | h
        · rw [hq] at h; exact absurd h (by decide)
        · exact h
    · right; show ¬ (stepV c _ _ _ _).wy = 0; rw [h5]; omega
  · show ¬ (tkX c x).mo = 1 ∨ (0 ≤ (tkX c x).ta ∧ (tkX c x).ta < fl c.fl)
    rw [e5, e6]; exact ht
/-- It moves only with its door closed. -/
theorem tk_shut (c : CfgV) (x : CarV) (h : ¬ (tkV c x).un = x.un) : x.ds = 0 ∧ (tkV c x).ds = 0 := by
  obtain ⟨e1, e2, e3, e4, e5, e6, e7, e8⟩ := tk_same c x
  rcases step_un c (tkX c x) (tkR x) (tkO x) (tkK c x) with ⟨h1, h2⟩ | ⟨_, h2, h3, _, _⟩
  · exact absurd (h1.trans e3) h
  · exact ⟨e1 ▸ h2, h3⟩
theorem may_ta {c : CfgV} {x : CarV} (h : mayB c x = true) (hm : x.mo = 1) : -1099511627776 ≤ x.ta ∧ x.ta ≤ 1099511627776 := by
  have h1 := ((mayB_iff c x).1 h).2.2.2
  have := fl_hi c.fl
  omega
theorem may_bd {c : CfgV} {x : CarV} (h : mayB c x = true) : bdX x ∧ 0 ≤ x.un ∧ x.un ≤ 252 := by
  have hb := good_bd c x ((mayB_iff c x).1 h).1
  exact ⟨⟨⟨hb.1, hb.2.1⟩, by omega, by omega⟩, hb.2.2.1, hb.2.2.2⟩
end Go.Proofs.Ytpacieocmogjeaa.Ct
namespace Go.Proofs.Ytpacieocmogjeaa.Gr
set_option linter.unusedVariables false
set_option linter.unusedSimpArgs false
open Go.RowKit Go.Proofs.Ytpacieocmogjeaa.Ba Go.Proofs.Ytpacieocmogjeaa.Mem
set_option maxRecDepth 100000
set_option maxHeartbeats 4000000 in
theorem mul64C (m : Int) (hm : m = 1 ∨ m = 2 ∨ m = 3 ∨ m = 4 ∨ m = 5 ∨ m = 6 ∨ m = 7 ∨ m = 8) (w : World) : Calls Try.prog 80 #[.int .u64 1, .int .u64 m] w fun e w' => e = .returned (.tuple #[.int .u64 0, .int .u64 m]) ∧ w = w' := by
  rcases hm with rfl | rfl | rfl | rfl | rfl | rfl | rfl | rfl
  all_goals
    go_enter Try.func80, Try.ntmps80
    go_wp2
    go_ret2
    exact ⟨rfl, rfl⟩
theorem mulC (m : Int) (hm : m = 1 ∨ m = 2 ∨ m = 3 ∨ m = 4 ∨ m = 5 ∨ m = 6 ∨ m = 7 ∨ m = 8) (w : World) : Calls Try.prog 55 #[.int .u64 1, .int .u64 m] w fun e w' => e = .returned (.tuple #[.int .u64 0, .int .u64 m]) ∧ w = w' := by
  have hm2 := hm
  have HM := Lib.hid hm
  clear hm
  go_enter Try.func55, Try.ntmps55
  go_wp2_with (go_at_call 80; refine (mul64C _ HM.out _).mono ?_; rintro e w' ⟨rfl, rfl⟩)
  all_goals
    go_ret2
    exact ⟨rfl, rfl⟩
end Go.Proofs.Ytpacieocmogjeaa.Gr
namespace Go.Proofs.Ytpacieocmogjeaa.Ba
set_option linter.unusedVariables false
set_option linter.unusedSimpArgs false
open Go.RowKit Go.Proofs.Ytpacieocmogjeaa.Mem
def copyR (cur : Array Value) (o : Nat) (cs : List Value) : Array Value := (cur.toList.take o ++ cs ++ cur.toList.drop (o + cs.length)).toArray
theorem copyR_size {cur : Array Value} {o n : Nat} {cs : List Value} (h : o + cs.length ≤ cur.size) (hn : cur.size = n) : (copyR cur o cs).size = n := by
  subst hn
  simp only [copyR, List.size_toArray, List.length_append, List.length_take, List.length_drop, Array.length_toList]
  omega
theorem copyR_take {cur : Array Value} {o : Nat} {cs : List Value} (h : o + cs.length ≤ cur.size) : (copyR cur o cs).toList.take (o + cs.length) = cur.toList.take o ++ cs := by
  have e : (cur.toList.take o ++ cs).length = o + cs.length := by simp; omega
  simp only [copyR, List.toList_toArray]
  rw [← e]
  exact List.take_left
section
variable {P : Program} {o : Oper} {a : Act} {w : World} {K : Act → World → Prop} {Q : Exit → Act → World → Prop}
/-- Structs are copied into a row. -/
theorem wp_copy_k (d s : Operand) (dT sT elem : TypeId) (ho : o.op = .call { callee := .builtin .copy, args := #[d, s], argTypes := #[dT, sT] }) (hu : P.underlying dT = some (.slice elem)) {k : Nat} (hs : (P.info? elem).map (·.size) = some k)
    {g off dLen dCap sLen sCap m : Nat} {A : Addr} {cur : Array Value} {t : TypeId} (cs : List Value) (hd : a.eval d = .slice (some ⟨g, off, none⟩) dLen dCap) (hsv : a.eval s = .slice (some A) sLen sCap)
    (hg : Blk w g t cur) (hm : Nat.min sLen dLen = m) (hn : cs.length = m * k) (hsrc : ∀ j v, cs[j]? = some v → w.cell? (A.add j) = some v) (hfit : off + cs.length ≤ cur.size) (h1 : ∀ v ∈ cs, v.oneCell' = true)
    (h : ∀ w', w' = w.setRow g (copyR cur off cs) → K (a.put o.dst (.int .i64 (m : Int))) w') : o.wp P a w K Q := by
  have hl := run_loadCells_list (P := P) w A cs hsrc
  have hst := run_storeCells_at P g off t cs 0 cur w hg (by simpa using hfit) h1
  have hrun : (Builtin.copy_ #[dT, sT] o.type #[.slice (some ⟨g, off, none⟩) dLen dCap, .slice (some A) sLen sCap]).run P w = .ok (.int .i64 (m : Int)) (w.setRow g (copyR cur off cs)) := by
    cases hq : P.info? elem with
    | none => simp [hq] at hs
    | some i =>
      have hi : i.size = k := by simpa [hq] using hs
      simp [Builtin.copy_, run_underlying hu, Builtin.lenOf, Builtin.firstCells, sizeOf, typeInfo, hq, hi, hm, ← hn, hl, hst, copyR, goInt]
  unfold Oper.wp execOp
  simp only [ho, resolve, invoke, builtin, Sem.run_bind, Sem.run_pure, Result.andThen_ok, List.map_toArray, List.map_cons, List.map_nil, hd, hsv, hrun]
  exact h _ rfl
/-- A slice of zeros is made. -/
theorem wp_make (t e : TypeId) (x y : Operand) (ho : o.op = .makeSlice t x y) {z : Value} {k bytes : Nat} (ht : P.underlying t = some (.slice e)) (hinf : (P.info? e).map (fun i => (i.zero, i.size, i.bytes)) = some (some z, k, bytes)) (n : Nat) {kx ky : IntKind}
    (hx : a.eval x = .int kx (n : Int)) (hy : a.eval y = .int ky (n : Int)) (hn : n ≤ 1000000) (hb : bytes ≤ 1000) (hz : z.cells.size = k)
    (h : ∀ b cur w', w.heap.size ≤ b → Blk w' b e cur → cur.size = n * k → Since w w' → K (a.put o.dst (.slice (some ⟨b, 0, none⟩) n n)) w') : o.wp P a w K Q := by
  obtain ⟨i, hi, hz0, h2, h3⟩ := info3 hinf
  have hbn : bytes * n ≤ 1000 * 1000000 := Nat.mul_le_mul hb hn
  have hbi : (bytes : Int) * (n : Int) ≤ 1000000000 := by rw [← Int.natCast_mul]; omega
  have hr := run_make (P := P) w t e i z ht hi hz0 kx ky (n : Int) (n : Int) (by omega) (Int.le_refl _) (by rw [h3]; omega) (by omega)
  unfold Oper.wp execOp
  simp only [ho, hx, hy, Sem.run_bind, hr, Sem.run_pure, Result.andThen_ok, Int.toNat_natCast]
  exact h w.heap.size (madeCells z.cells (n * i.size)) _ (Nat.le_refl _) (Blk.new w e _) (by rw [size_madeCells, h2]) ((Since.refl w).alloc _)
end
theorem src_blk {w : World} {b : Nat} {t : TypeId} {l : List Value} (h : Blk w b t l.toArray) : ∀ j v, l[j]? = some v → w.cell? ((⟨b, 0, none⟩ : Addr).add j) = some v := fun j v hj => by
  rw [Go.WideShapes.add_plain, Nat.zero_add, h.cell]
  simpa using hj
theorem src_row {w : World} {b n : Nat} {t : TypeId} {cur : Array Value} {l : List Value} (h : Blk w b t cur) (hl : cur.toList.take n = l) : ∀ j v, l[j]? = some v → w.cell? ((⟨b, 0, none⟩ : Addr).add j) = some v := fun j v hj => by
  rw [Go.WideShapes.add_plain, Nat.zero_add, h.cell]
  subst hl
  rw [List.getElem?_take] at hj
  split at hj
  · simpa using hj
  · cases hj
theorem reps {α : Type} {enc : α → List Value} {k : Nat} (hk : ∀ a, (enc a).length = k) (x : α) (n m : Nat) (h : m ≤ n) : (rowsOf enc (List.replicate n x)).take (m * k) = rowsOf enc (List.replicate m x) := by
  rw [rowsOf_take hk (by simpa using h), List.take_replicate, Nat.min_eq_left h]
theorem reps_add {α : Type} {enc : α → List Value} (x : α) (n m : Nat) : rowsOf enc (List.replicate n x) ++ rowsOf enc (List.replicate m x) = rowsOf enc (List.replicate (n + m) x) := by
  rw [← rowsOf_append, List.replicate_append_replicate]
end Go.Proofs.Ytpacieocmogjeaa.Ba
namespace Go.Proofs.Ytpacieocmogjeaa.Gr
set_option linter.unusedVariables false
set_option linter.unusedSimpArgs false
open Go.RowKit Go.Proofs.Ytpacieocmogjeaa.Ba Go.Proofs.Ytpacieocmogjeaa.Mem Go.Proofs.Ytpacieocmogjeaa.Ty Go.Proofs.Ytpacieocmogjeaa.Mo Go.Proofs.Ytpacieocmogjeaa.St Go.Proofs.Ytpacieocmogjeaa.Sc Go.Proofs.Ytpacieocmogjeaa.Pl
open Go.Proofs.Ytpacieocmogjeaa.Ct (cfgA carA m1 dwV bdX tkV tkF tkW tkS tickT)
set_option maxRecDepth 100000
attribute [local irreducible] Go.wpList
set_option maxHeartbeats 4000000 in
theorem repeatT (b m : Nat) (x : CarV) (w : World) (hb : Blk w b 30 (carA x)) (hm : (m : Int) = 1 ∨ (m : Int) = 2 ∨ (m : Int) = 3 ∨ (m : Int) = 4 ∨ (m : Int) = 5 ∨ (m : Int) = 6 ∨ (m : Int) = 7 ∨ (m : Int) = 8) : Calls Try.prog 34 #[.slice (some ⟨b, 0, none⟩) 1 1, .int .i64 (m : Int)] w fun e w' => ∃ g, e = .returned (.slice (some ⟨g, 0, none⟩) m m) ∧ w.heap.size ≤ g ∧ CarsAt w.heap.size (some ⟨g, 0, none⟩) m m (List.replicate m x) w' ∧ Since w w' := by
 have HB := Lib.hid hb
 clear hb
 have HM := Lib.hid hm
 clear hm
 have HMR := Lib.hid (show 1 ≤ m ∧ m ≤ 8 by have := HM.out; omega)
 go_enter Try.func34, Try.ntmps34
 go_upto_region 1 with fail
 have HS1 := Lib.hid (Since.refl w)
 refine wp_region_lit ?_
 refine tkL (.int .i64 (m : Int)) (h := ?_)
 (try simp only [Act.put, sA, sB, sC])
 refine wpList_q (by rfl) (.bool false) ?he ?_
 case he => (go_simp; (first | done | rfl | omega))
 (try simp only [Act.put, sA, sB, sC])
 refine wpList_nil ?_
 go_upto_region 3 with fail
 refine wp_region_lit ?_
 refine tkL (.slice (some ⟨b, 0, none⟩) 1 1) (h := ?_)
 (try simp only [Act.put, sA, sB, sC])
 refine tkL (.int .i64 1) (h := ?_)
 (try simp only [Act.put, sA, sB, sC])
 refine wpList_q (by rfl) (.int .u64 1) ?he ?_
 case he => (have q := HMR.out; go_simp; (first | done | rfl | (simp only [IntKind.wrap, IntKind.bits, IntKind.signed]; simp; omega)))
 (try simp only [Act.put, sA, sB, sC])
 refine tkL (.int .i64 (m : Int)) (h := ?_)
 (try simp only [Act.put, sA, sB, sC])
 refine wpList_q (by rfl) (.int .u64 (m : Int)) ?he ?_
 case he => (have q := HMR.out; go_simp; (first | done | rfl | (simp only [IntKind.wrap, IntKind.bits, IntKind.signed]; simp; omega)))
 (try simp only [Act.put, sA, sB, sC])
 refine wpList_wp (by rfl) (fun K hK => ?_)
 (try go_simp)
 refine (mulC (m : Int) HM.out _).mono ?_
 rintro e w' ⟨rfl, rfl⟩
 (try go_wp2_with fail)
 refine hK.out _ _ ?_
 clear hK K
 (try simp only [Act.put, sA, sB, sC])
 refine tkL (.tuple #[.int .u64 0, .int .u64 (m : Int)]) (h := ?_)
 (try simp only [Act.put, sA, sB, sC])
 refine tkL (.int .u64 0) (h := ?_)
 (try simp only [Act.put, sA, sB, sC])
 refine tkL (.int .u64 (m : Int)) (h := ?_)
 (try simp only [Act.put, sA, sB, sC])
 refine tkL (.int .u64 0) (h := ?_)
 (try simp only [Act.put, sA, sB, sC])
 refine tkL (.int .u64 (m : Int)) (h := ?_)
 (try simp only [Act.put, sA, sB, sC])
 refine wpList_nil ?_
 go_upto_region 4 with fail
 refine wp_region_lit ?_
 refine tkL (.int .u64 0) (h := ?_)
 (try simp only [Act.put, sA, sB, sC])
 refine tkL (.bool false) (h := ?_)
 (try simp only [Act.put, sA, sB, sC])
 refine tkL (.bool false) (h := ?_)
 (try simp only [Act.put, sA, sB, sC])
 refine tkL (.int .u64 (m : Int)) (h := ?_)
 (try simp only [Act.put, sA, sB, sC])
 refine wpList_q (by rfl) (.bool false) ?he ?_
 case he => (have q0 := HMR.out; go_simp; (first | done | rfl | omega))
 (try simp only [Act.put, sA, sB, sC])
 refine tkL (.bool false) (h := ?_)
 (try simp only [Act.put, sA, sB, sC])
 refine wpList_nil ?_
 go_upto_region 6 with fail
 refine wp_region_lit ?_
 refine tkL (.int .u64 (m : Int)) (h := ?_)
 (try simp only [Act.put, sA, sB, sC])
 refine wpList_q (by rfl) (.int .i64 (m : Int)) ?he ?_
 case he => (have q := HMR.out; go_simp; (first | done | rfl | (simp only [IntKind.wrap, IntKind.bits, IntKind.signed]; simp; omega)))
 (try simp only [Act.put, sA, sB, sC])
 refine wpList_wp (by rfl) (fun K hK => ?_)
 refine wp_make 37 30 (.tmp 29) (.tmp 29) rfl (z := Value.agg #[.int .i64 0, .int .i64 0, .int .i64 0, .int .i64 0, .int .i64 0, .int .i64 0, .int .i64 0, .bool false, .bool false, .int .i64 0, .int .i64 0, .bool false, .int .u64 0, .int .u64 0, .int .u64 0]) (k := 15) (bytes := 112) Try.underlying37 (by kernel_rfl) m rfl rfl (by have := HMR.out; omega) (by decide) rfl ?_
 intro bD cur w2 hge hB hsz hb
 refine hK.out _ _ ?_
 clear hK K
 (try simp only [Act.put, sA, sB, sC])
 have HSZ := Lib.hid hsz; clear hsz
 have HNDX := Lib.hid (show bD ≠ b by have := Blk.lt HB.out; omega)
 have HGD := Lib.hid (show w.heap.size ≤ bD by have := Since.size HS1.out; omega)
 have HS2 := Lib.hid (Since.trans HS1.out hb)
 have HBX2 := Lib.hid (keep_blk hb HB.out)
 clear HS1 HB
 clear hb hge
 have HBD2 := Lib.hid hB
 clear hB
 refine tkL (.slice (some ⟨bD, 0, none⟩) m m) (h := ?_)
 (try simp only [Act.put, sA, sB, sC])
 refine wpList_nil ?_
 go_upto_region 7 with fail
 refine wp_region_lit ?_
 refine tkL (.slice (some ⟨bD, 0, none⟩) m m) (h := ?_)
 (try simp only [Act.put, sA, sB, sC])
 refine tkL (.slice (some ⟨b, 0, none⟩) 1 1) (h := ?_)
 (try simp only [Act.put, sA, sB, sC])
 refine wpList_wp (by rfl) (fun K hK => ?_)
 refine wp_copy_k (.tmp 31) (.tmp 32) 37 37 30 rfl Try.underlying37 (k := 15) (by kernel_rfl) (m := 1) (carL x) rfl rfl HBD2.out (by have := HMR.out; show Nat.min 1 m = 1; exact Nat.min_eq_left this.1) rfl (src_blk (l := carL x) HBX2.out) (by have := HSZ.out; have := HMR.out; simp only [carL_len]; omega) (carL_one x) ?_
 intro w3 hw
 refine hK.out _ _ ?_
 clear hK K
 (try simp only [Act.put, sA, sB, sC])
 have HS3 := Lib.hid (show Since w w3 by rw [hw]; exact Since.setRow HS2.out HGD.out _)
 have HBX3 := Lib.hid (show Blk w3 b 30 (carA x) by rw [hw]; exact Blk.row_far HBX2.out (Ne.symm HNDX.out) _)
 have HBD3 := Lib.hid (show Blk w3 bD 30 (copyR cur 0 (carL x)) by rw [hw]; exact Blk.row HBD2.out _)
 clear hw HS2 HBX2 HBD2
 refine tkL (.int .i64 ((1 : Nat) : Int)) (h := ?_)
 (try simp only [Act.put, sA, sB, sC])
 refine wpList_nil ?_
 have HSZ1 := Lib.hid (copyR_size (cur := cur) (o := 0) (cs := carL x) (by have := HSZ.out; have := HMR.out; simp only [carL_len]; omega) HSZ.out)
 have HTK1 := Lib.hid (show (copyR cur 0 (carL x)).toList.take (1 * 15) = rowsOf carL (List.replicate 1 x) by have q := copyR_take (cur := cur) (o := 0) (cs := carL x) (by have := HSZ.out; have := HMR.out; simp only [carL_len]; omega); simpa [carL_len, rowsOf] using q)
 go_wp2_with fail
 refine wp_uloop (ds := []) (fun n fr wr => ∃ (n2 : Nat) (c2 : Array Value), (1 ≤ n2 ∧ n2 ≤ m) ∧ c2.size = m * 15 ∧ c2.toList.take (n2 * 15) = rowsOf carL (List.replicate n2 x) ∧ (m - n2) = n ∧ Fits fr 48 [(0, .slice (some ⟨b, 0, none⟩) 1 1), (1, .int .i64 (m : Int)), (4, .slice none 0 0), (5, .int .u64 0), (6, .int .u64 (m : Int)), (7, .slice (some ⟨bD, 0, none⟩) m m), (8, .int .i64 (n2 : Int))] ∧ Hid (Since w wr ∧ Blk wr bD 30 c2)) (m - 1) ?start3 ?round3
 case start3 => exact ⟨1, (copyR cur 0 (carL x)), (by have := HMR.out; omega), HSZ1.out, HTK1.out, rfl, ⟨rfl, rfl, rfl, rfl, rfl, rfl, rfl, rfl, trivial⟩, Lib.hid ⟨HS3.out, HBD3.out⟩⟩
 case round3 =>
  intro n fr wr hR J1 K1 hJ1 hK1
  clear HS3 HBX3 HBD3
  obtain ⟨n2, c2, hn2, hsz2, htk2, hn, hF, HO⟩ := hR
  have HM := Lib.hid hn; clear hn
  obtain ⟨g0, g1⟩ := HO.out
  clear HO
  have HS53 := Lib.hid g0
  have HBD53 := Lib.hid g1
  clear g0 g1
  obtain ⟨u, hu⟩ := hF.open_
  have hu2 := hu.trans (show _ = #[.slice (some ⟨b, 0, none⟩) 1 1, .int .i64 (m : Int), u 2, u 3, .slice none 0 0, .int .u64 0, .int .u64 (m : Int), .slice (some ⟨bD, 0, none⟩) m m, .int .i64 (n2 : Int), u 9, u 10, u 11, u 12, u 13, u 14, u 15, u 16, u 17, u 18, u 19, u 20, u 21, u 22, u 23, u 24, u 25, u 26, u 27, u 28, u 29, u 30, u 31, u 32, u 33, u 34, u 35, u 36, u 37, u 38, u 39, u 40, u 41, u 42, u 43, u 44, u 45, u 46, u 47] by kernel_rfl)
  clear hu hF
  subst hu2
  have HN2 := Lib.hid hn2; have HSZ2 := Lib.hid hsz2; have HTK2 := Lib.hid htk2; clear hn2 hsz2 htk2
  by_cases hcs : n2 < m
  rotate_left
  · have HLT := Lib.hid hcs; clear hcs
    go_upto_region 8 with fail
    refine wp_region_lit ?_
    refine tkL (.int .i64 (n2 : Int)) (h := ?_)
    (try simp only [Act.put, sA, sB, sC])
    refine tkL (.slice (some ⟨bD, 0, none⟩) m m) (h := ?_)
    (try simp only [Act.put, sA, sB, sC])
    refine tkL (.int .i64 (m : Int)) (h := ?_)
    (try simp only [Act.put, sA, sB, sC])
    refine wpList_q (by rfl) (.bool false) ?he ?_
    case he => (have q0 := HLT.out; go_simp; (first | done | rfl | omega))
    (try simp only [Act.put, sA, sB, sC])
    refine wpList_nil ?_
    go_upto_region 10 with fail
    refine wp_region_lit ?_
    refine tkL (.slice (some ⟨bD, 0, none⟩) m m) (h := ?_)
    (try simp only [Act.put, sA, sB, sC])
    refine tkL (.slice (some ⟨bD, 0, none⟩) m m) (h := ?_)
    (try simp only [Act.put, sA, sB, sC])
    refine wpList_nil ?_
    (try go_wp2_with fail)
    go_ret
    have e : n2 = m := by have := HLT.out; have := HN2.out; omega
    subst e
    exact ⟨bD, rfl, HGD.out, ⟨by rw [rowsOf_len carL_len, List.length_replicate], .inr ⟨bD, _, _, rfl, HGD.out, HBD53.out, Nat.le_refl _, by have := HMR.out; unfold maxLen; omega, HSZ2.out, HTK2.out⟩⟩, HS53.out⟩
  · have HLT := Lib.hid hcs; clear hcs
    go_upto_region 8 with fail
    refine wp_region_lit ?_
    refine tkL (.int .i64 (n2 : Int)) (h := ?_)
    (try simp only [Act.put, sA, sB, sC])
    refine tkL (.slice (some ⟨bD, 0, none⟩) m m) (h := ?_)
    (try simp only [Act.put, sA, sB, sC])
    refine tkL (.int .i64 (m : Int)) (h := ?_)
    (try simp only [Act.put, sA, sB, sC])
    refine wpList_q (by rfl) (.bool true) ?he ?_
    case he => (have q0 := HLT.out; go_simp; (first | done | rfl | omega))
    (try simp only [Act.put, sA, sB, sC])
    refine wpList_nil ?_
    have HMM := Lib.hid (show (Nat.min n2 (m - n2)) ≤ n2 ∧ (Nat.min n2 (m - n2)) ≤ m - n2 ∧ 1 ≤ (Nat.min n2 (m - n2)) from ⟨Nat.min_le_left _ _, Nat.min_le_right _ _, Nat.le_min.2 ⟨HN2.out.1, by have := HLT.out; omega⟩⟩)
    have HLC := Lib.hid (show (rowsOf carL (List.replicate (Nat.min n2 (m - n2)) x)).length = (Nat.min n2 (m - n2)) * 15 by rw [rowsOf_len carL_len, List.length_replicate])
    have HFT := Lib.hid (show n2 * 15 + (rowsOf carL (List.replicate (Nat.min n2 (m - n2)) x)).length ≤ c2.size by rw [HLC.out, HSZ2.out]; have := HMM.out; have := HN2.out; omega)
    have HSZ3 := Lib.hid (copyR_size HFT.out HSZ2.out)
    go_upto_region 9 with fail
    have HKS : Hid (KeepS (fun W : World => Since w W ∧ HasRow W bD 30 (m * 15)) wr) := Lib.hid ⟨fun W W' k ⟨h, h0⟩ => ⟨h.trans k, HasRow.keep k h0⟩, ⟨HS53.out, HasRow.of HBD53.out HSZ2.out⟩⟩
    have HRK := Lib.hid HKS.out.1
    have HPD := Lib.hid (show Blk (World.drew wr) bD 30 c2 from HBD53.out)
    refine wp_held HKS.out (by kernel_rfl) (fun hHeld => ?_)
    refine tkQ 0 (.int .i64 (n2 : Int)) hHeld (h := ?_)
    (try simp only [Act.put, sA, sB, sC])
    refine tkQ 1 (.slice (some ⟨bD, 0, none⟩) m m) hHeld (h := ?_)
    (try simp only [Act.put, sA, sB, sC])
    refine tkQ 2 (.int .i64 (n2 : Int)) hHeld (h := ?_)
    (try simp only [Act.put, sA, sB, sC])
    refine tkQ 3 (.slice (some ⟨bD, n2 * 15, none⟩) (m - n2) (m - n2)) hHeld (he := by intro w hSw; exact exec_slice (s := 15) 37 30 _ _ _ _ rfl rfl Try.underlying37 (by kernel_rfl) (sb_l _ _ (l := n2) rfl (by have := HN2.out; omega)) (by have q := HLT.out; rw [if_neg (by omega)]; simp only [Option.map_some, Go.WideShapes.add_plain, Nat.zero_add]) rfl rfl) (h := ?_)
    (try simp only [Act.put, sA, sB, sC])
    refine tkQ 4 (.slice (some ⟨bD, 0, none⟩) m m) hHeld (h := ?_)
    (try simp only [Act.put, sA, sB, sC])
    refine tkQ 5 (.int .i64 (n2 : Int)) hHeld (h := ?_)
    (try simp only [Act.put, sA, sB, sC])
    refine tkQ 6 (.slice (some ⟨bD, 0, none⟩) n2 m) hHeld (he := by intro w hSw; exact exec_slice (s := 15) 37 30 _ _ _ _ rfl rfl Try.underlying37 (by kernel_rfl) (sb_h _ _ (h := n2) rfl (by have := HN2.out; omega)) (by split <;> simp [Addr.add]) rfl rfl) (h := ?_)
    (try simp only [Act.put, sA, sB, sC])
    refine wpAnyH_ready (rs := [7]) (by kernel_rfl) (by simp) ?_
    refine AllReadyH.cons (o := ?o9__7) ?h9__7 (fun K hK => ?_) AllReadyH.nil
    case h9__7 => (first | (simp only [gA, gB, gC]; done) | (simp only [gA, gB, gC]; exact rfl))
    rw [if_pos (by rfl)]
    refine wp_copy_k (.tmp 41) (.tmp 44) 37 37 30 rfl Try.underlying37 (k := 15) (by kernel_rfl) (m := (Nat.min n2 (m - n2))) (rowsOf carL (List.replicate (Nat.min n2 (m - n2)) x)) rfl rfl HPD.out rfl HLC.out (src_row HPD.out (by have q := reps carL_len x n2 (Nat.min n2 (m - n2)) HMM.out.1; rw [← HTK2.out, List.take_take, Nat.min_eq_left (Nat.mul_le_mul_right 15 HMM.out.1)] at q; exact q)) HFT.out (cars_one _) ?_
    clear HPD
    intro w54 hw
    have HRD := Lib.hid (show Blk w54 bD 30 (copyR c2 (n2 * 15) (rowsOf carL (List.replicate (Nat.min n2 (m - n2)) x))) by obtain ⟨old, Bo, _⟩ := hHeld.2; rw [hw]; exact Blk.row Bo _)
    have hHeld3 := HKS.out.at_ w54 ⟨by rw [hw]; exact Since.setRow hHeld.1 HGD.out _, HasRow.of HRD.out HSZ3.out⟩
    refine hK.out _ _ hHeld3 (fun hHeld2 => ?_)
    clear hK K hHeld hHeld3 hw
    have hHeld := hHeld2
    clear hHeld2
    (try simp only [Act.put, sA, sB, sC])
    refine tkQ 8 (.int .i64 ((n2 : Int) + ((Nat.min n2 (m - n2)) : Int))) hHeld (he := by intro w hSw; (go_simp; (first | done | (refine wrG _ ?_ ?_ <;> (have q0 := HMM.out; have q1 := HN2.out; have q2 := HMR.out; omega)) | (have q0 := HMM.out; have q1 := HN2.out; have q2 := HMR.out; omega) | (have q0 := HMM.out; have q1 := HN2.out; have q2 := HMR.out; split <;> omega) | (have q0 := HMM.out; have q1 := HN2.out; have q2 := HMR.out; intro hh; omega)))) (h := ?_)
    (try simp only [Act.put, sA, sB, sC])
    refine tkQ 9 (.int .i64 ((n2 : Int) + ((Nat.min n2 (m - n2)) : Int))) hHeld (h := ?_)
    (try simp only [Act.put, sA, sB, sC])
    refine wpAnyH_done (by kernel_rfl) ?_ _
    have HSd9 := Lib.hid hHeld.1
    have HBDd9 := Lib.hid HRD.out
    clear HRD
    clear hHeld HRK HKS HS53 HBD53
    go_wp2_with fail
    refine Met.intro ?_
    refine hJ1 _ _ _ ?less54 ⟨(n2 + (Nat.min n2 (m - n2))), (copyR c2 (n2 * 15) (rowsOf carL (List.replicate (Nat.min n2 (m - n2)) x))), (by have := HMM.out; have := HN2.out; omega), HSZ3.out, (by have q := copyR_take HFT.out; rw [HLC.out, ← Nat.add_mul, HTK2.out, reps_add] at q; exact q), rfl, ⟨rfl, rfl, rfl, rfl, rfl, rfl, rfl, (by show some (Value.int .i64 ((n2 : Int) + _)) = _; (try push_cast); rfl), trivial⟩, Lib.hid ⟨HSd9.out, HBDd9.out⟩⟩
    case less54 => exact (by have := HM.out; have := HMM.out; have := HLT.out; omega)
def ncars (c : CfgV) : Nat := if c.ca < 1 then 1 else if 8 < c.ca then 8 else c.ca.toNat
def cm1 (n : Int) : Int := if n < 1 then 1 else n
def cm8 (n : Int) : Int := if 8 < n then 8 else n
theorem ncars_cm (c : CfgV) : (ncars c : Int) = cm8 (cm1 c.ca) := by unfold ncars cm8 cm1; (repeat' split) <;> omega
theorem ncars_bd (c : CfgV) : 1 ≤ ncars c ∧ ncars c ≤ 8 := by unfold ncars; (repeat' split) <;> omega
def zeroX : CarV := ⟨0, 0, 0, 0, 0, -1, 0, false, false, 0, 0, false, 0, 0, 0⟩
def newG (c : CfgV) : GrV := ⟨c, List.replicate (ncars c) zeroX, [], 0⟩
set_option maxHeartbeats 4000000 in
theorem newT (c : CfgV) (w : World) : Calls Try.prog 15 #[.agg (cfgA c)] w fun e w' => ∃ q S', e = .returned (.pointer (some ⟨q, 0, none⟩)) ∧ GO w.heap.size q (newG c) S' w' ∧ Since w w' := by
 go_enter Try.func15, Try.ntmps15
 go_upto_region 1 with fail
 obtain ⟨w1, hw1⟩ : ∃ w1, w1 = (w.alloc (.cells (cfgA c) 23)) := ⟨_, rfl⟩
 rw [← hw1]
 have HBC1 := Lib.hid (show Blk w1 (w.heap.size) 23 (cfgA c) by rw [hw1]; exact Blk.at_ (by (try simp only [size_alloc])) _ _)
 have HS1 := Lib.hid (show Since w w1 by rw [hw1]; exact Since.alloc (Since.refl w) _)
 have hNE : w.heap.size ≤ w.heap.size := by omega
 have HNE := Lib.hid hNE
 clear hNE hw1
 have HNE3 := Lib.hid (show w.heap.size ≤ w.heap.size from HNE.out)
 clear HNE
 refine wp_region_lit ?_
 refine tkL (.pointer (some ⟨w.heap.size, 0, none⟩)) (h := ?_)
 (try simp only [Act.put, sA, sB, sC])
 refine wpList_q (by rfl) (.int .i64 c.ca) ?he ?_
 case he => exact exec_cell 3 _ _ HBC1.out rfl rfl rfl Try.underlying3 rfl
 (try simp only [Act.put, sA, sB, sC])
 refine wpList_q (by rfl) (.int .i64 (cm1 c.ca)) ?he ?_
 case he => (unfold cm1; go_simp; (first | done | rfl))
 (try simp only [Act.put, sA, sB, sC])
 refine wpList_q (by rfl) (.int .i64 (ncars c : Int)) ?he ?_
 case he => (rw [ncars_cm]; unfold cm8; go_simp; (first | done | rfl))
 (try simp only [Act.put, sA, sB, sC])
 refine tkL (.int .i64 (ncars c : Int)) (h := ?_)
 (try simp only [Act.put, sA, sB, sC])
 refine wpList_nil ?_
 have HNC := Lib.hid (ncars_bd c)
 go_upto_region 2 with fail
 have HKS : Hid (KeepS (fun W : World => Since w W ∧ Blk W w.heap.size 23 (cfgA c)) w1) := Lib.hid ⟨fun W W' k ⟨h, h0⟩ => ⟨h.trans k, keep_blk k h0⟩, ⟨HS1.out, HBC1.out⟩⟩
 have HRK := Lib.hid HKS.out.1
 refine wp_held HKS.out (by kernel_rfl) (fun hHeld => ?_)
 refine tkQ 0 (.agg (cfgA c)) hHeld (he := by intro w hSw; exact exec_load_row 23 _ _ hSw.2 rfl rfl Try.underlying23 rfl (by kernel_rfl)) (h := ?_)
 (try simp only [Act.put, sA, sB, sC])
 refine tkQ 3 (.int .i64 (ncars c : Int)) hHeld (h := ?_)
 (try simp only [Act.put, sA, sB, sC])
 refine wpAnyH_ready (rs := [1]) (by kernel_rfl) (by simp) ?_
 refine AllReadyH.cons (o := ?o2__1) ?h2__1 (fun K hK => ?_) AllReadyH.nil
 case h2__1 => (first | (simp only [gA, gB, gC]; done) | (simp only [gA, gB, gC]; exact rfl))
 (try go_simp)
 refine (Go.Proofs.Ytpacieocmogjeaa.Pl.newT _).mono ?_
 rintro e w2 ⟨rfl, hb⟩
 (try go_wp2_with fail)
 refine hK.out _ _ (by (apply HRK.out; exact hb; exact hHeld)) (fun hHeld2 => ?_)
 clear hK K hHeld hb
 have hHeld := hHeld2
 clear hHeld2
 (try simp only [Act.put, sA, sB, sC])
 refine wpAnyH_ready (rs := [2]) (by kernel_rfl) (by simp) ?_
 refine AllReadyH.cons (o := ?o2__2) ?h2__2 (fun K hK => ?_) AllReadyH.nil
 case h2__2 => (first | (simp only [gA, gB, gC]; done) | (simp only [gA, gB, gC]; exact rfl))
 rw [if_pos (by rfl)]
 refine wp_new (fun b => .slice (some ⟨b, 0, none⟩) 1 1) 30 #[.int .i64 0, .int .i64 0, .int .i64 0, .int .i64 0, .int .i64 0, .int .i64 (-1), .int .i64 0, .bool false, .bool false, .int .i64 0, .int .i64 0, .bool false, .int .u64 0, .int .u64 0, .int .u64 0] (by rintro b rfl; first | rfl | kernel_rfl) ?_
 intro bn10 w3 hge hB hb
 refine hK.out _ _ (by (apply HRK.out; exact hb; exact hHeld)) (fun hHeld2 => ?_)
 have HNn10C := Lib.hid (show bn10 ≠ w.heap.size by have := Blk.lt (hHeld.2); (try simp at this); (try simp at hge); omega)
 have HGn10 := Lib.hid (show w.heap.size ≤ bn10 by have := Since.size hHeld.1; (try simp at this); (try simp at hge); omega)
 have HXn10 := Lib.hid hB
 clear hB
 clear hge
 clear hK K hHeld hb
 have hHeld := hHeld2
 clear hHeld2
 (try simp only [Act.put, sA, sB, sC])
 refine wpAnyH_ready (rs := [4]) (by kernel_rfl) (by simp) ?_
 refine AllReadyH.cons (o := ?o2__4) ?h2__4 (fun K hK => ?_) AllReadyH.nil
 case h2__4 => (first | (simp only [gA, gB, gC]; done) | (simp only [gA, gB, gC]; exact rfl))
 (try go_simp)
 refine (repeatT bn10 (ncars c) zeroX _ (show Blk _ _ _ (carA zeroX) from HXn10.out) (by have := HNC.out; omega)).mono ?_
 rintro e w4 ⟨g, rfl, hgg, hcars, hb⟩
 (try go_wp2_with fail)
 have HCARS := Lib.hid (show CarsAt w.heap.size (some ⟨g, 0, none⟩) (ncars c) (ncars c) (List.replicate (ncars c) zeroX) w4 from own_base hcars (Since.size hHeld.1)); clear hcars hgg
 refine hK.out _ _ (by (apply HRK.out; exact hb; exact hHeld)) (fun hHeld2 => ?_)
 have HXn102 := Lib.hid (keep_blk hb HXn10.out)
 clear HXn10
 clear hK K hHeld hb
 have hHeld := hHeld2
 clear hHeld2
 (try simp only [Act.put, sA, sB, sC])
 refine tkQ 5 (.agg #[.int .i64 c.ca, .int .i64 c.fl, .int .i64 c.ft, .int .i64 c.se, .int .i64 c.dr, .int .i64 c.dw, .int .i64 c.ho, .int .i64 c.re, .int .i64 c.yi, .int .i64 c.qu, .int .i64 c.qo, .int .i64 c.lo, .int .i64 c.sl, .int .i64 c.rt, .int .i64 c.cp, .int .i64 c.tr, .int .i64 c.de, .int .i64 c.wi, .slice (some ⟨g, 0, none⟩) (ncars c) (ncars c), .slice none 0 0, .int .i64 0]) hHeld (he := by intro w hSw; kernel_rfl) (h := ?_)
 (try simp only [Act.put, sA, sB, sC])
 refine wpAnyH_ready (rs := [6]) (by kernel_rfl) (by simp) ?_
 refine AllReadyH.cons (o := ?o2__6) ?h2__6 (fun K hK => ?_) AllReadyH.nil
 case h2__6 => (first | (simp only [gA, gB, gC]; done) | (simp only [gA, gB, gC]; exact rfl))
 rw [if_pos (by rfl)]
 refine wp_new (fun b => .pointer (some ⟨b, 0, none⟩)) 67 #[.int .i64 c.ca, .int .i64 c.fl, .int .i64 c.ft, .int .i64 c.se, .int .i64 c.dr, .int .i64 c.dw, .int .i64 c.ho, .int .i64 c.re, .int .i64 c.yi, .int .i64 c.qu, .int .i64 c.qo, .int .i64 c.lo, .int .i64 c.sl, .int .i64 c.rt, .int .i64 c.cp, .int .i64 c.tr, .int .i64 c.de, .int .i64 c.wi, .slice (some ⟨g, 0, none⟩) (ncars c) (ncars c), .slice none 0 0, .int .i64 0] (by rintro b rfl; first | rfl | kernel_rfl) ?_
 intro bn14 w5 hge hB hb
 refine hK.out _ _ (by (apply HRK.out; exact hb; exact hHeld)) (fun hHeld2 => ?_)
 have HNn14n10 := Lib.hid (show bn14 ≠ bn10 by have := Blk.lt HXn102.out; omega)
 have HXn1022 := Lib.hid (keep_blk hb HXn102.out)
 clear HXn102
 have HCARSk := Lib.hid (keep_own hb HCARS.out)
 clear HCARS
 have HNn14C := Lib.hid (show bn14 ≠ w.heap.size by have := Blk.lt (hHeld.2); (try simp at this); (try simp at hge); omega)
 have HGn14 := Lib.hid (show w.heap.size ≤ bn14 by have := Since.size hHeld.1; (try simp at this); (try simp at hge); omega)
 have HXn14 := Lib.hid hB
 clear hB
 clear hge
 clear hK K hHeld hb
 have hHeld := hHeld2
 clear hHeld2
 (try simp only [Act.put, sA, sB, sC])
 refine tkQ 7 (.pointer (some ⟨bn14, 0, none⟩)) hHeld (h := ?_)
 (try simp only [Act.put, sA, sB, sC])
 refine wpAnyH_done (by kernel_rfl) ?_ _
 have HSd2 := Lib.hid hHeld.1
 have HBCd2 := Lib.hid (hHeld.2)
 clear hHeld HRK HKS HS1 HBC1
 have HFcarsd2 := Lib.hid HCARSk.out
 clear HCARSk
 (try go_wp2_with fail)
 go_ret
 have e : (List.replicate (ncars c) zeroX).length = ncars c := List.length_replicate
 exact ⟨bn14, _, rfl, ⟨HGn14.out, some ⟨g, 0, none⟩, ncars c, none, 0, rfl, by have q := HXn14.out; simpa [grpA, newG, e] using q, by have q := HFcarsd2.out; unfold CarsAt at q ⊢; simpa [newG, e] using q, World.ownsRow_nil _ _ _ _⟩, HSd2.out⟩
set_option maxHeartbeats 4000000 in
theorem carsT (lo q : Nat) (G : GrV) (S : List Nat) (w : World) (hg : GO lo q G S w) (hl : G.cars.length ≤ 1000000) : Calls Try.prog 17 #[.pointer (some ⟨q, 0, none⟩)] w fun e w' => ∃ A' c', e = .returned (.slice A' G.cars.length c') ∧ CarsAt w.heap.size A' G.cars.length c' G.cars w' ∧ Since w w' := by
 obtain ⟨h0, A1, c1, A2, c2, rfl, B, O1, O2⟩ := hg
 have HQ := Lib.hid B; have HO1 := Lib.hid O1; have HO2 := Lib.hid O2; have HL := Lib.hid hl
 clear B O1 O2 hl
 go_enter Try.func17, Try.ntmps17
 go_upto_region 1 with fail
 have HS1 := Lib.hid (Since.refl w)
 refine wp_region_lit ?_
 refine tkL (.pointer (some ⟨q, 0, none⟩)) (h := ?_)
 (try simp only [Act.put, sA, sB, sC])
 refine tkL (.bool false) (h := ?_)
 (try simp only [Act.put, sA, sB, sC])
 refine wpList_nil ?_
 go_upto_region 3 with fail
 refine wp_region_lit ?_
 refine tkL (.pointer (some ⟨q, 0, none⟩)) (h := ?_)
 (try simp only [Act.put, sA, sB, sC])
 refine tkL (.pointer (some ⟨q, 0, none⟩)) (h := ?_)
 (try simp only [Act.put, sA, sB, sC])
 refine tkL (.pointer (some ⟨q, 18, none⟩)) (h := ?_)
 (try simp only [Act.put, sA, sB, sC])
 refine wpList_q (by rfl) (.slice A1 G.cars.length c1) ?he ?_
 case he => exact exec_cell 37 _ _ HQ.out rfl rfl rfl Try.underlying37 rfl
 (try simp only [Act.put, sA, sB, sC])
 refine wpList_wp (by rfl) (fun K hK => ?_)
 (try go_simp)
 refine (C1.cloneT lo A1 c1 G.cars  w HO1.out HL.out).mono ?_
 rintro e w9 ⟨A', c', rfl, hO, hb⟩
 (try go_wp2_with fail)
 refine hK.out _ _ ?_
 clear hK K
 (try simp only [Act.put, sA, sB, sC])
 refine tkL (.slice A' G.cars.length c') (h := ?_)
 (try simp only [Act.put, sA, sB, sC])
 refine wpList_nil ?_
 (try go_wp2_with fail)
 go_ret
 exact ⟨A', c', rfl, hO, hb⟩
set_option maxHeartbeats 4000000 in
theorem waitsT (lo q : Nat) (G : GrV) (S : List Nat) (w : World) (hg : GO lo q G S w) (hl : G.waits.length ≤ 1000000) : Calls Try.prog 21 #[.pointer (some ⟨q, 0, none⟩)] w fun e w' => ∃ A' c', e = .returned (.slice A' G.waits.length c') ∧ WaitsAt w.heap.size A' G.waits.length c' G.waits w' ∧ Since w w' := by
 obtain ⟨h0, A1, c1, A2, c2, rfl, B, O1, O2⟩ := hg
 have HQ := Lib.hid B; have HO1 := Lib.hid O1; have HO2 := Lib.hid O2; have HL := Lib.hid hl
 clear B O1 O2 hl
 go_enter Try.func21, Try.ntmps21
 go_upto_region 1 with fail
 have HS1 := Lib.hid (Since.refl w)
 refine wp_region_lit ?_
 refine tkL (.pointer (some ⟨q, 0, none⟩)) (h := ?_)
 (try simp only [Act.put, sA, sB, sC])
 refine tkL (.bool false) (h := ?_)
 (try simp only [Act.put, sA, sB, sC])
 refine wpList_nil ?_
 go_upto_region 3 with fail
 refine wp_region_lit ?_
 refine tkL (.pointer (some ⟨q, 0, none⟩)) (h := ?_)
 (try simp only [Act.put, sA, sB, sC])
 refine tkL (.pointer (some ⟨q, 0, none⟩)) (h := ?_)
 (try simp only [Act.put, sA, sB, sC])
 refine tkL (.pointer (some ⟨q, 19, none⟩)) (h := ?_)
 (try simp only [Act.put, sA, sB, sC])
 refine wpList_q (by rfl) (.slice A2 G.waits.length c2) ?he ?_
 case he => exact exec_cell 50 _ _ HQ.out rfl rfl rfl Try.underlying50 rfl
 (try simp only [Act.put, sA, sB, sC])
 refine wpList_wp (by rfl) (fun K hK => ?_)
 (try go_simp)
 refine (C2.cloneT lo A2 c2 G.waits  w HO2.out HL.out).mono ?_
 rintro e w9 ⟨A', c', rfl, hO, hb⟩
 (try go_wp2_with fail)
 refine hK.out _ _ ?_
 clear hK K
 (try simp only [Act.put, sA, sB, sC])
 refine tkL (.slice A' G.waits.length c') (h := ?_)
 (try simp only [Act.put, sA, sB, sC])
 refine wpList_nil ?_
 (try go_wp2_with fail)
 go_ret
 exact ⟨A', c', rfl, hO, hb⟩
set_option maxHeartbeats 4000000 in
theorem nowT (lo q : Nat) (G : GrV) (S : List Nat) (w : World) (hg : GO lo q G S w) : Calls Try.prog 25 #[.pointer (some ⟨q, 0, none⟩)] w fun e w' => e = .returned (.int .i64 G.now) ∧ w = w' := by
 obtain ⟨h0, A1, c1, A2, c2, rfl, B, O1, O2⟩ := hg
 have HQ := Lib.hid B
 clear B O1 O2
 go_enter Try.func25, Try.ntmps25
 go_upto_region 1 with fail
 have HS1 := Lib.hid (Since.refl w)
 refine wp_region_lit ?_
 refine tkL (.pointer (some ⟨q, 0, none⟩)) (h := ?_)
 (try simp only [Act.put, sA, sB, sC])
 refine tkL (.bool false) (h := ?_)
 (try simp only [Act.put, sA, sB, sC])
 refine wpList_nil ?_
 go_upto_region 3 with fail
 refine wp_region_lit ?_
 refine tkL (.pointer (some ⟨q, 0, none⟩)) (h := ?_)
 (try simp only [Act.put, sA, sB, sC])
 refine tkL (.pointer (some ⟨q, 0, none⟩)) (h := ?_)
 (try simp only [Act.put, sA, sB, sC])
 refine tkL (.pointer (some ⟨q, 20, none⟩)) (h := ?_)
 (try simp only [Act.put, sA, sB, sC])
 refine wpList_q (by rfl) (.int .i64 G.now) ?he ?_
 case he => exact exec_cell 3 _ _ HQ.out rfl rfl rfl Try.underlying3 rfl
 (try simp only [Act.put, sA, sB, sC])
 refine tkL (.int .i64 G.now) (h := ?_)
 (try simp only [Act.put, sA, sB, sC])
 refine wpList_nil ?_
 (try go_wp2_with fail)
 go_ret
 exact ⟨rfl, rfl⟩
end Go.Proofs.Ytpacieocmogjeaa.Gr
namespace Go.Proofs.Ytpacieocmogjeaa.Tm
set_option linter.unusedVariables false
set_option linter.unusedSimpArgs false

/-- n, held between 0 and top. -/
def cl (n : Int) : Int := if n < 0 then 0 else if 1099511627776 < n then 1099511627776 else n

theorem cl_lo (n : Int) : 0 ≤ cl n := by unfold cl; repeat' split <;> omega
theorem cl_hi (n : Int) : cl n ≤ 1099511627776 := by unfold cl; repeat' split <;> omega
/-- How often a pause is doubled: never below 0 times; past 100 it makes no difference. -/
def tr (t : Int) (m : Nat) : Nat := min t.toNat m

end Go.Proofs.Ytpacieocmogjeaa.Tm
namespace Go.Proofs.Ytpacieocmogjeaa.Tw
set_option linter.unusedVariables false
set_option linter.unusedSimpArgs false
open Go.RowKit Go.Proofs.Ytpacieocmogjeaa.Tm Go.Proofs.Ytpacieocmogjeaa.Ba
theorem clT (n : Int) (w : World) : Calls Try.prog 69 #[.int .i64 n] w fun e w' => e = .returned (.int .i64 (cl n)) ∧ w = w' := by
  by_cases h0 : n < 0
  · go_enter Try.func69, Try.ntmps69
    go_wp2
    go_ret
    exact ⟨ret_int (by unfold cl; repeat' split <;> omega), rfl⟩
  · by_cases h1 : 1099511627776 < n
    · go_enter Try.func69, Try.ntmps69
      go_wp2
      go_ret
      exact ⟨ret_int (by unfold cl; repeat' split <;> omega), rfl⟩
    · go_enter Try.func69, Try.ntmps69
      go_wp2
      go_ret
      exact ⟨ret_int (by unfold cl; repeat' split <;> omega), rfl⟩
theorem addT (a b : Int) (w : World) : Calls Try.prog 44 #[.int .i64 a, .int .i64 b] w fun e w' => e = .returned (.int .i64 (cl (cl a + cl b))) ∧ w = w' := by
  have h1 := cl_lo a
  have h2 := cl_hi a
  have h3 := cl_lo b
  have h4 := cl_hi b
  go_enter Try.func44, Try.ntmps44
  go_wp2_with (first | (go_at_call 69; refine (clT _ _).mono ?_; rintro e w' ⟨rfl, rfl⟩))
  go_ret
  exact ⟨rfl, rfl⟩
end Go.Proofs.Ytpacieocmogjeaa.Tw
namespace Go.Proofs.Ytpacieocmogjeaa.Gr
set_option linter.unusedVariables false
set_option linter.unusedSimpArgs false
open Go.RowKit Go.Proofs.Ytpacieocmogjeaa.Ba Go.Proofs.Ytpacieocmogjeaa.Mem Go.Proofs.Ytpacieocmogjeaa.Ty Go.Proofs.Ytpacieocmogjeaa.Mo Go.Proofs.Ytpacieocmogjeaa.St
open Go.Proofs.Ytpacieocmogjeaa.Ct (cfgA carA bdX tkV tkF tkW tkS tickT)
open Go.Proofs.Ytpacieocmogjeaa.Et (bl bl_inv inH wiB wiB_iff)
open Go.Proofs.Ytpacieocmogjeaa.Cs (CV fitC carC)
/-- A car of which all numbers are small. -/
def okT (x : CarV) : Prop := bdX x ∧ (R x.sp ∧ R x.su ∧ R x.sd) ∧ (x.mo = 1 → -1099511627776 ≤ x.ta ∧ x.ta ≤ 1099511627776) ∧ (-1000000000 ≤ x.ti ∧ x.ti ≤ 1000000000) ∧ (0 ≤ x.un ∧ x.un ≤ 252) ∧ (0 ≤ x.wy ∧ x.wy ≤ 2)
def okW (a : WaitV) : Prop := (0 ≤ a.fl ∧ a.fl ≤ 63) ∧ 1 ≤ a.wy ∧ a.wy ≤ 2
def hallX (a : WaitV) (x : CarV) : CarV := { x with su := haU x.su a.fl a.wy, sd := haD x.sd a.fl a.wy }
theorem hallX_ok {a : WaitV} {x : CarV} (h : okT x) : okT (hallX a x) := by
  obtain ⟨h1, ⟨h2, h3, h4⟩, h5, h6, h7, h8⟩ := h
  refine ⟨h1, ⟨h2, ?_, ?_⟩, h5, h6, h7, h8⟩
  · show R (haU x.su a.fl a.wy)
    unfold haU; split
    · exact or_R h3 (bit_R _)
    · exact h3
  · show R (haD x.sd a.fl a.wy)
    unfold haD; split
    · exact or_R h4 (bit_R _)
    · exact h4
def bestI (c : CfgV) (cs : List CarV) (a : WaitV) : Int := (bl c a.fl a.wy (fun j => cs.getD j zeroX) cs.length).1
def giveC (cs : List CarV) (a : WaitV) (b : Int) : List CarV := if 0 ≤ b then cs.modify b.toNat (hallX a) else cs
/-- One call is given to a car. -/
def asgStep (c : CfgV) (p : List WaitV × List CarV) (i : Nat) : List WaitV × List CarV :=
  match p.1[i]? with
  | none => p
  | some a => if a.ca = -1 then (p.1.set i { a with ca := bestI c p.2 a }, giveC p.2 a (bestI c p.2 a)) else p
def asgN (c : CfgV) (ws : List WaitV) (cs : List CarV) : Nat → List WaitV × List CarV
  | 0 => (ws, cs)
  | i + 1 => asgStep c (asgN c ws cs i) i
theorem giveC_len (cs : List CarV) (a : WaitV) (b : Int) : (giveC cs a b).length = cs.length := by unfold giveC; split <;> simp
theorem step_len (c : CfgV) (p : List WaitV × List CarV) (i : Nat) : (asgStep c p i).1.length = p.1.length ∧ (asgStep c p i).2.length = p.2.length := by
  unfold asgStep
  split
  · exact ⟨rfl, rfl⟩
  · split
    · exact ⟨by simp, giveC_len _ _ _⟩
    · exact ⟨rfl, rfl⟩
theorem asg_len (c : CfgV) (ws : List WaitV) (cs : List CarV) : ∀ i, (asgN c ws cs i).1.length = ws.length ∧ (asgN c ws cs i).2.length = cs.length
  | 0 => ⟨rfl, rfl⟩
  | i + 1 => by
    have h := asg_len c ws cs i
    have h2 := step_len c (asgN c ws cs i) i
    exact ⟨h2.1.trans h.1, h2.2.trans h.2⟩
theorem giveC_ok {cs : List CarV} {a : WaitV} {b : Int} (h : ∀ x ∈ cs, okT x) : ∀ x ∈ giveC cs a b, okT x := by
  intro x hx
  unfold giveC at hx
  split at hx
  · obtain ⟨i, hi, rfl⟩ := List.mem_iff_getElem.1 hx
    rw [List.getElem_modify]
    split
    · exact hallX_ok (h _ (List.getElem_mem _))
    · exact h _ (List.getElem_mem _)
  · exact h x hx
theorem step_ok {c : CfgV} {p : List WaitV × List CarV} {i : Nat} (hw : ∀ a ∈ p.1, okW a) (hc : ∀ x ∈ p.2, okT x) : (∀ a ∈ (asgStep c p i).1, okW a) ∧ ∀ x ∈ (asgStep c p i).2, okT x := by
  unfold asgStep
  split
  · exact ⟨hw, hc⟩
  · rename_i a ha
    split
    · refine ⟨fun y hy => ?_, giveC_ok hc⟩
      rcases List.mem_or_eq_of_mem_set hy with h | h
      · exact hw y h
      · rw [h]; exact hw a (List.mem_of_getElem? ha)
    · exact ⟨hw, hc⟩
theorem asg_ok {c : CfgV} {ws : List WaitV} {cs : List CarV} (hw : ∀ a ∈ ws, okW a) (hc : ∀ x ∈ cs, okT x) : ∀ i, (∀ a ∈ (asgN c ws cs i).1, okW a) ∧ ∀ x ∈ (asgN c ws cs i).2, okT x
  | 0 => ⟨hw, hc⟩
  | i + 1 => step_ok (asg_ok hw hc i).1 (asg_ok hw hc i).2
/-- A tick of the car i: the cars, the waits, who was served. -/
def tkStep (c : CfgV) (p : List CarV × List WaitV × List WaitV) (i : Nat) : List CarV × List WaitV × List WaitV :=
  match p.1[i]? with
  | none => p
  | some x => match (if tkS x = true then atP p.2.1 (isW (tkF x) (tkW x)) else none) with
    | none => (p.1.set i (tkV c x), p.2)
    | some k => (p.1.set i (tkV c x), p.2.1.eraseIdx k, p.2.2 ++ (p.2.1[k]?).toList)
def tkN (c : CfgV) (cs : List CarV) (ws : List WaitV) : Nat → List CarV × List WaitV × List WaitV
  | 0 => (cs, ws, [])
  | i + 1 => tkStep c (tkN c cs ws i) i
theorem tkS_len (c : CfgV) (p : List CarV × List WaitV × List WaitV) (i : Nat) : (tkStep c p i).1.length = p.1.length := by
  unfold tkStep
  split
  · rfl
  · split <;> simp
theorem tkS_at (c : CfgV) (p : List CarV × List WaitV × List WaitV) (i j : Nat) (h : i ≠ j) : (tkStep c p i).1[j]? = p.1[j]? := by
  unfold tkStep
  split
  · rfl
  · split <;> simp [List.getElem?_set, h]
theorem tk_len (c : CfgV) (cs : List CarV) (ws : List WaitV) : ∀ i, (tkN c cs ws i).1.length = cs.length
  | 0 => rfl
  | i + 1 => (tkS_len c _ i).trans (tk_len c cs ws i)
theorem tk_at (c : CfgV) (cs : List CarV) (ws : List WaitV) : ∀ i j, i ≤ j → (tkN c cs ws i).1[j]? = cs[j]?
  | 0, _, _ => rfl
  | i + 1, j, h => (tkS_at c _ i j (by omega)).trans (tk_at c cs ws i j (by omega))
theorem tkS_wl (c : CfgV) (p : List CarV × List WaitV × List WaitV) (i : Nat) : (tkStep c p i).2.1.length ≤ p.2.1.length ∧ (tkStep c p i).2.2.length ≤ p.2.2.length + 1 := by
  unfold tkStep
  split
  · exact ⟨Nat.le_refl _, Nat.le_succ _⟩
  · split
    · exact ⟨Nat.le_refl _, Nat.le_succ _⟩
    · rename_i k hk
      refine ⟨List.length_eraseIdx_le _ _, ?_⟩
      have : (p.2.1[k]?).toList.length ≤ 1 := by cases p.2.1[k]? <;> simp
      simp only [List.length_append]
      omega
theorem tk_wl (c : CfgV) (cs : List CarV) (ws : List WaitV) : ∀ i, (tkN c cs ws i).2.1.length ≤ ws.length ∧ (tkN c cs ws i).2.2.length ≤ i
  | 0 => ⟨Nat.le_refl _, Nat.le_refl _⟩
  | i + 1 => by
    have h := tk_wl c cs ws i
    have h2 := tkS_wl c (tkN c cs ws i) i
    exact ⟨Nat.le_trans h2.1 h.1, Nat.le_trans h2.2 (by omega)⟩
/-- What a group is behind a tick, and who was served. -/
def tickP (G : GrV) : List CarV × List WaitV × List WaitV := tkN G.c (asgN G.c G.waits G.cars G.waits.length).2 (asgN G.c G.waits G.cars G.waits.length).1 G.cars.length
def tickG (G : GrV) : GrV := ⟨G.c, (tickP G).1, (tickP G).2.1, Go.Proofs.Ytpacieocmogjeaa.Tm.cl (Go.Proofs.Ytpacieocmogjeaa.Tm.cl G.now + Go.Proofs.Ytpacieocmogjeaa.Tm.cl 1)⟩
/-- The cars' row, as eta reads it. -/
theorem cv_own {w : World} {lo c n : Nat} {A : Option Addr} {ls : List CarV} (h : w.ownsRow lo 30 15 (.slice A n c) n (rowsOf carL ls)) (hn : n = ls.length) : CV w A n (fun i => ls.getD i zeroX) := by
  subst hn
  rcases Nat.eq_zero_or_pos ls.length with h0 | h0
  · exact .inl h0
  · obtain ⟨g, rfl⟩ := own_addr h h0
    refine .inr ⟨g, 0, rfl, own_lt h g (by simp [blkOf]), fun i hi j v hj => ?_⟩
    have e : ls.getD i zeroX = ls[i] := by simp [List.getD, hi]
    change (carL (ls.getD i zeroX))[j]? = some v at hj
    rw [e] at hj
    rw [Nat.zero_add]
    exact own_rng h (rowsOf_at carL_len hi) j v hj
theorem fit_of {x : CarV} (h : R x.sp ∧ R x.su ∧ R x.sd) : fitC x := by
  have key : ∀ n : Int, R n → (Lit.int .u64 n).wf = true := by
    intro n hn
    unfold R at hn
    simp only [Lit.wf, IntKind.min, IntKind.max, IntKind.bits, IntKind.signed]
    simp
    omega
  exact ⟨key _ h.1, key _ h.2.1, key _ h.2.2⟩
theorem getD_ok {cs : List CarV} (h : ∀ x ∈ cs, okT x) : ∀ i, i < cs.length → okT (cs.getD i zeroX) := fun i hi => by
  have e : cs.getD i zeroX = cs[i] := by simp [List.getD, hi]
  rw [e]; exact h _ (List.getElem_mem hi)
theorem inH_of {x : CarV} {a : WaitV} (hx : okT x) (ha : okW a) : inH x a.fl a.wy := by
  obtain ⟨_, _, _, _, h1, h2⟩ := hx
  obtain ⟨h3, h4⟩ := ha
  unfold inH
  rw [wiB_iff]
  omega
theorem bestI_at (c : CfgV) (cs : List CarV) (a : WaitV) : bestI c cs a = -1 ∨ ∃ q : Nat, q < cs.length ∧ bestI c cs a = (q : Int) := by
  rcases bl_inv c a.fl a.wy (fun j => cs.getD j zeroX) cs.length with h | ⟨q, h1, h2, _⟩
  · exact .inl h
  · exact .inr ⟨q, h1, h2⟩
end Go.Proofs.Ytpacieocmogjeaa.Gr
