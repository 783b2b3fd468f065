/-
  Whatever comes in: CorePlays answers true.
  No condition.
-/
import Derived.Test.YtpiiblkiddcgcaaGreatRows
import Derived.WalkKit
import Derived.ProofKit
import Derived.OpenShut
import Derived.Lib.Hide
import Derived.ShutString
import Derived.ChangeOld
import Derived.Below
import Derived.SizedLaws
import Derived.Test.YtpiiblkiddcgcaaGreatPK15
import Derived.Test.YtpiiblkiddcgcaaGreatOpn
namespace Go.Proofs.YtpiiblkiddcgcaaGreat.corePlays
set_option linter.unusedVariables false
set_option linter.unusedSimpArgs false
open Go.Proofs.YtpiiblkiddcgcaaGreat Go.Proofs.YtpiiblkiddcgcaaGreat.Rk
open Go.ChangeShapes Go.WideShapes Go.ChangeAt Go.RowKit
open Go.ChangeMaps (open_string shut_string)
set_option linter.unusedVariables false

theorem own : ownKnob Tryz.prog.godebug = none := by kernel_rfl
theorem laidOut : laidOutB Tryz.prog = true := by kernel_rfl

set_option maxRecDepth 100000 in
theorem lifted (os : Os) (started : os.Started) (H : Type) (enc : TypeId × Value → H) :
    ReturnsInHanded {} Tryz.checked os 4 .any (Rows.corePlaysSpec.pre6 enc Tryz.prog Tryz.f4 Rows.corePlaysRow.domain false) (Rows.corePlaysSpec.post enc Tryz.prog Tryz.f4 false true false false) := by
  refine returnsInHanded_of_change_sized (C := Tryz.checked) own started (by kernel_rfl) Tryz.func4
    (ChangeSpec.witness6 (enc := enc) (C := Tryz.checked) false ⟨#[], #[.agg #[.int .i64 0, .int .i64 0, .int .i64 0, .int .i64 0, .int .i64 0, .int .i64 0, .int .i64 0, .int .i64 0, .int .i64 0, .int .i64 0, .int .i64 0, .int .i64 0, .int .i64 0, .int .i64 0, .int .i64 0, .int .i64 0, .int .i64 0, .int .i64 0], .slice none 0 0], []⟩ 8 (by kernel_rfl) (by kernel_rfl) (by kernel_rfl) (by kernel_rfl)) ?_
  intro W base args ds gs before hval0 hW hcnd hsz0 _
  have hsz : (DataW.weightsEach Tryz.prog (Tryz.f4.params.toList ++ Rows.corePlaysSpec.plain.varTypes Tryz.prog) (ds ++ gs)).all (· ≤ reachBytes) = true := hsz0
  have hval : ∀ (j : Nat) t v, Tryz.f4.params[j]? = some t → args[j]? = some v → Value.okWide Tryz.prog W .any base t v := hval0
  have hW' := hW
  obtain ⟨p, q, hA0, hV, rfl, hfz, hnd⟩ := hW
  have hA : DataW.TrodAll enc Tryz.prog W 0 (fun _ => true) true Tryz.f4.params.toList args.toList ds p := hA0
  rw [Tryz.params4] at hA hval hsz
  obtain ⟨v0, vs0, d0, ds0, p0, q0, hargs, rfl, rfl, h0, r0⟩ := trodAll_cons hA
  obtain ⟨v1, vs1, d1, ds1, p1, q1, rfl, rfl, rfl, h1, r1⟩ := trodAll_cons r0
  obtain ⟨rfl, rfl, rfl⟩ := trodAll_nil r1
  obtain rfl : args = #[v0, v1] := by cases args; simp_all
  obtain ⟨rfl, rfl⟩ := trodVars_none hV
  have k0 := h0
  have lt0 : ∀ x ∈ p0, x.block < W.heap.size := by obtain ⟨m, hm⟩ := k0; exact DataW.trod_lt m _ _ _ hm
  obtain ⟨cs0, rfl, hsz0, hcc0⟩ := Opn.open_agg (ts := [3, 3, 3, 3, 3, 3, 3, 3, 3, 3, 3, 3, 3, 3, 3, 3, 3, 3]) Tryz.underlying23 (by kernel_rfl) (by kernel_rfl) (hval 0 23 v0 rfl rfl)
  obtain ⟨c0_0, hc0_0, ho0_0⟩ := hcc0 0 3 rfl
  obtain ⟨x0_0, rfl, w0_0⟩ := Opn.cell_int Tryz.underlying3 ho0_0
  obtain ⟨c0_1, hc0_1, ho0_1⟩ := hcc0 1 3 rfl
  obtain ⟨x0_1, rfl, w0_1⟩ := Opn.cell_int Tryz.underlying3 ho0_1
  obtain ⟨c0_2, hc0_2, ho0_2⟩ := hcc0 2 3 rfl
  obtain ⟨x0_2, rfl, w0_2⟩ := Opn.cell_int Tryz.underlying3 ho0_2
  obtain ⟨c0_3, hc0_3, ho0_3⟩ := hcc0 3 3 rfl
  obtain ⟨x0_3, rfl, w0_3⟩ := Opn.cell_int Tryz.underlying3 ho0_3
  obtain ⟨c0_4, hc0_4, ho0_4⟩ := hcc0 4 3 rfl
  obtain ⟨x0_4, rfl, w0_4⟩ := Opn.cell_int Tryz.underlying3 ho0_4
  obtain ⟨c0_5, hc0_5, ho0_5⟩ := hcc0 5 3 rfl
  obtain ⟨x0_5, rfl, w0_5⟩ := Opn.cell_int Tryz.underlying3 ho0_5
  obtain ⟨c0_6, hc0_6, ho0_6⟩ := hcc0 6 3 rfl
  obtain ⟨x0_6, rfl, w0_6⟩ := Opn.cell_int Tryz.underlying3 ho0_6
  obtain ⟨c0_7, hc0_7, ho0_7⟩ := hcc0 7 3 rfl
  obtain ⟨x0_7, rfl, w0_7⟩ := Opn.cell_int Tryz.underlying3 ho0_7
  obtain ⟨c0_8, hc0_8, ho0_8⟩ := hcc0 8 3 rfl
  obtain ⟨x0_8, rfl, w0_8⟩ := Opn.cell_int Tryz.underlying3 ho0_8
  obtain ⟨c0_9, hc0_9, ho0_9⟩ := hcc0 9 3 rfl
  obtain ⟨x0_9, rfl, w0_9⟩ := Opn.cell_int Tryz.underlying3 ho0_9
  obtain ⟨c0_10, hc0_10, ho0_10⟩ := hcc0 10 3 rfl
  obtain ⟨x0_10, rfl, w0_10⟩ := Opn.cell_int Tryz.underlying3 ho0_10
  obtain ⟨c0_11, hc0_11, ho0_11⟩ := hcc0 11 3 rfl
  obtain ⟨x0_11, rfl, w0_11⟩ := Opn.cell_int Tryz.underlying3 ho0_11
  obtain ⟨c0_12, hc0_12, ho0_12⟩ := hcc0 12 3 rfl
  obtain ⟨x0_12, rfl, w0_12⟩ := Opn.cell_int Tryz.underlying3 ho0_12
  obtain ⟨c0_13, hc0_13, ho0_13⟩ := hcc0 13 3 rfl
  obtain ⟨x0_13, rfl, w0_13⟩ := Opn.cell_int Tryz.underlying3 ho0_13
  obtain ⟨c0_14, hc0_14, ho0_14⟩ := hcc0 14 3 rfl
  obtain ⟨x0_14, rfl, w0_14⟩ := Opn.cell_int Tryz.underlying3 ho0_14
  obtain ⟨c0_15, hc0_15, ho0_15⟩ := hcc0 15 3 rfl
  obtain ⟨x0_15, rfl, w0_15⟩ := Opn.cell_int Tryz.underlying3 ho0_15
  obtain ⟨c0_16, hc0_16, ho0_16⟩ := hcc0 16 3 rfl
  obtain ⟨x0_16, rfl, w0_16⟩ := Opn.cell_int Tryz.underlying3 ho0_16
  obtain ⟨c0_17, hc0_17, ho0_17⟩ := hcc0 17 3 rfl
  obtain ⟨x0_17, rfl, w0_17⟩ := Opn.cell_int Tryz.underlying3 ho0_17
  obtain rfl : cs0 = #[.int .i64 x0_0, .int .i64 x0_1, .int .i64 x0_2, .int .i64 x0_3, .int .i64 x0_4, .int .i64 x0_5, .int .i64 x0_6, .int .i64 x0_7, .int .i64 x0_8, .int .i64 x0_9, .int .i64 x0_10, .int .i64 x0_11, .int .i64 x0_12, .int .i64 x0_13, .int .i64 x0_14, .int .i64 x0_15, .int .i64 x0_16, .int .i64 x0_17] := Opn.arr_each (l := [.int .i64 x0_0, .int .i64 x0_1, .int .i64 x0_2, .int .i64 x0_3, .int .i64 x0_4, .int .i64 x0_5, .int .i64 x0_6, .int .i64 x0_7, .int .i64 x0_8, .int .i64 x0_9, .int .i64 x0_10, .int .i64 x0_11, .int .i64 x0_12, .int .i64 x0_13, .int .i64 x0_14, .int .i64 x0_15, .int .i64 x0_16, .int .i64 x0_17]) hsz0 (by
    refine Opn.each_cons hc0_0 ?_
    refine Opn.each_cons hc0_1 ?_
    refine Opn.each_cons hc0_2 ?_
    refine Opn.each_cons hc0_3 ?_
    refine Opn.each_cons hc0_4 ?_
    refine Opn.each_cons hc0_5 ?_
    refine Opn.each_cons hc0_6 ?_
    refine Opn.each_cons hc0_7 ?_
    refine Opn.each_cons hc0_8 ?_
    refine Opn.each_cons hc0_9 ?_
    refine Opn.each_cons hc0_10 ?_
    refine Opn.each_cons hc0_11 ?_
    refine Opn.each_cons hc0_12 ?_
    refine Opn.each_cons hc0_13 ?_
    refine Opn.each_cons hc0_14 ?_
    refine Opn.each_cons hc0_15 ?_
    refine Opn.each_cons hc0_16 ?_
    refine Opn.each_cons hc0_17 ?_
    exact Opn.each_nil)
  obtain ⟨a1, len1, cap1, rfl⟩ := okWide_slice Tryz.underlying40 (hval 1 40 v1 rfl rfl)
  have k1 := h1
  have lt1 : ∀ x ∈ p1, x.block < W.heap.size := by obtain ⟨m, hm⟩ := k1; exact DataW.trod_lt m _ _ _ hm
  clear hA0 hval0
  refine (Rk.playsL ⟨x0_0, x0_1, x0_2, x0_3, x0_4, x0_5, x0_6, x0_7, x0_8, x0_9, x0_10, x0_11, x0_12, x0_13, x0_14, x0_15, x0_16, x0_17⟩ a1 len1 cap1 W h1).mono fun e W' ⟨he, bel⟩ => ?_
  subst he
  exact ⟨_, rfl, _, _, _, [], _, [], hW', trodAll_mk1 (shut_bool Tryz.underlying4 _), (trodAll_cons_mk (Below.trod laidOut (by kernel_rfl) (of_decide_eq_true (by kernel_rfl)) k0 bel lt0) (trodAll_cons_mk (Below.trod laidOut (by kernel_rfl) (of_decide_eq_true (by kernel_rfl)) k1 bel lt1) trodAll_mk0)), rfl, Below.frame bel _, fun h => by cases h⟩

theorem over : Rows.corePlaysRow.holds Tryz.pinned (OpenSpec.ofChange Rows.corePlaysSpec) :=
  OpenClaim.holds_of_wide 4 Tryz.f4 rfl rfl rfl rfl rfl rfl rfl ⟨rfl, rfl, rfl, rfl, rfl⟩ rfl rfl rfl rfl rfl (by kernel_rfl) Tryz.func4 (by kernel_rfl)
    (of_decide_eq_true (by kernel_rfl)) (by unfold Func.isWrapper; first | (rw [if_pos (by decide +kernel)]; kernel_rfl) | (rw [if_neg (by decide +kernel)]; exact ⟨rfl, rfl⟩))
    (fun os started H enc _ => lifted os started H enc)

/-- THE STATEMENT -/
theorem proved : Rows.CorePlaysSaid := over
#print axioms proved
end Go.Proofs.YtpiiblkiddcgcaaGreat.corePlays
