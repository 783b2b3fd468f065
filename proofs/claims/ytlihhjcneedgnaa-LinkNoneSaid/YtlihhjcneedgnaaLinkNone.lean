/-
  Whatever comes in: LinkNone answers true.
  No condition.
-/
import Derived.Test.YtlihhjcneedgnaaRows
import Derived.WalkKit
import Derived.ProofKit
import Derived.OpenShut
import Derived.Lib.Hide
import Derived.ShutString
import Derived.ChangeOld
import Derived.Below
import Derived.SizedLaws
import Derived.Test.YtlihhjcneedgnaaOpn
import Derived.Test.YtlihhjcneedgnaaLnkE
namespace Go.Proofs.Ytlihhjcneedgnaa.linkNone
set_option linter.unusedVariables false
set_option linter.unusedSimpArgs false
open Go.Proofs.Ytlihhjcneedgnaa Go.Proofs.Ytlihhjcneedgnaa.Ln
open Go.ChangeShapes Go.WideShapes Go.ChangeAt Go.RowKit
open Go.ChangeMaps (open_string shut_string)
set_option linter.unusedVariables false

theorem own : ownKnob Try.prog.godebug = none := by kernel_rfl
theorem laidOut : laidOutB Try.prog = true := by kernel_rfl

set_option maxRecDepth 100000 in
theorem lifted (os : Os) (started : os.Started) (H : Type) (enc : TypeId × Value → H) :
    ReturnsInHanded {} Try.checked os 5 .any (Rows.linkNoneSpec.pre6 enc Try.prog Try.f5 Rows.linkNoneRow.domain false) (Rows.linkNoneSpec.post enc Try.prog Try.f5 false true false false) := by
  refine returnsInHanded_of_change (C := Try.checked) own started (by kernel_rfl) Try.func5
    (ChangeSpec.witness6 (enc := enc) (C := Try.checked) false ⟨#[], #[.agg #[.int .i64 0, .int .i64 0, .int .i64 0, .int .i64 0], .agg #[.int .i64 0, .int .i64 0, .int .i64 0, .int .i64 0, .bool false, .int .i64 0, .int .i64 0, .int .i64 0, .int .i64 0], .int .i64 0], []⟩ 8 (by kernel_rfl) (by kernel_rfl) (by kernel_rfl) (by kernel_rfl)) ?_
  intro W base args ds gs before hval0 hW hcnd _
  have hval : ∀ (j : Nat) t v, Try.f5.params[j]? = some t → args[j]? = some v → Value.okWide Try.prog W .any base t v := hval0
  have hW' := hW
  obtain ⟨p, q, hA0, hV, rfl, hfz, hnd⟩ := hW
  have hA : DataW.TrodAll enc Try.prog W 0 (fun _ => true) true Try.f5.params.toList args.toList ds p := hA0
  rw [Try.params5] at hA hval
  obtain ⟨v0, vs0, d0, ds0, p0, q0, hargs, rfl, rfl, h0, r0⟩ := trodAll_cons hA
  obtain ⟨v1, vs1, d1, ds1, p1, q1, rfl, rfl, rfl, h1, r1⟩ := trodAll_cons r0
  obtain ⟨v2, vs2, d2, ds2, p2, q2, rfl, rfl, rfl, h2, r2⟩ := trodAll_cons r1
  obtain ⟨rfl, rfl, rfl⟩ := trodAll_nil r2
  obtain rfl : args = #[v0, v1, v2] := by cases args; simp_all
  obtain ⟨rfl, rfl⟩ := trodVars_none hV
  have k0 := h0
  have lt0 : ∀ x ∈ p0, x.block < W.heap.size := by obtain ⟨m, hm⟩ := k0; exact DataW.trod_lt m _ _ _ hm
  obtain ⟨cs0, rfl, hsz0, hcc0⟩ := Opn.open_agg (ts := [3, 3, 3, 3]) Try.underlying36 (by kernel_rfl) (by kernel_rfl) (hval 0 36 v0 rfl rfl)
  obtain ⟨c0_0, hc0_0, ho0_0⟩ := hcc0 0 3 rfl
  obtain ⟨x0_0, rfl, w0_0⟩ := Opn.cell_int Try.underlying3 ho0_0
  obtain ⟨c0_1, hc0_1, ho0_1⟩ := hcc0 1 3 rfl
  obtain ⟨x0_1, rfl, w0_1⟩ := Opn.cell_int Try.underlying3 ho0_1
  obtain ⟨c0_2, hc0_2, ho0_2⟩ := hcc0 2 3 rfl
  obtain ⟨x0_2, rfl, w0_2⟩ := Opn.cell_int Try.underlying3 ho0_2
  obtain ⟨c0_3, hc0_3, ho0_3⟩ := hcc0 3 3 rfl
  obtain ⟨x0_3, rfl, w0_3⟩ := Opn.cell_int Try.underlying3 ho0_3
  obtain rfl : cs0 = #[.int .i64 x0_0, .int .i64 x0_1, .int .i64 x0_2, .int .i64 x0_3] := Opn.arr_each (l := [.int .i64 x0_0, .int .i64 x0_1, .int .i64 x0_2, .int .i64 x0_3]) hsz0 (by
    refine Opn.each_cons hc0_0 ?_
    refine Opn.each_cons hc0_1 ?_
    refine Opn.each_cons hc0_2 ?_
    refine Opn.each_cons hc0_3 ?_
    exact Opn.each_nil)
  have k1 := h1
  have lt1 : ∀ x ∈ p1, x.block < W.heap.size := by obtain ⟨m, hm⟩ := k1; exact DataW.trod_lt m _ _ _ hm
  obtain ⟨cs1, rfl, hsz1, hcc1⟩ := Opn.open_agg (ts := [3, 3, 3, 3, 4, 3, 3, 3, 3]) Try.underlying38 (by kernel_rfl) (by kernel_rfl) (hval 1 38 v1 rfl rfl)
  obtain ⟨c1_0, hc1_0, ho1_0⟩ := hcc1 0 3 rfl
  obtain ⟨x1_0, rfl, w1_0⟩ := Opn.cell_int Try.underlying3 ho1_0
  obtain ⟨c1_1, hc1_1, ho1_1⟩ := hcc1 1 3 rfl
  obtain ⟨x1_1, rfl, w1_1⟩ := Opn.cell_int Try.underlying3 ho1_1
  obtain ⟨c1_2, hc1_2, ho1_2⟩ := hcc1 2 3 rfl
  obtain ⟨x1_2, rfl, w1_2⟩ := Opn.cell_int Try.underlying3 ho1_2
  obtain ⟨c1_3, hc1_3, ho1_3⟩ := hcc1 3 3 rfl
  obtain ⟨x1_3, rfl, w1_3⟩ := Opn.cell_int Try.underlying3 ho1_3
  obtain ⟨c1_4, hc1_4, ho1_4⟩ := hcc1 4 4 rfl
  obtain ⟨x1_4, rfl⟩ := Opn.cell_bool Try.underlying4 ho1_4
  obtain ⟨c1_5, hc1_5, ho1_5⟩ := hcc1 5 3 rfl
  obtain ⟨x1_5, rfl, w1_5⟩ := Opn.cell_int Try.underlying3 ho1_5
  obtain ⟨c1_6, hc1_6, ho1_6⟩ := hcc1 6 3 rfl
  obtain ⟨x1_6, rfl, w1_6⟩ := Opn.cell_int Try.underlying3 ho1_6
  obtain ⟨c1_7, hc1_7, ho1_7⟩ := hcc1 7 3 rfl
  obtain ⟨x1_7, rfl, w1_7⟩ := Opn.cell_int Try.underlying3 ho1_7
  obtain ⟨c1_8, hc1_8, ho1_8⟩ := hcc1 8 3 rfl
  obtain ⟨x1_8, rfl, w1_8⟩ := Opn.cell_int Try.underlying3 ho1_8
  obtain rfl : cs1 = #[.int .i64 x1_0, .int .i64 x1_1, .int .i64 x1_2, .int .i64 x1_3, .bool x1_4, .int .i64 x1_5, .int .i64 x1_6, .int .i64 x1_7, .int .i64 x1_8] := Opn.arr_each (l := [.int .i64 x1_0, .int .i64 x1_1, .int .i64 x1_2, .int .i64 x1_3, .bool x1_4, .int .i64 x1_5, .int .i64 x1_6, .int .i64 x1_7, .int .i64 x1_8]) hsz1 (by
    refine Opn.each_cons hc1_0 ?_
    refine Opn.each_cons hc1_1 ?_
    refine Opn.each_cons hc1_2 ?_
    refine Opn.each_cons hc1_3 ?_
    refine Opn.each_cons hc1_4 ?_
    refine Opn.each_cons hc1_5 ?_
    refine Opn.each_cons hc1_6 ?_
    refine Opn.each_cons hc1_7 ?_
    refine Opn.each_cons hc1_8 ?_
    exact Opn.each_nil)
  have k2 := h2
  have lt2 : ∀ x ∈ p2, x.block < W.heap.size := by obtain ⟨m, hm⟩ := k2; exact DataW.trod_lt m _ _ _ hm
  obtain ⟨a2, rfl, rfl, rfl, w2⟩ := open_int Try.underlying3 (hval 2 3 v2 rfl rfl) h2
  clear hA0 hval0
  refine (nones ⟨x0_0, x0_1, x0_2, x0_3⟩ ⟨x1_0, x1_1, x1_2, x1_3, x1_4, ⟨x1_5, x1_6, x1_7, x1_8⟩⟩ a2 W).mono fun e W' ⟨he, bel⟩ => ?_
  subst he
  exact ⟨_, rfl, _, _, _, [], _, [], hW', trodAll_mk1 (shut_bool Try.underlying4 _), (trodAll_cons_mk (Below.trod laidOut (by kernel_rfl) (of_decide_eq_true (by kernel_rfl)) k0 bel lt0) (trodAll_cons_mk (Below.trod laidOut (by kernel_rfl) (of_decide_eq_true (by kernel_rfl)) k1 bel lt1) (trodAll_cons_mk (Below.trod laidOut (by kernel_rfl) (of_decide_eq_true (by kernel_rfl)) k2 bel lt2) trodAll_mk0))), rfl, Below.frame bel _, fun h => by cases h⟩

theorem over : Rows.linkNoneRow.holds Try.pinned (OpenSpec.ofChange Rows.linkNoneSpec) :=
  OpenClaim.holds_of_wide 5 Try.f5 rfl rfl rfl rfl rfl rfl rfl ⟨rfl, rfl, rfl, rfl, rfl⟩ rfl rfl rfl rfl rfl (by kernel_rfl) Try.func5 (by kernel_rfl)
    (of_decide_eq_true (by kernel_rfl)) (by unfold Func.isWrapper; first | (rw [if_pos (by decide +kernel)]; kernel_rfl) | (rw [if_neg (by decide +kernel)]; exact ⟨rfl, rfl⟩))
    (fun os started H enc _ => lifted os started H enc)

/-- THE STATEMENT -/
theorem proved : Rows.LinkNoneSaid := over
#print axioms proved
end Go.Proofs.Ytlihhjcneedgnaa.linkNone
