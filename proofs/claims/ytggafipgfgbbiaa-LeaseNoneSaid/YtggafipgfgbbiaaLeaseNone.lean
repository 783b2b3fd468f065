/-
  Whatever comes in: LeaseNone answers true.
  No condition.
-/
import Derived.Test.YtggafipgfgbbiaaRows
import Derived.WalkKit
import Derived.ProofKit
import Derived.OpenShut
import Derived.Lib.Hide
import Derived.ShutString
import Derived.ChangeOld
import Derived.Below
import Derived.SizedLaws
import Derived.Test.YtggafipgfgbbiaaLseD
import Derived.Test.YtggafipgfgbbiaaOpn
namespace Go.Proofs.Ytggafipgfgbbiaa.leaseNone
set_option linter.unusedVariables false
set_option linter.unusedSimpArgs false
open Go.Proofs.Ytggafipgfgbbiaa 
open Go.ChangeShapes Go.WideShapes Go.ChangeAt Go.RowKit
open Go.ChangeMaps (open_string shut_string)
set_option linter.unusedVariables false

theorem own : ownKnob Try.prog.godebug = none := by kernel_rfl
theorem laidOut : laidOutB Try.prog = true := by kernel_rfl

set_option maxRecDepth 100000 in
theorem lifted (os : Os) (started : os.Started) (H : Type) (enc : TypeId × Value → H) :
    ReturnsInHanded {} Try.checked os 10 .any (Rows.leaseNoneSpec.pre6 enc Try.prog Try.f10 Rows.leaseNoneRow.domain false) (Rows.leaseNoneSpec.post enc Try.prog Try.f10 false true false false) := by
  refine returnsInHanded_of_change (C := Try.checked) own started (by kernel_rfl) Try.func10
    (ChangeSpec.witness6 (enc := enc) (C := Try.checked) false ⟨#[], #[.agg #[.int .i64 0, .int .i64 0, .int .i64 0, .int .i64 0, .int .i64 0, .int .i64 0, .int .i64 0, .int .i64 0, .int .i64 0, .int .i64 0]], []⟩ 8 (by kernel_rfl) (by kernel_rfl) (by kernel_rfl) (by kernel_rfl)) ?_
  intro W base args ds gs before hval0 hW hcnd _
  have hval : ∀ (j : Nat) t v, Try.f10.params[j]? = some t → args[j]? = some v → Value.okWide Try.prog W .any base t v := hval0
  have hW' := hW
  obtain ⟨p, q, hA0, hV, rfl, hfz, hnd⟩ := hW
  have hA : DataW.TrodAll enc Try.prog W 0 (fun _ => true) true Try.f10.params.toList args.toList ds p := hA0
  rw [Try.params10] at hA hval
  obtain ⟨v0, vs0, d0, ds0, p0, q0, hargs, rfl, rfl, h0, r0⟩ := trodAll_cons hA
  obtain ⟨rfl, rfl, rfl⟩ := trodAll_nil r0
  obtain rfl : args = #[v0] := by cases args; simp_all
  obtain ⟨rfl, rfl⟩ := trodVars_none hV
  have k0 := h0
  have lt0 : ∀ x ∈ p0, x.block < W.heap.size := by obtain ⟨m, hm⟩ := k0; exact DataW.trod_lt m _ _ _ hm
  obtain ⟨cs0, rfl, hsz0, hcc0⟩ := Opn.open_agg (ts := [3, 3, 3, 3, 3, 3, 3, 3, 3, 3]) Try.underlying56 (by kernel_rfl) (by kernel_rfl) (hval 0 56 v0 rfl rfl)
  obtain ⟨c0_0, hc0_0, ho0_0⟩ := hcc0 0 3 rfl
  obtain ⟨x0_0, rfl, w0_0⟩ := Opn.cell_int Try.underlying3 ho0_0
  obtain ⟨c0_1, hc0_1, ho0_1⟩ := hcc0 1 3 rfl
  obtain ⟨x0_1, rfl, w0_1⟩ := Opn.cell_int Try.underlying3 ho0_1
  obtain ⟨c0_2, hc0_2, ho0_2⟩ := hcc0 2 3 rfl
  obtain ⟨x0_2, rfl, w0_2⟩ := Opn.cell_int Try.underlying3 ho0_2
  obtain ⟨c0_3, hc0_3, ho0_3⟩ := hcc0 3 3 rfl
  obtain ⟨x0_3, rfl, w0_3⟩ := Opn.cell_int Try.underlying3 ho0_3
  obtain ⟨c0_4, hc0_4, ho0_4⟩ := hcc0 4 3 rfl
  obtain ⟨x0_4, rfl, w0_4⟩ := Opn.cell_int Try.underlying3 ho0_4
  obtain ⟨c0_5, hc0_5, ho0_5⟩ := hcc0 5 3 rfl
  obtain ⟨x0_5, rfl, w0_5⟩ := Opn.cell_int Try.underlying3 ho0_5
  obtain ⟨c0_6, hc0_6, ho0_6⟩ := hcc0 6 3 rfl
  obtain ⟨x0_6, rfl, w0_6⟩ := Opn.cell_int Try.underlying3 ho0_6
  obtain ⟨c0_7, hc0_7, ho0_7⟩ := hcc0 7 3 rfl
  obtain ⟨x0_7, rfl, w0_7⟩ := Opn.cell_int Try.underlying3 ho0_7
  obtain ⟨c0_8, hc0_8, ho0_8⟩ := hcc0 8 3 rfl
  obtain ⟨x0_8, rfl, w0_8⟩ := Opn.cell_int Try.underlying3 ho0_8
  obtain ⟨c0_9, hc0_9, ho0_9⟩ := hcc0 9 3 rfl
  obtain ⟨x0_9, rfl, w0_9⟩ := Opn.cell_int Try.underlying3 ho0_9
  obtain rfl : cs0 = #[.int .i64 x0_0, .int .i64 x0_1, .int .i64 x0_2, .int .i64 x0_3, .int .i64 x0_4, .int .i64 x0_5, .int .i64 x0_6, .int .i64 x0_7, .int .i64 x0_8, .int .i64 x0_9] := Opn.arr_each (l := [.int .i64 x0_0, .int .i64 x0_1, .int .i64 x0_2, .int .i64 x0_3, .int .i64 x0_4, .int .i64 x0_5, .int .i64 x0_6, .int .i64 x0_7, .int .i64 x0_8, .int .i64 x0_9]) hsz0 (by
    refine Opn.each_cons hc0_0 ?_
    refine Opn.each_cons hc0_1 ?_
    refine Opn.each_cons hc0_2 ?_
    refine Opn.each_cons hc0_3 ?_
    refine Opn.each_cons hc0_4 ?_
    refine Opn.each_cons hc0_5 ?_
    refine Opn.each_cons hc0_6 ?_
    refine Opn.each_cons hc0_7 ?_
    refine Opn.each_cons hc0_8 ?_
    refine Opn.each_cons hc0_9 ?_
    exact Opn.each_nil)
  clear hA0 hval0
  refine (Le.nones ⟨x0_0, x0_1, x0_2, x0_3, x0_4, x0_5, x0_6, x0_7, x0_8, x0_9⟩ W).mono fun e W' ⟨he, bel⟩ => ?_
  subst he
  exact ⟨_, rfl, _, _, _, [], _, [], hW', trodAll_mk1 (shut_bool Try.underlying4 _), (trodAll_cons_mk (Below.trod laidOut (by kernel_rfl) (of_decide_eq_true (by kernel_rfl)) k0 bel lt0) trodAll_mk0), rfl, Below.frame bel _, fun h => by cases h⟩

theorem over : Rows.leaseNoneRow.holds Try.pinned (OpenSpec.ofChange Rows.leaseNoneSpec) :=
  OpenClaim.holds_of_wide 10 Try.f10 rfl rfl rfl rfl rfl rfl rfl ⟨rfl, rfl, rfl, rfl, rfl⟩ rfl rfl rfl rfl rfl (by kernel_rfl) Try.func10 (by kernel_rfl)
    (of_decide_eq_true (by kernel_rfl)) (by unfold Func.isWrapper; first | (rw [if_pos (by decide +kernel)]; kernel_rfl) | (rw [if_neg (by decide +kernel)]; exact ⟨rfl, rfl⟩))
    (fun os started H enc _ => lifted os started H enc)

/-- THE STATEMENT -/
theorem proved : Rows.LeaseNoneSaid := over
#print axioms proved
end Go.Proofs.Ytggafipgfgbbiaa.leaseNone
