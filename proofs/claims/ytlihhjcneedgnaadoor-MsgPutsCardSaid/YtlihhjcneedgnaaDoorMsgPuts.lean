/-
  Whatever comes in: MsgPuts answers true.
  No condition.
-/
import Derived.Test.YtlihhjcneedgnaaDoorRows
import Derived.WalkKit
import Derived.ProofKit
import Derived.OpenShut
import Derived.Lib.Hide
import Derived.ShutString
import Derived.ChangeOld
import Derived.Below
import Derived.SizedLaws
import Derived.LaidMore
import Derived.Stop.Joined
import Derived.SevenTiedAt
import Derived.Test.YtlihhjcneedgnaaDoorCards
import Derived.Test.YtlihhjcneedgnaaDoorTie
import Derived.Test.YtlihhjcneedgnaaDoorOpn
import Derived.Test.YtlihhjcneedgnaaDoorMsgLaid
namespace Go.Proofs.YtlihhjcneedgnaaDoor.msgPuts
set_option linter.unusedVariables false
set_option linter.unusedSimpArgs false
open Go.Proofs.YtlihhjcneedgnaaDoor Go.Proofs.YtlihhjcneedgnaaDoor.Mg
open Go.ChangeShapes Go.WideShapes Go.ChangeAt Go.RowKit
open Go.ChangeMaps (open_string shut_string)
set_option linter.unusedVariables false

theorem own : ownKnob Tryd.prog.godebug = none := by kernel_rfl
theorem laidOut : laidOutB Tryd.prog = true := by kernel_rfl

set_option maxRecDepth 100000 in
theorem lifted (os : Os) (started : os.Started) (H : Type) (enc : TypeId × Value → H) :
    ReturnsInHanded {} Tryd.checked os 3 .any (fun w args => (Rows.msgPutsSpec.pre enc Tryd.prog Tryd.f3 [] false w args ∧ laidMetH Tryd.prog Rows.msgPutsRow.laid w) ∧ sizedMet enc Tryd.prog Tryd.f3 (OpenSpec.ofChange Rows.msgPutsSpec) false w args)
      (Rows.msgPutsSpec.post enc Tryd.prog Tryd.f3 false true false false) := by
  refine returnsInHanded_of_change_and (C := Tryd.checked) (X := fun w _ => laidMetH Tryd.prog Rows.msgPutsRow.laid w) (fun _ _ _ hh h => h.of_heap hh) own started (by kernel_rfl) Tryd.func3
    (ChangeSpec.witness_shaped (enc := enc) (C := Tryd.checked) (os := os) (X := fun w _ => laidMetH Tryd.prog Rows.msgPutsRow.laid w) false (World.doorLaid Tryd.prog 400 os) #[.agg #[.int .i64 0, .int .i64 0, .int .i64 0, .int .i64 0, .bool false, .int .i64 0, .int .i64 0, .int .i64 0, .int .i64 0]] 8 rfl (World.shaped_of_RefB (by kernel_rfl) (by kernel_rfl)) (by kernel_rfl) (by kernel_rfl) (by kernel_rfl) (door_met os _)) ?_
  intro W base args ds gs before hval0 hW _ hsz0 hL0 _
  have hL := of_laid hL0
  have hsz : (DataW.weightsEach Tryd.prog (Tryd.f3.params.toList ++ Rows.msgPutsSpec.plain.varTypes Tryd.prog) (ds ++ gs)).all (· ≤ reachBytes) = true := hsz0
  have hval : ∀ (j : Nat) t v, Tryd.f3.params[j]? = some t → args[j]? = some v → Value.okWide Tryd.prog W .any base t v := hval0
  have hW' := hW
  obtain ⟨p, q, hA0, hV, rfl, hfz, hnd⟩ := hW
  have hA : DataW.TrodAll enc Tryd.prog W 0 (fun _ => true) true Tryd.f3.params.toList args.toList ds p := hA0
  rw [Tryd.params3] at hA hval hsz
  obtain ⟨v0, vs0, d0, ds0, p0, q0, hargs, rfl, rfl, h0, r0⟩ := trodAll_cons hA
  obtain ⟨rfl, rfl, rfl⟩ := trodAll_nil r0
  obtain rfl : args = #[v0] := by cases args; simp_all
  obtain ⟨rfl, rfl⟩ := trodVars_none hV
  have k0 := h0
  have lt0 : ∀ x ∈ p0, x.block < W.heap.size := by obtain ⟨m, hm⟩ := k0; exact DataW.trod_lt m _ _ _ hm
  obtain ⟨cs0, rfl, hsz0, hcc0⟩ := Opn.open_agg (ts := [3, 3, 3, 3, 4, 3, 3, 3, 3]) Tryd.underlying25 (by kernel_rfl) (by kernel_rfl) (hval 0 25 v0 rfl rfl)
  obtain ⟨c0_0, hc0_0, ho0_0⟩ := hcc0 0 3 rfl
  obtain ⟨x0_0, rfl, w0_0⟩ := Opn.cell_int Tryd.underlying3 ho0_0
  obtain ⟨c0_1, hc0_1, ho0_1⟩ := hcc0 1 3 rfl
  obtain ⟨x0_1, rfl, w0_1⟩ := Opn.cell_int Tryd.underlying3 ho0_1
  obtain ⟨c0_2, hc0_2, ho0_2⟩ := hcc0 2 3 rfl
  obtain ⟨x0_2, rfl, w0_2⟩ := Opn.cell_int Tryd.underlying3 ho0_2
  obtain ⟨c0_3, hc0_3, ho0_3⟩ := hcc0 3 3 rfl
  obtain ⟨x0_3, rfl, w0_3⟩ := Opn.cell_int Tryd.underlying3 ho0_3
  obtain ⟨c0_4, hc0_4, ho0_4⟩ := hcc0 4 4 rfl
  obtain ⟨x0_4, rfl⟩ := Opn.cell_bool Tryd.underlying4 ho0_4
  obtain ⟨c0_5, hc0_5, ho0_5⟩ := hcc0 5 3 rfl
  obtain ⟨x0_5, rfl, w0_5⟩ := Opn.cell_int Tryd.underlying3 ho0_5
  obtain ⟨c0_6, hc0_6, ho0_6⟩ := hcc0 6 3 rfl
  obtain ⟨x0_6, rfl, w0_6⟩ := Opn.cell_int Tryd.underlying3 ho0_6
  obtain ⟨c0_7, hc0_7, ho0_7⟩ := hcc0 7 3 rfl
  obtain ⟨x0_7, rfl, w0_7⟩ := Opn.cell_int Tryd.underlying3 ho0_7
  obtain ⟨c0_8, hc0_8, ho0_8⟩ := hcc0 8 3 rfl
  obtain ⟨x0_8, rfl, w0_8⟩ := Opn.cell_int Tryd.underlying3 ho0_8
  obtain rfl : cs0 = #[.int .i64 x0_0, .int .i64 x0_1, .int .i64 x0_2, .int .i64 x0_3, .bool x0_4, .int .i64 x0_5, .int .i64 x0_6, .int .i64 x0_7, .int .i64 x0_8] := Opn.arr_each (l := [.int .i64 x0_0, .int .i64 x0_1, .int .i64 x0_2, .int .i64 x0_3, .bool x0_4, .int .i64 x0_5, .int .i64 x0_6, .int .i64 x0_7, .int .i64 x0_8]) hsz0 (by
    refine Opn.each_cons hc0_0 ?_
    refine Opn.each_cons hc0_1 ?_
    refine Opn.each_cons hc0_2 ?_
    refine Opn.each_cons hc0_3 ?_
    refine Opn.each_cons hc0_4 ?_
    refine Opn.each_cons hc0_5 ?_
    refine Opn.each_cons hc0_6 ?_
    refine Opn.each_cons hc0_7 ?_
    refine Opn.each_cons hc0_8 ?_
    exact Opn.each_nil)
  clear hA0 hval0
  refine (puts ⟨x0_0, x0_1, x0_2, x0_3, x0_4, x0_5, x0_6, x0_7, x0_8⟩ W hL).mono fun e W' ⟨he, bel⟩ => ?_
  subst he
  exact ⟨_, rfl, _, _, _, [], _, [], hW', trodAll_mk1 (shut_bool Tryd.underlying4 _), (trodAll_cons_mk (Below.trod laidOut (by kernel_rfl) (of_decide_eq_true (by kernel_rfl)) k0 bel lt0) trodAll_mk0), rfl, Below.frame bel _, fun h => by cases h⟩

theorem over : Rows.msgPutsRow.holds Tryd.pinned (OpenSpec.ofChange Rows.msgPutsSpec) :=
  OpenClaim.holds_of_wide 3 Tryd.f3 rfl rfl rfl rfl rfl rfl rfl ⟨rfl, rfl, rfl, rfl, rfl⟩ rfl rfl rfl rfl rfl (by kernel_rfl) Tryd.func3 (by kernel_rfl)
    (of_decide_eq_true (by kernel_rfl)) (by unfold Func.isWrapper; first | (rw [if_pos (by decide +kernel)]; kernel_rfl) | (rw [if_neg (by decide +kernel)]; exact ⟨rfl, rfl⟩))
    (fun os started H enc _ => lifted os started H enc)

/-- THE STATEMENT: the tied card. -/
theorem proved : Rows.MsgPutsCardSaid :=
  Claim7.holds_tied_plain_at .later [] Rows.msgPutsCard.laidKinds true Rows.msgPutsCard.stood.harness false
    over (fun _ h => by cases h) (by kernel_rfl) (fun _ h => by cases h) msgPuts_row_tie rfl ⟨rfl, rfl⟩ (by kernel_rfl) rfl
    (fun f fn hf hfn => by
      obtain rfl : f = 3 := Option.some.inj ((show Tryd.prog.funcNamed Tryd.f3.name = some 3 by kernel_rfl).symm.trans hf) |>.symm
      obtain rfl : fn = Tryd.f3 := (Option.some.inj (Tryd.func3.symm.trans hfn)).symm
      exact ⟨by kernel_rfl, fun j t ht => by
        rw [Tryd.params3] at ht
        have hm : t ∈ [25] := by simpa using Array.mem_of_getElem? ht
        have hall : ([25].all fun u => !Tryd.prog.wantsStandIn u) = true := by kernel_rfl
        exact (show Tryd.prog.wantsStandIn t = false by simpa using List.all_eq_true.1 hall t hm)⟩)
    (by kernel_rfl)
#print axioms proved
end Go.Proofs.YtlihhjcneedgnaaDoor.msgPuts
