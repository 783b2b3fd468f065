/-
  Whatever comes in: GatewayStale answers true.
  No condition.
-/
import Derived.Test.YtepfmfalebmcnaaGreatDoorRows
import Derived.WalkKit
import Derived.ProofKit
import Derived.OpenShut
import Derived.Lib.Hide
import Derived.ShutString
import Derived.ChangeOld
import Derived.Below
import Derived.SizedLaws
import Derived.LaidMore
import Derived.Stop.Joined
import Derived.SevenTiedAt
import Derived.Test.YtepfmfalebmcnaaGreatDoorCards
import Derived.Test.YtepfmfalebmcnaaGreatDoorTie
import Derived.Test.YtepfmfalebmcnaaGreatDoorQH16
import Derived.Test.YtepfmfalebmcnaaGreatDoorQL1
namespace Go.Proofs.YtepfmfalebmcnaaGreatDoor.gatewayStale
set_option linter.unusedVariables false
set_option linter.unusedSimpArgs false
open Go.Proofs.YtepfmfalebmcnaaGreatDoor Go.Proofs.YtepfmfalebmcnaaGreatDoor.Gw
open Go.ChangeShapes Go.WideShapes Go.ChangeAt Go.RowKit
open Go.ChangeMaps (open_string shut_string)
set_option linter.unusedVariables false

theorem own : ownKnob Tryz.prog.godebug = none := by kernel_rfl
theorem laidOut : laidOutB Tryz.prog = true := by kernel_rfl

/-- A slice of integers that came in: nil, or a row of 'cap' cells, the numbers 'zs', each fitting its kind. -/
def IsRow (k : IntKind) (w : World) (a : Option Addr) (len cap : Nat) (zs : List Int) : Prop :=
  (a = none ∧ len = 0 ∧ cap = 0 ∧ zs = []) ∨
  ∃ x, a = some x ∧ len ≤ cap ∧ cap ≤ maxLen ∧ zs.length = cap ∧ (∀ i, i < zs.length → w.cell? (x.add i) = some (.int k (zs.getD i 0))) ∧ ∀ n ∈ zs, (Lit.int k n).wf = true

set_option maxRecDepth 100000 in
theorem lifted (os : Os) (started : os.Started) (H : Type) (enc : TypeId × Value → H) :
    ReturnsInHanded {} Tryz.checked os 3 .any (fun w args => (Rows.gatewayStaleSpec.pre enc Tryz.prog Tryz.f3 [] false w args ∧ laidMetH Tryz.prog Rows.gatewayStaleRow.laid w) ∧ sizedMet enc Tryz.prog Tryz.f3 (OpenSpec.ofChange Rows.gatewayStaleSpec) false w args)
      (Rows.gatewayStaleSpec.post enc Tryz.prog Tryz.f3 false true false false) := by
  refine returnsInHanded_of_change_and (C := Tryz.checked) (X := fun w _ => laidMetH Tryz.prog Rows.gatewayStaleRow.laid w) (fun _ _ _ hh h => h.of_heap hh) own started (by kernel_rfl) Tryz.func3
    (ChangeSpec.witness_shaped (enc := enc) (C := Tryz.checked) (os := os) (X := fun w _ => laidMetH Tryz.prog Rows.gatewayStaleRow.laid w) false (World.doorLaid Tryz.prog 400 os) #[.agg #[.int .i64 0, .int .i64 0, .int .i64 0, .int .i64 0, .int .i64 0, .int .i64 0, .int .i64 0, .int .i64 0, .int .i64 0, .int .i64 0, .int .i64 0, .int .i64 0, .int .i64 0, .int .i64 0, .int .i64 0, .int .i64 0, .int .i64 0, .int .i64 0], .slice none 0 0, .agg #[.int .i64 0, .int .i64 0, .int .i64 0, .int .i64 0, .bool false, .int .i64 0, .int .i64 0, .int .i64 0, .int .i64 0], .slice none 0 0, .int .u8 0] 8 rfl (World.shaped_of_RefB (by kernel_rfl) (by kernel_rfl)) (by kernel_rfl) (by kernel_rfl) (by kernel_rfl) (door_met os _)) ?_
  intro W base args ds gs before hval0 hW _ hsz0 hL0 _
  have hL := of_laid hL0
  have hsz : (DataW.weightsEach Tryz.prog (Tryz.f3.params.toList ++ Rows.gatewayStaleSpec.plain.varTypes Tryz.prog) (ds ++ gs)).all (· ≤ reachBytes) = true := hsz0
  have hval : ∀ (j : Nat) t v, Tryz.f3.params[j]? = some t → args[j]? = some v → Value.okWide Tryz.prog W .any base t v := hval0
  have hW' := hW
  obtain ⟨p, q, hA0, hV, rfl, hfz, hnd⟩ := hW
  have hA : DataW.TrodAll enc Tryz.prog W 0 (fun _ => true) true Tryz.f3.params.toList args.toList ds p := hA0
  rw [Tryz.params3] at hA hval hsz
  obtain ⟨v0, vs0, d0, ds0, p0, q0, hargs, rfl, rfl, h0, r0⟩ := trodAll_cons hA
  obtain ⟨v1, vs1, d1, ds1, p1, q1, rfl, rfl, rfl, h1, r1⟩ := trodAll_cons r0
  obtain ⟨v2, vs2, d2, ds2, p2, q2, rfl, rfl, rfl, h2, r2⟩ := trodAll_cons r1
  obtain ⟨v3, vs3, d3, ds3, p3, q3, rfl, rfl, rfl, h3, r3⟩ := trodAll_cons r2
  obtain ⟨v4, vs4, d4, ds4, p4, q4, rfl, rfl, rfl, h4, r4⟩ := trodAll_cons r3
  obtain ⟨rfl, rfl, rfl⟩ := trodAll_nil r4
  obtain rfl : args = #[v0, v1, v2, v3, v4] := by cases args; simp_all
  obtain ⟨rfl, rfl⟩ := trodVars_none hV
  have k0 := h0
  have lt0 : ∀ x ∈ p0, x.block < W.heap.size := by obtain ⟨m, hm⟩ := k0; exact DataW.trod_lt m _ _ _ hm
  obtain ⟨cs0, rfl, hsz0, hcc0⟩ := Opn.open_agg (ts := [3, 3, 3, 3, 3, 3, 3, 3, 3, 3, 3, 3, 3, 3, 3, 3, 3, 3]) Tryz.underlying23 (by kernel_rfl) (by kernel_rfl) (hval 0 23 v0 rfl rfl)
  obtain ⟨c0_0, hc0_0, ho0_0⟩ := hcc0 0 3 rfl
  obtain ⟨x0_0, rfl, w0_0⟩ := Opn.cell_int Tryz.underlying3 ho0_0
  obtain ⟨c0_1, hc0_1, ho0_1⟩ := hcc0 1 3 rfl
  obtain ⟨x0_1, rfl, w0_1⟩ := Opn.cell_int Tryz.underlying3 ho0_1
  obtain ⟨c0_2, hc0_2, ho0_2⟩ := hcc0 2 3 rfl
  obtain ⟨x0_2, rfl, w0_2⟩ := Opn.cell_int Tryz.underlying3 ho0_2
  obtain ⟨c0_3, hc0_3, ho0_3⟩ := hcc0 3 3 rfl
  obtain ⟨x0_3, rfl, w0_3⟩ := Opn.cell_int Tryz.underlying3 ho0_3
  obtain ⟨c0_4, hc0_4, ho0_4⟩ := hcc0 4 3 rfl
  obtain ⟨x0_4, rfl, w0_4⟩ := Opn.cell_int Tryz.underlying3 ho0_4
  obtain ⟨c0_5, hc0_5, ho0_5⟩ := hcc0 5 3 rfl
  obtain ⟨x0_5, rfl, w0_5⟩ := Opn.cell_int Tryz.underlying3 ho0_5
  obtain ⟨c0_6, hc0_6, ho0_6⟩ := hcc0 6 3 rfl
  obtain ⟨x0_6, rfl, w0_6⟩ := Opn.cell_int Tryz.underlying3 ho0_6
  obtain ⟨c0_7, hc0_7, ho0_7⟩ := hcc0 7 3 rfl
  obtain ⟨x0_7, rfl, w0_7⟩ := Opn.cell_int Tryz.underlying3 ho0_7
  obtain ⟨c0_8, hc0_8, ho0_8⟩ := hcc0 8 3 rfl
  obtain ⟨x0_8, rfl, w0_8⟩ := Opn.cell_int Tryz.underlying3 ho0_8
  obtain ⟨c0_9, hc0_9, ho0_9⟩ := hcc0 9 3 rfl
  obtain ⟨x0_9, rfl, w0_9⟩ := Opn.cell_int Tryz.underlying3 ho0_9
  obtain ⟨c0_10, hc0_10, ho0_10⟩ := hcc0 10 3 rfl
  obtain ⟨x0_10, rfl, w0_10⟩ := Opn.cell_int Tryz.underlying3 ho0_10
  obtain ⟨c0_11, hc0_11, ho0_11⟩ := hcc0 11 3 rfl
  obtain ⟨x0_11, rfl, w0_11⟩ := Opn.cell_int Tryz.underlying3 ho0_11
  obtain ⟨c0_12, hc0_12, ho0_12⟩ := hcc0 12 3 rfl
  obtain ⟨x0_12, rfl, w0_12⟩ := Opn.cell_int Tryz.underlying3 ho0_12
  obtain ⟨c0_13, hc0_13, ho0_13⟩ := hcc0 13 3 rfl
  obtain ⟨x0_13, rfl, w0_13⟩ := Opn.cell_int Tryz.underlying3 ho0_13
  obtain ⟨c0_14, hc0_14, ho0_14⟩ := hcc0 14 3 rfl
  obtain ⟨x0_14, rfl, w0_14⟩ := Opn.cell_int Tryz.underlying3 ho0_14
  obtain ⟨c0_15, hc0_15, ho0_15⟩ := hcc0 15 3 rfl
  obtain ⟨x0_15, rfl, w0_15⟩ := Opn.cell_int Tryz.underlying3 ho0_15
  obtain ⟨c0_16, hc0_16, ho0_16⟩ := hcc0 16 3 rfl
  obtain ⟨x0_16, rfl, w0_16⟩ := Opn.cell_int Tryz.underlying3 ho0_16
  obtain ⟨c0_17, hc0_17, ho0_17⟩ := hcc0 17 3 rfl
  obtain ⟨x0_17, rfl, w0_17⟩ := Opn.cell_int Tryz.underlying3 ho0_17
  obtain rfl : cs0 = #[.int .i64 x0_0, .int .i64 x0_1, .int .i64 x0_2, .int .i64 x0_3, .int .i64 x0_4, .int .i64 x0_5, .int .i64 x0_6, .int .i64 x0_7, .int .i64 x0_8, .int .i64 x0_9, .int .i64 x0_10, .int .i64 x0_11, .int .i64 x0_12, .int .i64 x0_13, .int .i64 x0_14, .int .i64 x0_15, .int .i64 x0_16, .int .i64 x0_17] := Opn.arr_each (l := [.int .i64 x0_0, .int .i64 x0_1, .int .i64 x0_2, .int .i64 x0_3, .int .i64 x0_4, .int .i64 x0_5, .int .i64 x0_6, .int .i64 x0_7, .int .i64 x0_8, .int .i64 x0_9, .int .i64 x0_10, .int .i64 x0_11, .int .i64 x0_12, .int .i64 x0_13, .int .i64 x0_14, .int .i64 x0_15, .int .i64 x0_16, .int .i64 x0_17]) hsz0 (by
    refine Opn.each_cons hc0_0 ?_
    refine Opn.each_cons hc0_1 ?_
    refine Opn.each_cons hc0_2 ?_
    refine Opn.each_cons hc0_3 ?_
    refine Opn.each_cons hc0_4 ?_
    refine Opn.each_cons hc0_5 ?_
    refine Opn.each_cons hc0_6 ?_
    refine Opn.each_cons hc0_7 ?_
    refine Opn.each_cons hc0_8 ?_
    refine Opn.each_cons hc0_9 ?_
    refine Opn.each_cons hc0_10 ?_
    refine Opn.each_cons hc0_11 ?_
    refine Opn.each_cons hc0_12 ?_
    refine Opn.each_cons hc0_13 ?_
    refine Opn.each_cons hc0_14 ?_
    refine Opn.each_cons hc0_15 ?_
    refine Opn.each_cons hc0_16 ?_
    refine Opn.each_cons hc0_17 ?_
    exact Opn.each_nil)
  obtain ⟨a1, len1, cap1, rfl⟩ := okWide_slice Tryz.underlying24 (hval 1 24 v1 rfl rfl)
  have k1 := h1
  have lt1 : ∀ x ∈ p1, x.block < W.heap.size := by obtain ⟨m, hm⟩ := k1; exact DataW.trod_lt m _ _ _ hm
  have k2 := h2
  have lt2 : ∀ x ∈ p2, x.block < W.heap.size := by obtain ⟨m, hm⟩ := k2; exact DataW.trod_lt m _ _ _ hm
  obtain ⟨cs2, rfl, hsz2, hcc2⟩ := Opn.open_agg (ts := [3, 3, 3, 3, 4, 3, 3, 3, 3]) Tryz.underlying28 (by kernel_rfl) (by kernel_rfl) (hval 2 28 v2 rfl rfl)
  obtain ⟨c2_0, hc2_0, ho2_0⟩ := hcc2 0 3 rfl
  obtain ⟨x2_0, rfl, w2_0⟩ := Opn.cell_int Tryz.underlying3 ho2_0
  obtain ⟨c2_1, hc2_1, ho2_1⟩ := hcc2 1 3 rfl
  obtain ⟨x2_1, rfl, w2_1⟩ := Opn.cell_int Tryz.underlying3 ho2_1
  obtain ⟨c2_2, hc2_2, ho2_2⟩ := hcc2 2 3 rfl
  obtain ⟨x2_2, rfl, w2_2⟩ := Opn.cell_int Tryz.underlying3 ho2_2
  obtain ⟨c2_3, hc2_3, ho2_3⟩ := hcc2 3 3 rfl
  obtain ⟨x2_3, rfl, w2_3⟩ := Opn.cell_int Tryz.underlying3 ho2_3
  obtain ⟨c2_4, hc2_4, ho2_4⟩ := hcc2 4 4 rfl
  obtain ⟨x2_4, rfl⟩ := Opn.cell_bool Tryz.underlying4 ho2_4
  obtain ⟨c2_5, hc2_5, ho2_5⟩ := hcc2 5 3 rfl
  obtain ⟨x2_5, rfl, w2_5⟩ := Opn.cell_int Tryz.underlying3 ho2_5
  obtain ⟨c2_6, hc2_6, ho2_6⟩ := hcc2 6 3 rfl
  obtain ⟨x2_6, rfl, w2_6⟩ := Opn.cell_int Tryz.underlying3 ho2_6
  obtain ⟨c2_7, hc2_7, ho2_7⟩ := hcc2 7 3 rfl
  obtain ⟨x2_7, rfl, w2_7⟩ := Opn.cell_int Tryz.underlying3 ho2_7
  obtain ⟨c2_8, hc2_8, ho2_8⟩ := hcc2 8 3 rfl
  obtain ⟨x2_8, rfl, w2_8⟩ := Opn.cell_int Tryz.underlying3 ho2_8
  obtain rfl : cs2 = #[.int .i64 x2_0, .int .i64 x2_1, .int .i64 x2_2, .int .i64 x2_3, .bool x2_4, .int .i64 x2_5, .int .i64 x2_6, .int .i64 x2_7, .int .i64 x2_8] := Opn.arr_each (l := [.int .i64 x2_0, .int .i64 x2_1, .int .i64 x2_2, .int .i64 x2_3, .bool x2_4, .int .i64 x2_5, .int .i64 x2_6, .int .i64 x2_7, .int .i64 x2_8]) hsz2 (by
    refine Opn.each_cons hc2_0 ?_
    refine Opn.each_cons hc2_1 ?_
    refine Opn.each_cons hc2_2 ?_
    refine Opn.each_cons hc2_3 ?_
    refine Opn.each_cons hc2_4 ?_
    refine Opn.each_cons hc2_5 ?_
    refine Opn.each_cons hc2_6 ?_
    refine Opn.each_cons hc2_7 ?_
    refine Opn.each_cons hc2_8 ?_
    exact Opn.each_nil)
  obtain ⟨a3, len3, cap3, rfl⟩ := okWide_slice Tryz.underlying29 (hval 3 29 v3 rfl rfl)
  have k3 := h3
  have lt3 : ∀ x ∈ p3, x.block < W.heap.size := by obtain ⟨m, hm⟩ := k3; exact DataW.trod_lt m _ _ _ hm
  obtain ⟨z3, w3, m3⟩ : ∃ zs, IsRow .u8 W a3 len3 cap3 zs ∧ len3 ≤ 140737488351232 := by
    obtain ⟨fuel, hf⟩ := h3
    rcases open_ints Tryz.underlying29 Tryz.underlying5 (by kernel_rfl) hf with ⟨hcs, _⟩ | ⟨x, l, c, zs, hcs, _, hl, hm, hz, hx, hcell, hwz⟩
    · simp [Value.cells] at hcs
      obtain ⟨rfl, rfl, rfl⟩ := hcs
      exact ⟨[], .inl ⟨rfl, rfl, rfl, rfl⟩, by omega⟩
    · simp [Value.cells] at hcs
      obtain ⟨rfl, rfl, rfl⟩ := hcs
      have hd : d3 = .slice (lits .u8 (zs.take len3)) (lits .u8 (zs.drop len3)) := congrArg Prod.fst hx
      have hs := sized_slice hsz (j := 3) (t := 29) (e := 5) (elems := lits .u8 (zs.take len3)) (spare := lits .u8 (zs.drop len3)) rfl (by rw [hd]; rfl) Tryz.underlying29
      rw [show Tryz.prog.bytesOf 5 = 1 by kernel_rfl] at hs
      simp only [lits, List.length_map, List.length_take, List.length_drop, reachBytes] at hs
      have hz' : zs.length = cap3 := by simpa using hz
      exact ⟨zs, .inr ⟨_, rfl, hl, hm, hz', hcell, hwz⟩, by omega⟩
  have k4 := h4
  have lt4 : ∀ x ∈ p4, x.block < W.heap.size := by obtain ⟨m, hm⟩ := k4; exact DataW.trod_lt m _ _ _ hm
  obtain ⟨a4, rfl, rfl, rfl, w4⟩ := open_int Tryz.underlying5 (hval 4 5 v4 rfl rfl) h4
  clear hA0 hval0
  refine (Gw.staleL ⟨x0_0, x0_1, x0_2, x0_3, x0_4, x0_5, x0_6, x0_7, x0_8, x0_9, x0_10, x0_11, x0_12, x0_13, x0_14, x0_15, x0_16, x0_17⟩ ⟨x2_0, x2_1, x2_2, x2_3, x2_4, x2_5, x2_6, x2_7, x2_8⟩ w2_0 a4 w4 (Byt.BV.of_row w3) hL h1 (Gw.sz_at hsz (j := 1) rfl rfl)).mono fun e W' ⟨he, bel⟩ => ?_
  subst he
  exact ⟨_, rfl, _, _, _, [], _, [], hW', trodAll_mk1 (shut_bool Tryz.underlying4 _), (trodAll_cons_mk (Below.trod laidOut (by kernel_rfl) (of_decide_eq_true (by kernel_rfl)) k0 bel lt0) (trodAll_cons_mk (Below.trod laidOut (by kernel_rfl) (of_decide_eq_true (by kernel_rfl)) k1 bel lt1) (trodAll_cons_mk (Below.trod laidOut (by kernel_rfl) (of_decide_eq_true (by kernel_rfl)) k2 bel lt2) (trodAll_cons_mk (Below.trod laidOut (by kernel_rfl) (of_decide_eq_true (by kernel_rfl)) k3 bel lt3) (trodAll_cons_mk (Below.trod laidOut (by kernel_rfl) (of_decide_eq_true (by kernel_rfl)) k4 bel lt4) trodAll_mk0))))), rfl, Below.frame bel _, fun h => by cases h⟩

set_option maxHeartbeats 4000000 in
theorem jf : joinedFacts Tryz.pinned.checked.prog 3 Tryz.f3 Rows.gatewayStaleSpec Rows.gatewayStaleRow = true := by
  simp only [joinedFacts, Bool.and_eq_true]
  repeat' (refine And.intro ?_ ?_)
  all_goals (as_aux_lemma => kernel_rfl)

theorem over : Rows.gatewayStaleRow.holds Tryz.pinned (OpenSpec.ofChange Rows.gatewayStaleSpec) :=
  OpenClaim.holds_of_wide 3 Tryz.f3 rfl rfl rfl rfl rfl rfl rfl ⟨rfl, rfl, rfl, rfl, rfl⟩ rfl rfl rfl rfl rfl (by as_aux_lemma => kernel_rfl) Tryz.func3 jf
    (of_decide_eq_true (by as_aux_lemma => kernel_rfl)) (by unfold Func.isWrapper; first | (rw [if_pos (by decide +kernel)]; kernel_rfl) | (rw [if_neg (by decide +kernel)]; exact ⟨rfl, rfl⟩))
    (fun os started H enc _ => lifted os started H enc)

/-- THE STATEMENT: the tied card. -/
theorem proved : Rows.GatewayStaleCardSaid :=
  Claim7.holds_tied_plain_at .later [] Rows.gatewayStaleCard.laidKinds true Rows.gatewayStaleCard.stood.harness false
    over (fun _ h => by cases h) (by as_aux_lemma => kernel_rfl) (fun _ h => by cases h) gatewayStale_row_tie rfl ⟨rfl, rfl⟩ (by as_aux_lemma => kernel_rfl) rfl
    (fun f fn hf hfn => by
      obtain rfl : f = 3 := Option.some.inj ((show Tryz.prog.funcNamed Tryz.f3.name = some 3 by kernel_rfl).symm.trans hf) |>.symm
      obtain rfl : fn = Tryz.f3 := (Option.some.inj (Tryz.func3.symm.trans hfn)).symm
      exact ⟨by kernel_rfl, fun j t ht => by
        rw [Tryz.params3] at ht
        have hm : t ∈ [23, 24, 28, 29, 5] := by simpa using Array.mem_of_getElem? ht
        have hall : ([23, 24, 28, 29, 5].all fun u => !Tryz.prog.wantsStandIn u) = true := by kernel_rfl
        exact (show Tryz.prog.wantsStandIn t = false by simpa using List.all_eq_true.1 hall t hm)⟩)
    (by as_aux_lemma => kernel_rfl)
#print axioms proved
end Go.Proofs.YtepfmfalebmcnaaGreatDoor.gatewayStale
