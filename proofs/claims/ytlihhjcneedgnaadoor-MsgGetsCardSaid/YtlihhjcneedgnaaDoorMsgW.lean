/-
  msg's small calls, walked: within, known, two, four, number; the reference's num.
  Conditions: the slices read as said.
-/
import Derived.Test.YtlihhjcneedgnaaDoorMsgMath
import Derived.Test.YtlihhjcneedgnaaDoorOwn
import Derived.Test.YtlihhjcneedgnaaDoorProg
namespace Go.Proofs.YtlihhjcneedgnaaDoor.Mg
set_option linter.unusedVariables false
set_option linter.unusedSimpArgs false
open Go.RowKit Go.Proofs.YtlihhjcneedgnaaDoor.Ba Go.Proofs.YtlihhjcneedgnaaDoor.Mem
open Go.Proofs.YtlihhjcneedgnaaDoor.Byt (BV isB cells)
set_option maxRecDepth 100000
def inB (most : Int) (ns : List Int) : Bool := ns.all fun n => decide (0 ≤ n ∧ n ≤ most)
theorem inB_take_succ (most : Int) (ns : List Int) (k : Nat) (h : k < ns.length) : inB most (ns.take (k + 1)) = (inB most (ns.take k) && decide (0 ≤ ns.getD k 0 ∧ ns.getD k 0 ≤ most)) := by
  unfold inB
  rw [List.take_succ_eq_append_getElem h, List.all_append]
  simp [List.getD, h]
theorem inB_false (most : Int) (ns : List Int) (k : Nat) (h : k < ns.length) (hb : ¬ (0 ≤ ns.getD k 0 ∧ ns.getD k 0 ≤ most)) : inB most ns = false := by
  unfold inB
  rw [Bool.eq_false_iff]
  intro ha
  rw [List.all_eq_true] at ha
  have := ha _ (List.getElem_mem h)
  simp only [decide_eq_true_eq] at this
  apply hb
  simpa [List.getD, h] using this
theorem knownT (n : Int) (w : World) : Calls Tryd.prog 20 #[.int .i64 n] w fun e w' => e = .returned (.bool (decide (1 ≤ n ∧ n ≤ 16))) ∧ w = w' := by
  by_cases h1 : 1 ≤ n
  · by_cases h2 : n ≤ 16
    · go_enter Tryd.func20, Tryd.ntmps20
      go_wp2
      go_ret
      exact ⟨ret_bool (by simp [h1, h2]), rfl⟩
    · go_enter Tryd.func20, Tryd.ntmps20
      go_wp2
      go_ret
      exact ⟨ret_bool (by simp [h1, h2]), rfl⟩
  · go_enter Tryd.func20, Tryd.ntmps20
    go_wp2
    go_ret
    exact ⟨ret_bool (by simp; omega), rfl⟩
theorem withinT (most : Int) (g n : Nat) (ns : List Int) (w : World) (hB : Blk w g 3 (ns.map (Value.int .i64)).toArray) (hl : ns.length = n) (hn : n ≤ 1000) :
    Calls Tryd.prog 19 #[.int .i64 most, .slice (some ⟨g, 0, none⟩) n n] w fun e w' => e = .returned (.bool (inB most ns)) ∧ w = w' := by
  have HB := Lib.hid hB
  have HL := Lib.hid hl
  have hni : (n : Int) ≤ 1000 := by omega
  clear hB hl
  go_enter Tryd.func19, Tryd.ntmps19
  go_wp2
  go_loop [9] (fun i => ∃ k : Nat, k ≤ n ∧ i = .int .i64 k ∧ Hid (inB most (ns.take k) = true)) (fun i => n - (intOf i).toNat)
  case atStart => exact ⟨0, by omega, rfl, Lib.hid rfl⟩
  case round =>
    obtain ⟨k, hk, rfl, HO⟩ := hrel
    by_cases hlt : k < n
    · have hc : w.cell? ⟨g, k, none⟩ = some (.int .i64 (ns.getD k 0)) := by
        rw [HB.out.cell]
        have hk' : k < ns.length := by have := HL.out; omega
        simp [List.getD, hk']
      have HT := Lib.hid (inB_take_succ most ns k (by have := HL.out; omega))
      have HF := Lib.hid (inB_false most ns k (by have := HL.out; omega))
      generalize ns.getD k 0 = x at hc HT HF
      by_cases x0 : x < 0
      · go_wp2
        go_ret
        exact ⟨ret_bool (HF.out (by omega)).symm, rfl⟩
      · by_cases x1 : most < x
        · go_wp2
          go_ret
          exact ⟨ret_bool (HF.out (by omega)).symm, rfl⟩
        · go_wp2
          go_round
          case rel => exact ⟨k + 1, by omega, by go_num, Lib.hid (by rw [HT.out, HO.out]; simp; omega)⟩
          case measure => simp [intOf]; omega
    · obtain rfl : k = n := by omega
      have HF := Lib.hid (show inB most ns = true by have := HO.out; rwa [List.take_of_length_le (by have := HL.out; omega)] at this)
      go_wp2
      go_ret
      exact ⟨ret_bool HF.out.symm, rfl⟩
end Go.Proofs.YtlihhjcneedgnaaDoor.Mg
