/-
  What the table of messages' names holds when it is laid as the program's text lays it; the start's own heap lays it so.
  No condition.
-/
import Derived.Test.YtlihhjcneedgnaaDoorRows
import Derived.Test.YtlihhjcneedgnaaDoorMsgG
import Derived.ProofKit
import Derived.LaidMore
import Derived.Stop.Joined
namespace Go.Proofs.YtlihhjcneedgnaaDoor.Mg
set_option linter.unusedVariables false
set_option linter.unusedSimpArgs false
open Go.ChangeShapes Go.WideShapes Go.ChangeAt Go.WideMaps Go.WideElems Go.RowKit
theorem gN : Tryd.prog.globalNamed (Rows.msgNamesRow.laid.headD (default, .nil)).1 = some 0 := by kernel_rfl
theorem tN : (Tryd.prog.globals[0]?).map (·.type) = some 45 := by kernel_rfl
theorem door_met (os : Os) (args : Array Value) : laidMetH Tryd.prog Rows.msgNamesRow.laid ((World.doorLaid Tryd.prog 400 os).forCall (fun _ _ => 0) ⟨#[], args, []⟩).memory :=
  laidMetH_of_parts3 (fuel := 8) (laidMet_of_run' 8 (by kernel_rfl) (by kernel_rfl)) (by kernel_rfl) (by kernel_rfl)
theorem of_laid {W : World} (h : laidMetH Tryd.prog Rows.msgNamesRow.laid W) : Nm W := by
  rw [MakeChecks.laidMetH_plain _ _ _ (by kernel_rfl)] at h
  obtain ⟨ps, ⟨g0, t0, cs0, f0, p0, q0, hg0, ht0, hv0, hd0, _, _⟩, _, _⟩ := h
  obtain rfl := Option.some.inj (gN.symm.trans hg0)
  obtain rfl := Option.some.inj (tN.symm.trans ht0)
  have cell := World.var?_cell hg0 hv0
  obtain ⟨xs, m1, _, hx1, hlen, hn3, hel⟩ := DataW.trod_array Tryd.underlying45 hd0
  have cS : Tryd.prog.cellsOf 9 = 1 := by kernel_rfl
  have each : ∀ i, i < 17 → ∃ s : ByteArray, W.cell? ⟨0, i, none⟩ = some (.string s) ∧ (xs.map (·.1))[i]? = some (.lit (.string s.data.toList)) := by
    intro i hi
    have h1 := hel i hi
    have hxi : xs[i]? = some (xs[i]'(by omega)) := List.getElem?_eq_getElem (by omega)
    rw [hxi] at h1
    obtain ⟨s, e1, e2, _⟩ := DataW.trod_string Tryd.underlying9 h1
    refine ⟨s, ?_, ?_⟩
    · rw [cell i]
      rw [cS, Nat.mul_one] at e1
      have : (cs0.toList.drop i)[0]? = some (.string s) := by
        have h2 := congrArg (fun l : List Value => l[0]?) e1
        simpa [List.getElem?_take] using h2
      simpa [List.getElem?_drop] using this
    · rw [List.getElem?_map, hxi]
      simp [e2]
  have hd : xs.map (·.1) = [.lit (.string []), .lit (.string [104, 101, 108, 108, 111]), .lit (.string [119, 101, 108, 99, 111, 109, 101]), .lit (.string [114, 101, 113, 117, 101, 115, 116]), .lit (.string [103, 114, 97, 110, 116]), .lit (.string [113, 117, 101, 117, 101, 100]), .lit (.string [98, 117, 115, 121]), .lit (.string [100, 101, 110, 121]), .lit (.string [97, 114, 114, 105, 118, 101, 100]), .lit (.string [101, 110, 116, 101, 114, 101, 100]), .lit (.string [114, 105, 100, 101, 111, 107]), .lit (.string [114, 101, 106, 101, 99, 116]), .lit (.string [101, 120, 105, 116]), .lit (.string [101, 120, 105, 116, 101, 100]), .lit (.string [101, 120, 105, 116, 111, 107]), .lit (.string [114, 101, 110, 101, 119]), .lit (.string [101, 118, 105, 99, 116])] := by
    have := congrArg Prod.fst hx1
    exact (DataW.agg.inj this).symm
  rw [hd] at each
  have e : ∀ (s : ByteArray) (l : List UInt8), l = s.data.toList → s = ⟨l.toArray⟩ := fun s l h => by cases s; simp_all
  intro k h1 h2
  have h3 : k = 1 ∨ k = 2 ∨ k = 3 ∨ k = 4 ∨ k = 5 ∨ k = 6 ∨ k = 7 ∨ k = 8 ∨ k = 9 ∨ k = 10 ∨ k = 11 ∨ k = 12 ∨ k = 13 ∨ k = 14 ∨ k = 15 ∨ k = 16 := by omega
  obtain ⟨s, c, d⟩ := each k (by omega)
  rw [c]
  clear c each
  rcases h3 with rfl | rfl | rfl | rfl | rfl | rfl | rfl | rfl | rfl | rfl | rfl | rfl | rfl | rfl | rfl | rfl
  all_goals
    simp at d
    rw [e s _ d]
    rfl
end Go.Proofs.YtlihhjcneedgnaaDoor.Mg
