/-
  What the table of ways' names holds when it is laid as the program's text lays it; the start's own heap lays it so.
  No condition.
-/
import Derived.Test.YtmkiijoljfinoaaDoorMotLaw
import Derived.ProofKit
import Derived.LaidMore
import Derived.Stop.Joined
namespace Go.Proofs.YtmkiijoljfinoaaDoor.Mo
set_option linter.unusedVariables false
set_option linter.unusedSimpArgs false
open Go.ChangeShapes Go.WideShapes Go.ChangeAt Go.WideMaps Go.WideElems Go.RowKit
theorem gN : Tryd.prog.globalNamed (Rows.motorNamesRow.laid.headD (default, .nil)).1 = some 0 := by kernel_rfl
theorem tN : (Tryd.prog.globals[0]?).map (·.type) = some 34 := by kernel_rfl
theorem door_met (os : Os) (args : Array Value) : laidMetH Tryd.prog Rows.motorNamesRow.laid ((World.doorLaid Tryd.prog 400 os).forCall (fun _ _ => 0) ⟨#[], args, []⟩).memory :=
  laidMetH_of_parts3 (fuel := 8) (laidMet_of_run' 8 (by kernel_rfl) (by kernel_rfl)) (by kernel_rfl) (by kernel_rfl)
theorem of_laid {W : World} (h : laidMetH Tryd.prog Rows.motorNamesRow.laid W) : Nm W := by
  rw [MakeChecks.laidMetH_plain _ _ _ (by kernel_rfl)] at h
  obtain ⟨ps, ⟨g0, t0, cs0, f0, p0, q0, hg0, ht0, hv0, hd0, _, _⟩, _, _⟩ := h
  obtain rfl := Option.some.inj (gN.symm.trans hg0)
  obtain rfl := Option.some.inj (tN.symm.trans ht0)
  have cell := World.var?_cell hg0 hv0
  obtain ⟨xs, m1, _, hx1, hlen, hn3, hel⟩ := DataW.trod_array Tryd.underlying34 hd0
  have cS : Tryd.prog.cellsOf 9 = 1 := by kernel_rfl
  have each : ∀ i, i < 3 → ∃ s : ByteArray, W.cell? ⟨0, i, none⟩ = some (.string s) ∧ (xs.map (·.1))[i]? = some (.lit (.string s.data.toList)) := by
    intro i hi
    have h1 := hel i hi
    have hxi : xs[i]? = some (xs[i]'(by omega)) := List.getElem?_eq_getElem (by omega)
    rw [hxi] at h1
    obtain ⟨s, e1, e2, _⟩ := DataW.trod_string Tryd.underlying9 h1
    refine ⟨s, ?_, ?_⟩
    · rw [cell i]
      rw [cS, Nat.mul_one] at e1
      have : (cs0.toList.drop i)[0]? = some (.string s) := by
        have h2 := congrArg (fun l : List Value => l[0]?) e1
        simpa [List.getElem?_take] using h2
      simpa [List.getElem?_drop] using this
    · rw [List.getElem?_map, hxi]
      simp [e2]
  have hd : xs.map (·.1) = [.lit (.string [115, 116, 105, 108, 108]), .lit (.string [117, 112]), .lit (.string [100, 111, 119, 110])] := by
    have := congrArg Prod.fst hx1
    exact (DataW.agg.inj this).symm
  rw [hd] at each
  obtain ⟨s0, c0, d0⟩ := each 0 (by omega)
  obtain ⟨s1, c1, d1⟩ := each 1 (by omega)
  obtain ⟨s2, c2, d2⟩ := each 2 (by omega)
  simp at d0 d1 d2
  have e : ∀ (s : ByteArray) (l : List UInt8), l = s.data.toList → s = ⟨l.toArray⟩ := fun s l h => by cases s; simp_all
  exact ⟨by rw [c0, e s0 _ d0], by rw [c1, e s1 _ d1], by rw [c2, e s2 _ d2]⟩
end Go.Proofs.YtmkiijoljfinoaaDoor.Mo
