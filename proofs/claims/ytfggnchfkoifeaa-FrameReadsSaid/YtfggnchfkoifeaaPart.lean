/-
  Slices of slices of bytes that came in, read one by one; kept over new memory.
  No condition.
-/
import Derived.Test.YtfggnchfkoifeaaRows
import Derived.Test.YtfggnchfkoifeaaRws
import Derived.Deep.Slices
import Derived.ChangeSlices
namespace Go.Proofs.Ytfggnchfkoifeaa.Pa
set_option linter.unusedVariables false
set_option linter.unusedSimpArgs false
open Go.RowKit Go.Proofs.Ytfggnchfkoifeaa.Ba Go.Proofs.Ytfggnchfkoifeaa.Mem
open Go.Proofs.Ytfggnchfkoifeaa.Byt (BV isB cells)
structure PartV where
  A : Option Addr
  n : Nat
  c : Nat
  zs : List Int
instance : Inhabited PartV := ⟨⟨none, 0, 0, []⟩⟩
theorem bv_cells {w : World} {x : Addr} {len : Nat} {zs : List Int} (hl : len ≤ zs.length) (hm : len ≤ maxLen) (hc : ∀ i, i < zs.length → w.cell? (x.add i) = some (.int .u8 (zs.getD i 0))) (hw : ∀ n ∈ zs, (Lit.int .u8 n).wf = true) : BV w (some x) len (zs.take len) := by
  refine ⟨by rw [List.length_take]; omega, by unfold maxLen at hm; omega, fun z hz' => ?_, ?_⟩
  · have := bounds_u8 (hw z (List.mem_of_mem_take hz'))
    unfold isB; omega
  · rcases Nat.eq_zero_or_pos len with h0 | h0
    · exact .inl h0
    · obtain ⟨b, off, rfl, hc'⟩ := ints_at hc (by omega)
      refine .inr ⟨b, off, rfl, ?_, fun j hj => ?_⟩
      · have := hc' 0 (by omega)
        exact World.block_lt_of_cell? _ _ this
      · rw [hc' j (by omega)]
        congr 2
        simp [List.getD, List.getElem?_take, hj]
/-- The slice (address a, n elements) reads as these texts. -/
def Parts (w : World) (a : Option Addr) (n : Nat) (ps : Nat → PartV) : Prop :=
  n = 0 ∨ ∃ b off, a = some ⟨b, off, none⟩ ∧ ∀ i, i < n → w.cell? ⟨b, off + i, none⟩ = some (.slice (ps i).A (ps i).n (ps i).c) ∧ BV w (ps i).A (ps i).n (ps i).zs ∧ (ps i).n ≤ (ps i).c
theorem Parts.at_ {w : World} {a : Option Addr} {n : Nat} {ps : Nat → PartV} (h : Parts w a n ps) {k : Nat} (hk : k < n) : ∃ b off, a = some ⟨b, off, none⟩ ∧ ∀ i, i < n → w.cell? ⟨b, off + i, none⟩ = some (.slice (ps i).A (ps i).n (ps i).c) ∧ BV w (ps i).A (ps i).n (ps i).zs ∧ (ps i).n ≤ (ps i).c := by
  rcases h with h | h
  · omega
  · exact h
section
variable {H : Type} {enc : TypeId × Value → H} {w : World} {base : Nat} {spare : Nat → Bool} {held : Bool}
theorem Parts.open_ {fuel : Nat} {a : Option Addr} {len cap : Nat} {x : DataW H × List MemPlace} (h : DataW.trod enc Try.prog w base spare held fuel 37 [.slice a len cap] = some x) : ∃ ps, Parts w a len ps ∧ len ≤ 9223372036854775807 := by
  have ce : Try.prog.cellsOf 22 = 1 := by kernel_rfl
  rcases Go.Deep.open_slice Try.underlying37 h with ⟨hcs, _⟩ | ⟨a', len', cap', m, n, D, Pl, hcs, hb, hlc, hcm, hm, _, hx⟩
  · simp at hcs
    obtain ⟨rfl, rfl, rfl⟩ := hcs
    exact ⟨default, .inl rfl, by omega⟩
  · simp at hcs
    obtain ⟨rfl, rfl, rfl⟩ := hcs
    have hlm : len ≤ m := by rw [hm]; split <;> omega
    have each : ∀ i, i < len → ∃ p : PartV, w.cell? (a'.add (i * 1)) = some (.slice p.A p.n p.c) ∧ BV w p.A p.n p.zs ∧ p.n ≤ p.c := by
      intro i hi
      obtain ⟨cs', h1, h2⟩ := hx i (by omega)
      rw [ce] at h1
      obtain ⟨_, hlen, hcell⟩ := World.cells?_some h1
      have h0 := hcell 0 (by omega)
      have hadd : (a'.add (i * 1)).add 0 = a'.add (i * 1) := by simp [Addr.add]
      rw [hadd] at h0
      rcases Go.ChangeShapes.open_ints Try.underlying22 Try.underlying5 (by kernel_rfl) h2 with ⟨hcs, _⟩ | ⟨x, l, c, zs, hcs, _, hl, hm2, hz, _, hcl, hw⟩
      · subst hcs
        exact ⟨⟨none, 0, 0, []⟩, h0, BV.nil _ _, Nat.le_refl _⟩
      · subst hcs
        have hlz : l ≤ zs.length := by rw [hz]; split <;> omega
        exact ⟨⟨some x, l, c, zs.take l⟩, h0, bv_cells hlz (Nat.le_trans hl hm2) hcl hw, hl⟩
    obtain ⟨ps, hps⟩ := Go.Deep.choose_lt each
    refine ⟨ps, ?_, by unfold maxLen at hcm; omega⟩
    rcases Nat.eq_zero_or_pos len with h0 | h0
    · exact .inl h0
    · obtain ⟨b, off, idx⟩ := a'
      have c0 := (hps 0 h0).1
      cases idx with
      | none =>
        refine .inr ⟨b, off, rfl, fun i hi => ?_⟩
        have := hps i hi
        rw [Go.WideShapes.add_plain, Nat.mul_one] at this
        exact this
      | some q =>
        exfalso
        simp [World.cell?, Addr.add] at c0
        split at c0 <;> simp at c0
end
end Go.Proofs.Ytfggnchfkoifeaa.Pa
