/-
  FrameFinds out of what comes in.
  No condition.
-/
import Derived.Test.YtfggnchfkoifeaaFraH
namespace Go.Proofs.Ytfggnchfkoifeaa.Fq
set_option linter.unusedVariables false
set_option linter.unusedSimpArgs false
open Go.RowKit Go.Proofs.Ytfggnchfkoifeaa.Ba Go.Proofs.Ytfggnchfkoifeaa.Mem
open Go.Proofs.Ytfggnchfkoifeaa.Byt (BV isB cells)
open Go.Proofs.Ytfggnchfkoifeaa.Pa (Parts PartV)
theorem findsF {H : Type} {enc : TypeId × Value → H} {x : DataW H × List MemPlace} (Al : Option Addr) (nl cl : Nat) (Aj : Option Addr) (nj cj : Nat) (js : List Int) (Ap : Option Addr) (np cp : Nat) (zs : List Int) (w : World)
    (h0 : ∃ m, DataW.trod enc Try.prog w 0 (fun _ => true) true m 37 (Value.cells (.slice Al nl cl)).toList = some x) (hj : BV w Aj nj js) (hp : BV w Ap np zs) (mp : np ≤ 140737488351232) :
    Calls Try.prog 8 #[.slice Al nl cl, .slice Aj nj cj, .slice Ap np cp] w fun e w' => e = .returned (.bool true) ∧ Since w w' := by
  obtain ⟨m, hm⟩ := h0
  obtain ⟨ps, hps, hl⟩ := Pa.Parts.open_ hm
  exact finds Al nl cl ps Aj nj cj js Ap np cp zs w hps hj hp hl mp
end Go.Proofs.Ytfggnchfkoifeaa.Fq
