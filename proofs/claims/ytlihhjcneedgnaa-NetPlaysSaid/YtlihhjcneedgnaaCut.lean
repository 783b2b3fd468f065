/-
  Cuts and loops whose frames are told by their named slots alone: one letter for all others.
  No condition.
-/
import Derived.Test.YtlihhjcneedgnaaShort
import Derived.Deep.Cut
namespace Go.Proofs.Ytlihhjcneedgnaa.Ba
set_option linter.unusedVariables false
set_option linter.unusedSimpArgs false
open Go.RowKit Go.Proofs.Ytlihhjcneedgnaa.Mem
/-- These slots hold these values. -/
def FitsL (fr : Array Value) : List (Nat × Value) → Prop
  | [] => True
  | (k, v) :: m => fr[k]? = some v ∧ FitsL fr m
/-- A frame of n slots, of which these hold these values. -/
def Fits (fr : Array Value) (n : Nat) (m : List (Nat × Value)) : Prop := fr.size = n ∧ FitsL fr m
def look (k : Nat) (d : Value) : List (Nat × Value) → Value
  | [] => d
  | (j, v) :: m => bif Nat.beq j k then v else look k d m
/-- The frame of n slots with these values, and u elsewhere. -/
def fill (n : Nat) (u : Nat → Value) (m : List (Nat × Value)) : Array Value := ((List.range n).map (fun i => look i (u i) m)).toArray
theorem look_fits {fr : Array Value} {k : Nat} {d : Value} (hd : fr[k]? = some d) : ∀ {m : List (Nat × Value)}, FitsL fr m → look k d m = d
  | [], _ => rfl
  | (j, v) :: m, ⟨h1, h2⟩ => by
    unfold look
    cases hb : Nat.beq j k with
    | false => exact look_fits hd h2
    | true =>
      have := Nat.eq_of_beq_eq_true hb
      subst this
      rw [h1] at hd
      exact Option.some.inj hd
theorem Fits.open_ {fr : Array Value} {n : Nat} {m : List (Nat × Value)} (h : Fits fr n m) : ∃ u : Nat → Value, fr = fill n u m := by
  obtain ⟨hs, hm⟩ := h
  refine ⟨fun k => (fr[k]?).getD undef, ?_⟩
  apply Array.ext
  · simp [fill, hs]
  · intro i h1 h2
    have e : fr[i]? = some fr[i] := by simp [h1]
    have : (fill n (fun k => (fr[k]?).getD undef) m)[i] = look i ((fr[i]?).getD undef) m := by simp [fill]
    rw [this, e]
    exact (look_fits (by rw [e]; first | done | rfl) hm).symm
section
variable {P : Program} {a : Act} {w : World} {ds : List Deferred}
/-- A cut: R tells of the frames and worlds behind s. -/
theorem wp_ucut {s : Code} {K : Act → World → Prop} {Q' : Exit → Act → World → Prop} (R : Array Value → World → Prop)
    (rest : ∀ fr w', R fr w' → K ⟨fr, ds⟩ w')
    (first : ∀ (J K' : Act → World → Prop), (∀ fr w', R fr w' → J ⟨fr, ds⟩ w') → (∀ a' w', Met J a' w' → K' a' w') → s.wp P (Exit.then K' Q') a w) : s.wp P (Exit.then K Q') a w :=
  wp_cut (fun a' w' => ∃ fr, a' = ⟨fr, ds⟩ ∧ R fr w') (fun a' w' ⟨fr, e, h⟩ => by rw [e]; exact rest fr w' h)
    (fun J K' h1 h2 => first J K' (fun fr w' h => h1 _ _ ⟨fr, rfl, h⟩) h2)
theorem least_of {p : Nat → Prop} : ∀ n, p n → ∃ m, p m ∧ ∀ k, p k → m ≤ k := by
  intro n
  induction n using Nat.strongRecOn with
  | _ n ih =>
    intro hn
    by_cases h : ∃ k, k < n ∧ p k
    · obtain ⟨k, hk, hp⟩ := h; exact ih k hk hp
    · exact ⟨n, hn, fun k hk => Nat.le_of_not_lt fun hl => h ⟨k, hl, hk⟩⟩
/-- A loop: R n: what holds at a round's head where n bounds the rounds to come. -/
theorem wp_uloop {c : Code} {Q : Exit → Act → World → Prop} (R : Nat → Array Value → World → Prop) {fr0 : Array Value} (n0 : Nat) (h0 : R n0 fr0 w)
    (round : ∀ n fr wr, R n fr wr → ∀ (J K' : Act → World → Prop), (∀ n' fr' w', n' < n → R n' fr' w' → J ⟨fr', ds⟩ w') → (∀ a' w', Met J a' w' → K' a' w') → c.wp P (Exit.then K' Q) ⟨fr, ds⟩ wr) :
    (Code.loop c).wp P Q ⟨fr0, ds⟩ w := by
  classical
  let p : Act → World → Nat → Prop := fun a w n => ∃ fr, a = ⟨fr, ds⟩ ∧ R n fr w
  refine wp_loop (fun a w => ∃ n, p a w n) (fun a w => if h : ∃ m, p a w m ∧ ∀ k, p a w k → m ≤ k then h.choose else 0) ⟨n0, fr0, rfl, h0⟩ ?_
  rintro a w ⟨n1, hp1⟩
  have hm := least_of (p := p a w) n1 hp1
  obtain ⟨⟨fr, e, hr⟩, hmin⟩ := hm.choose_spec
  rw [dif_pos hm]
  generalize hm.choose = n at hr hmin
  subst e
  refine wp_mono (round n fr w hr (fun a' w' => ∃ n' fr', n' < n ∧ a' = ⟨fr', ds⟩ ∧ R n' fr' w') (fun a' w' => ∃ n' fr', n' < n ∧ a' = ⟨fr', ds⟩ ∧ R n' fr' w') (fun n' fr' w' h1 h2 => ⟨n', fr', h1, rfl, h2⟩) (fun _ _ h => h)) ?_
  intro e a' w' hq
  cases e with
  | normal =>
    obtain ⟨n', fr', hlt, e', hr'⟩ := hq
    have hm' := least_of (p := p a' w') n' ⟨fr', e', hr'⟩
    refine ⟨⟨n', fr', e', hr'⟩, ?_⟩
    rw [dif_pos hm']
    exact Nat.lt_of_le_of_lt (hm'.choose_spec.2 n' ⟨fr', e', hr'⟩) hlt
  | exit id => exact hq
  | goto l => exact hq
  | ret => exact hq
  | panic ch => exact hq
  | outgrown => exact hq
end
end Go.Proofs.Ytlihhjcneedgnaa.Ba
