/-
  msg.Name and msg.Robot; what the table of names holds.
  Conditions: what stands ahead of each.
-/
import Derived.Test.YtlihhjcneedgnaaDoorMsgD
namespace Go.Proofs.YtlihhjcneedgnaaDoor.Mg
set_option linter.unusedVariables false
set_option linter.unusedSimpArgs false
open Go.RowKit Go.Proofs.YtlihhjcneedgnaaDoor.Ba Go.Proofs.YtlihhjcneedgnaaDoor.Mem
open Go.Proofs.YtlihhjcneedgnaaDoor.Byt (BV isB cells)
set_option maxRecDepth 100000
attribute [local irreducible] Go.wpList
def nmS (n : Int) : ByteArray := if n = 1 then ⟨#[104, 101, 108, 108, 111]⟩ else if n = 2 then ⟨#[119, 101, 108, 99, 111, 109, 101]⟩ else if n = 3 then ⟨#[114, 101, 113, 117, 101, 115, 116]⟩ else if n = 4 then ⟨#[103, 114, 97, 110, 116]⟩ else if n = 5 then ⟨#[113, 117, 101, 117, 101, 100]⟩ else if n = 6 then ⟨#[98, 117, 115, 121]⟩ else if n = 7 then ⟨#[100, 101, 110, 121]⟩ else if n = 8 then ⟨#[97, 114, 114, 105, 118, 101, 100]⟩ else if n = 9 then ⟨#[101, 110, 116, 101, 114, 101, 100]⟩ else if n = 10 then ⟨#[114, 105, 100, 101, 111, 107]⟩ else if n = 11 then ⟨#[114, 101, 106, 101, 99, 116]⟩ else if n = 12 then ⟨#[101, 120, 105, 116]⟩ else if n = 13 then ⟨#[101, 120, 105, 116, 101, 100]⟩ else if n = 14 then ⟨#[101, 120, 105, 116, 111, 107]⟩ else if n = 15 then ⟨#[114, 101, 110, 101, 119]⟩ else if n = 16 then ⟨#[101, 118, 105, 99, 116]⟩ else ⟨#[]⟩
/-- What the table of names holds. -/
def Nm (w : World) : Prop := ∀ k : Nat, 1 ≤ k → k ≤ 16 → w.cell? ⟨0, k, none⟩ = some (.string (nmS k))
theorem Nm.keep {w w' : World} (k : Since w w') (h : Nm w) : Nm w' := fun i h1 h2 => keep_cell k (h i h1 h2)
theorem nmS_no (n : Int) (h : ¬ (1 ≤ n ∧ n ≤ 16)) : nmS n = ⟨#[]⟩ := by
  unfold nmS
  repeat' rw [if_neg (by omega)]
def robB (n : Int) : Bool := decide (n = 1 ∨ n = 3 ∨ n = 9 ∨ n = 13 ∨ n = 15)
theorem robT (n : Int) (w : World) : Calls Tryd.prog 15 #[.int .i64 n] w fun e w' => e = .returned (.bool (robB n)) ∧ w = w' := by
  by_cases h : n = 1 ∨ n = 3 ∨ n = 9 ∨ n = 13 ∨ n = 15
  · have hB : robB n = true := decide_eq_true h
    rw [hB]
    rcases h with rfl | rfl | rfl | rfl | rfl
    all_goals
      go_enter Tryd.func15, Tryd.ntmps15
      go_wp2
      go_ret
      exact ⟨rfl, rfl⟩
  · have hB : robB n = false := decide_eq_false h
    rw [hB]
    have h1 : n ≠ 1 := fun q => h (by simp [q])
    have h2 : n ≠ 3 := fun q => h (by simp [q])
    have h3 : n ≠ 9 := fun q => h (by simp [q])
    have h4 : n ≠ 13 := fun q => h (by simp [q])
    have h5 : n ≠ 15 := fun q => h (by simp [q])
    clear h hB
    go_enter Tryd.func15, Tryd.ntmps15
    go_wp2
    go_ret
    exact ⟨rfl, rfl⟩
set_option maxHeartbeats 4000000 in
theorem nameN (n : Int) (hk : decide (1 ≤ n ∧ n ≤ 16) = false) (w : World) : Calls Tryd.prog 14 #[.int .i64 n] w fun e w' => e = .returned (.string ⟨#[]⟩) ∧ w = w' := by
  have HK := Lib.hid hk
  clear hk
  go_enter Tryd.func14, Tryd.ntmps14
  go_upto_region 1 with fail
  have HS1 := Lib.hid (Since.refl w)
  refine wp_region_lit ?_
  refine wpList_q (by rfl) (.int .i64 n) ?he ?_
  case he => (first | rfl | (go_simp; (try with_reducible rfl)))
  (try simp only [Act.put, sA, sB, sC])
  refine wpList_wp (by rfl) (fun K hK => ?_)
  (try go_simp)
  refine (knownB n false _ HK.out).mono ?_
  rintro e w' ⟨rfl, rfl⟩
  (try go_wp2_with fail)
  refine hK.out _ _ ?_
  clear hK K
  (try simp only [Act.put, sA, sB, sC])
  refine wpList_q (by rfl) (.bool true) ?he ?_
  case he => (go_simp; (try with_reducible rfl))
  (try simp only [Act.put, sA, sB, sC])
  refine wpList_nil ?_
  go_upto_region 2 with fail
  refine wp_region_lit ?_
  refine wpList_q (by rfl) (.string { data := #[] }) ?he ?_
  case he => (first | rfl | (go_simp; (try with_reducible rfl)))
  (try simp only [Act.put, sA, sB, sC])
  refine wpList_nil ?_
  (try go_wp2_with fail)
  go_ret
  exact ⟨rfl, rfl⟩
set_option maxHeartbeats 4000000 in
theorem nameK (k : Nat) (s : ByteArray) (w : World) (hk : decide (1 ≤ (k : Int) ∧ (k : Int) ≤ 16) = true) (hc : w.cell? ⟨0, k, none⟩ = some (.string s)) : Calls Tryd.prog 14 #[.int .i64 (k : Int)] w fun e w' => e = .returned (.string s) ∧ w = w' := by
  have HK := Lib.hid hk
  clear hk
  have HC := Lib.hid hc
  clear hc
  have HB := Lib.hid (of_decide_eq_true HK.out)
  go_enter Tryd.func14, Tryd.ntmps14
  go_upto_region 1 with fail
  have HS1 := Lib.hid (Since.refl w)
  refine wp_region_lit ?_
  refine wpList_q (by rfl) (.int .i64 (k : Int)) ?he ?_
  case he => (first | rfl | (go_simp; (try with_reducible rfl)))
  (try simp only [Act.put, sA, sB, sC])
  refine wpList_wp (by rfl) (fun K hK => ?_)
  (try go_simp)
  refine (knownB (k : Int) true _ HK.out).mono ?_
  rintro e w' ⟨rfl, rfl⟩
  (try go_wp2_with fail)
  refine hK.out _ _ ?_
  clear hK K
  (try simp only [Act.put, sA, sB, sC])
  refine wpList_q (by rfl) (.bool false) ?he ?_
  case he => (go_simp; (try with_reducible rfl))
  (try simp only [Act.put, sA, sB, sC])
  refine wpList_nil ?_
  go_upto_region 3 with fail
  refine wp_region_lit ?_
  refine wpList_q (by rfl) (.int .i64 (k : Int)) ?he ?_
  case he => (first | rfl | (go_simp; (try with_reducible rfl)))
  (try simp only [Act.put, sA, sB, sC])
  refine wpList_q (by rfl) (.pointer (some ⟨0, k, none⟩)) ?he ?_
  case he => (have q := HB.out; go_simp; (first | done | omega | (rw [if_pos (by omega)]; simp)))
  (try simp only [Act.put, sA, sB, sC])
  refine wpList_q (by rfl) (.string s) ?he ?_
  case he => exact exec_at 9 _ _ HC.out rfl rfl Tryd.underlying9 rfl
  (try simp only [Act.put, sA, sB, sC])
  refine wpList_q (by rfl) (.string s) ?he ?_
  case he => (first | rfl | (go_simp; (try with_reducible rfl)))
  (try simp only [Act.put, sA, sB, sC])
  refine wpList_nil ?_
  (try go_wp2_with fail)
  go_ret
  exact ⟨rfl, rfl⟩
theorem nameT (n : Int) (w : World) (h : Nm w) : Calls Tryd.prog 14 #[.int .i64 n] w fun e w' => e = .returned (.string (nmS n)) ∧ w = w' := by
  by_cases hk : 1 ≤ n ∧ n ≤ 16
  · obtain ⟨k, rfl⟩ : ∃ k : Nat, n = k := ⟨n.toNat, by omega⟩
    exact nameK k (nmS k) w (decide_eq_true hk) (h k (by omega) (by omega))
  · rw [nmS_no n hk]
    exact nameN n (decide_eq_false hk) w
theorem nameV (n : Int) (s : ByteArray) (w : World) (h : Nm w) (hs : nmS n = s) : Calls Tryd.prog 14 #[.int .i64 n] w fun e w' => e = .returned (.string s) ∧ w = w' := by subst hs; exact nameT n w h
theorem robV (n : Int) (b : Bool) (w : World) (h : robB n = b) : Calls Tryd.prog 15 #[.int .i64 n] w fun e w' => e = .returned (.bool b) ∧ w = w' := by subst h; exact robT n w
end Go.Proofs.YtlihhjcneedgnaaDoor.Mg
