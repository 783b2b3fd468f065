/-
  The laws of layer 10 (cell), walked: each answers true.
  No condition.
-/
import Derived.Test.YtmkiijoljfinoaaCellW
import Derived.BigQuiet
import Derived.Deep.QuietTactic
namespace Go.Proofs.Ytmkiijoljfinoaa.Ce
open Go.RowKit
theorem massL (n : Int) (w : World) : Calls Try.prog 23 #[.int .i64 n] w fun e w' => e = .returned (.int .i64 (ms n)) ∧ w = w' := by
  by_cases h0 : n < 0
  · go_enter Try.func23, Try.ntmps23
    go_wp2
    go_ret
    exact ⟨ret_int (by unfold ms; repeat' split <;> omega), rfl⟩
  · by_cases h1 : 10000 < n
    · go_enter Try.func23, Try.ntmps23
      go_wp2
      go_ret
      exact ⟨ret_int (by unfold ms; repeat' split <;> omega), rfl⟩
    · go_enter Try.func23, Try.ntmps23
      go_wp2
      go_ret
      exact ⟨ret_int (by unfold ms; repeat' split <;> omega), rfl⟩
theorem ans (w : World) : Calls Try.prog 24 #[] w fun e w' => e = .returned (.bool true) ∧ w = w' := by
  have m1 : (ms (-1) == 0) = true := by decide
  have m2 : (ms 7 == 7) = true := by decide
  have m3 : ov 6 5 = true := by decide
  have m4 : ov 5 5 = false := by decide
  have m5 : nr 104 100 5 = true := by decide
  have m6 : nr 106 100 5 = false := by decide
  go_enter Try.func24, Try.ntmps24
  go_wp2_with (first | (go_at_call 25; refine (massT _ _).mono ?_; rintro e w' ⟨rfl, rfl⟩) | (go_at_call 26; refine (overT _ _ _).mono ?_; rintro e w' ⟨rfl, rfl⟩) | (go_at_call 27; refine (nearT _ _ _ _).mono ?_; rintro e w' ⟨rfl, rfl⟩))
  go_ret
  exact ⟨rfl, rfl⟩
theorem weighs (a b c : Int) (w : World) (wa : (Lit.int .i64 a).wf = true) (wb : (Lit.int .i64 b).wf = true) (wc : (Lit.int .i64 c).wf = true) :
    Calls Try.prog 8 #[.int .i64 a, .int .i64 b, .int .i64 c] w fun e w' => e = .returned (.bool true) ∧ Below w.heap.size w w' := by
  have h1 := ms_lo a
  have h2 := ms_hi a
  have h3 := ms_lo b
  have h4 := ms_hi b
  have m1 : (ms a == ms a) = true := by simp
  have o1 : (ov a b == decide (ms b < ms a)) = true := by unfold ov; simp
  by_cases hd : ms a - ms b < 0
  · have n1 : (nr a b c == decide (-(ms a - ms b) ≤ ms c)) = true := by unfold nr ab; rw [if_pos hd]; simp
    go_enter Try.func8, Try.ntmps8
    go_wp2_with (first | (go_at_call 24; refine (ans _).mono ?_; rintro e w' ⟨rfl, rfl⟩) | (go_at_call 23; refine (massL _ _).mono ?_; rintro e w' ⟨rfl, rfl⟩) | (go_at_call 25; refine (massT _ _).mono ?_; rintro e w' ⟨rfl, rfl⟩) | (go_at_call 26; refine (overT _ _ _).mono ?_; rintro e w' ⟨rfl, rfl⟩) | (go_at_call 27; refine (nearT _ _ _ _).mono ?_; rintro e w' ⟨rfl, rfl⟩))
    go_ret
    exact ⟨rfl, by repeat (first | exact Below.refl _ _ | apply Below.drew)⟩
  · have n1 : (nr a b c == decide (ms a - ms b ≤ ms c)) = true := by unfold nr ab; rw [if_neg hd]; simp
    go_enter Try.func8, Try.ntmps8
    go_wp2_with (first | (go_at_call 24; refine (ans _).mono ?_; rintro e w' ⟨rfl, rfl⟩) | (go_at_call 23; refine (massL _ _).mono ?_; rintro e w' ⟨rfl, rfl⟩) | (go_at_call 25; refine (massT _ _).mono ?_; rintro e w' ⟨rfl, rfl⟩) | (go_at_call 26; refine (overT _ _ _).mono ?_; rintro e w' ⟨rfl, rfl⟩) | (go_at_call 27; refine (nearT _ _ _ _).mono ?_; rintro e w' ⟨rfl, rfl⟩))
    go_ret
    exact ⟨rfl, by repeat (first | exact Below.refl _ _ | apply Below.drew)⟩
theorem sides (a b c d : Int) (w : World) (wa : (Lit.int .i64 a).wf = true) (wb : (Lit.int .i64 b).wf = true) (wc : (Lit.int .i64 c).wf = true) (wd : (Lit.int .i64 d).wf = true) :
    Calls Try.prog 9 #[.int .i64 a, .int .i64 b, .int .i64 c, .int .i64 d] w fun e w' => e = .returned (.bool true) ∧ Below w.heap.size w w' := by
  by_cases hlt : d < c
  · go_enter Try.func9, Try.ntmps9
    go_wp2_with (go_at_call 24; refine (ans _).mono ?_; rintro e w' ⟨rfl, rfl⟩)
    go_ret
    exact ⟨rfl, by repeat (first | exact Below.refl _ _ | apply Below.drew)⟩
  · have e2 := nr_self a c
    by_cases hn : nr a b c = true
    · have e3 := nr_more a b c d (by omega) hn
      have e1 : nr b a c = true := by rw [← nr_comm]; exact hn
      by_cases ho : ov a b = true
      · have e4 := ov_one a b ho
        go_enter Try.func9, Try.ntmps9
        go_wp2_with (first | (go_at_call 24; refine (ans _).mono ?_; rintro e w' ⟨rfl, rfl⟩) | (go_at_call 26; refine (overT _ _ _).mono ?_; rintro e w' ⟨rfl, rfl⟩) | (go_at_call 27; refine (nearT _ _ _ _).mono ?_; rintro e w' ⟨rfl, rfl⟩))
        go_ret
        exact ⟨rfl, by repeat (first | exact Below.refl _ _ | apply Below.drew)⟩
      · have ho' : ov a b = false := by simpa using ho
        clear ho
        go_enter Try.func9, Try.ntmps9
        go_wp2_with (first | (go_at_call 24; refine (ans _).mono ?_; rintro e w' ⟨rfl, rfl⟩) | (go_at_call 26; refine (overT _ _ _).mono ?_; rintro e w' ⟨rfl, rfl⟩) | (go_at_call 27; refine (nearT _ _ _ _).mono ?_; rintro e w' ⟨rfl, rfl⟩))
        go_ret
        exact ⟨rfl, by repeat (first | exact Below.refl _ _ | apply Below.drew)⟩
    · have hn' : nr a b c = false := by simpa using hn
      have e1 : nr b a c = false := by rw [← nr_comm]; exact hn'
      clear hn
      by_cases ho : ov a b = true
      · have e4 := ov_one a b ho
        go_enter Try.func9, Try.ntmps9
        go_wp2_with (first | (go_at_call 24; refine (ans _).mono ?_; rintro e w' ⟨rfl, rfl⟩) | (go_at_call 26; refine (overT _ _ _).mono ?_; rintro e w' ⟨rfl, rfl⟩) | (go_at_call 27; refine (nearT _ _ _ _).mono ?_; rintro e w' ⟨rfl, rfl⟩))
        go_ret
        exact ⟨rfl, by repeat (first | exact Below.refl _ _ | apply Below.drew)⟩
      · have ho' : ov a b = false := by simpa using ho
        clear ho
        go_enter Try.func9, Try.ntmps9
        go_wp2_with (first | (go_at_call 24; refine (ans _).mono ?_; rintro e w' ⟨rfl, rfl⟩) | (go_at_call 26; refine (overT _ _ _).mono ?_; rintro e w' ⟨rfl, rfl⟩) | (go_at_call 27; refine (nearT _ _ _ _).mono ?_; rintro e w' ⟨rfl, rfl⟩))
        go_ret
        exact ⟨rfl, by repeat (first | exact Below.refl _ _ | apply Below.drew)⟩
end Go.Proofs.Ytmkiijoljfinoaa.Ce
