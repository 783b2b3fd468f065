/-
  Plain facts on frames in a stream: what the next payload is, that frames behind garbage are found, that a turned frame is none.
  No condition.
-/
import Derived.Test.YtfggnchfkoifeaaCrcMath
namespace Go.Proofs.Ytfggnchfkoifeaa.Fm
set_option linter.unusedVariables false
set_option linter.unusedSimpArgs false
open Go.Proofs.Ytfggnchfkoifeaa.Byt (isB)
open Go.Proofs.Ytfggnchfkoifeaa.Cm

def be4 (n : Int) : List Int := [n / 16777216 % 256, n / 65536 % 256, n / 256 % 256, n % 256]
def hd (zs : List Int) : List Int := 165 :: ((zs.length : Int) % 256) :: zs
/-- A payload's frame. -/
def frm (zs : List Int) : List Int := hd zs ++ be4 (crcN (hd zs))
theorem frm_length (zs : List Int) : (frm zs).length = zs.length + 6 := by simp [frm, hd, be4]
theorem be4_isB (n : Int) : ∀ z ∈ be4 n, isB z := by
  intro z hz
  simp only [be4, List.mem_cons, List.not_mem_nil, or_false] at hz
  unfold isB
  rcases hz with rfl | rfl | rfl | rfl <;> omega
theorem hd_isB {zs : List Int} (h : ∀ z ∈ zs, isB z) : ∀ z ∈ hd zs, isB z := by
  intro z hz
  simp only [hd, List.mem_cons] at hz
  rcases hz with rfl | rfl | hz
  · unfold isB; omega
  · unfold isB; omega
  · exact h z hz
theorem frm_isB {zs : List Int} (h : ∀ z ∈ zs, isB z) : ∀ z ∈ frm zs, isB z := by
  intro z hz
  rcases List.mem_append.1 hz with h1 | h1
  · exact hd_isB h z h1
  · exact be4_isB _ z h1

/-- The next payload of what waits, and what waits then. -/
def nextF : List Int → Option (List Int) × List Int
  | [] => (none, [])
  | x :: r =>
    if x ≠ 165 then nextF r
    else if r = [] then (none, x :: r)
    else if r.getD 0 0 < 1 ∨ 64 < r.getD 0 0 then nextF r
    else if r.length < (r.getD 0 0).toNat + 5 then (none, x :: r)
    else if (x :: r).take ((r.getD 0 0).toNat + 6) = frm (r.tail.take (r.getD 0 0).toNat) then
      (some (r.tail.take (r.getD 0 0).toNat), (x :: r).drop ((r.getD 0 0).toNat + 6))
    else nextF r

/-- A payload that comes out lies in what waited, as its frame. -/
theorem nextF_some : ∀ (l p rest : List Int), nextF l = (some p, rest) → 1 ≤ p.length ∧ p.length ≤ 64 ∧ ∃ i, l.drop i = frm p ++ rest
  | [], _, _, h => by simp [nextF] at h
  | x :: r, p, rest, h => by
    have up : nextF r = (some p, rest) → 1 ≤ p.length ∧ p.length ≤ 64 ∧ ∃ i, (x :: r).drop i = frm p ++ rest := fun h' => by
      obtain ⟨h1, h2, i, hi⟩ := nextF_some r p rest h'
      exact ⟨h1, h2, i + 1, by simpa using hi⟩
    rw [nextF] at h
    by_cases c1 : x ≠ 165
    · rw [if_pos c1] at h; exact up h
    rw [if_neg c1] at h
    by_cases c2 : r = []
    · rw [if_pos c2] at h; simp at h
    rw [if_neg c2] at h
    by_cases c3 : r.getD 0 0 < 1 ∨ 64 < r.getD 0 0
    · rw [if_pos c3] at h; exact up h
    rw [if_neg c3] at h
    by_cases c4 : r.length < (r.getD 0 0).toNat + 5
    · rw [if_pos c4] at h; simp at h
    rw [if_neg c4] at h
    by_cases c5 : (x :: r).take ((r.getD 0 0).toNat + 6) = frm (r.tail.take (r.getD 0 0).toNat)
    · rw [if_pos c5] at h
      simp only [Prod.mk.injEq, Option.some.injEq] at h
      obtain ⟨rfl, rfl⟩ := h
      have hl : (r.tail.take (r.getD 0 0).toNat).length = (r.getD 0 0).toNat := by
        rw [List.length_take, List.length_tail]; omega
      refine ⟨by omega, by omega, 0, ?_⟩
      rw [← c5, List.drop_zero, List.take_append_drop]
    · rw [if_neg c5] at h; exact up h
theorem nextF_less (l p rest : List Int) (h : nextF l = (some p, rest)) : rest.length + p.length + 6 ≤ l.length := by
  obtain ⟨_, _, i, hi⟩ := nextF_some l p rest h
  have := congrArg List.length hi
  rw [List.length_drop, List.length_append, frm_length] at this
  omega
/-- What waits behind a Next is an end of what waited. -/
theorem nextF_end : ∀ (l : List Int), ∃ i, (nextF l).2 = l.drop i
  | [] => ⟨0, by simp [nextF]⟩
  | x :: r => by
    obtain ⟨i, hi⟩ := nextF_end r
    have up : ∃ j, (nextF r).2 = (x :: r).drop j := ⟨i + 1, by simpa using hi⟩
    rw [nextF]
    by_cases c1 : x ≠ 165
    · rw [if_pos c1]; exact up
    rw [if_neg c1]
    by_cases c2 : r = []
    · rw [if_pos c2]; exact ⟨0, rfl⟩
    rw [if_neg c2]
    by_cases c3 : r.getD 0 0 < 1 ∨ 64 < r.getD 0 0
    · rw [if_pos c3]; exact up
    rw [if_neg c3]
    by_cases c4 : r.length < (r.getD 0 0).toNat + 5
    · rw [if_pos c4]; exact ⟨0, rfl⟩
    rw [if_neg c4]
    by_cases c5 : (x :: r).take ((r.getD 0 0).toNat + 6) = frm (r.tail.take (r.getD 0 0).toNat)
    · rw [if_pos c5]; exact ⟨_, rfl⟩
    · rw [if_neg c5]; exact up
/-- Garbage without the first byte of a frame is left out. -/
theorem nextF_junk (j l : List Int) (h : ∀ z ∈ j, z ≠ 165) : nextF (j ++ l) = nextF l := by
  induction j with
  | nil => rfl
  | cons x j ih =>
    rw [List.cons_append, nextF, if_pos (h x (by simp))]
    exact ih fun z hz => h z (by simp [hz])
/-- A frame that is all there. -/
theorem nextF_frame (p l : List Int) (h1 : 1 ≤ p.length) (h2 : p.length ≤ 64) : nextF (frm p ++ l) = (some p, l) := by
  have e : frm p ++ l = 165 :: ((p.length : Int) % 256) :: (p ++ (be4 (crcN (hd p)) ++ l)) := by simp [frm, hd]
  have hc : ((p.length : Int) % 256) = (p.length : Int) := by omega
  rw [e, hc, nextF, if_neg (by simp), if_neg (by simp)]
  have hg : (((p.length : Int) :: (p ++ (be4 (crcN (hd p)) ++ l))).getD 0 0) = (p.length : Int) := rfl
  rw [hg, if_neg (by omega), Int.toNat_natCast, if_neg (by simp [be4])]
  have ht : (((p.length : Int) :: (p ++ (be4 (crcN (hd p)) ++ l))).tail.take p.length) = p := by simp
  have hf : (165 :: (p.length : Int) :: (p ++ (be4 (crcN (hd p)) ++ l))) = frm p ++ l := by rw [e, hc]
  rw [ht, hf, if_pos (by rw [List.take_append_of_le_length (by rw [frm_length]; exact Nat.le_refl _), List.take_of_length_le (by rw [frm_length]; exact Nat.le_refl _)])]
  congr 1
  rw [List.drop_append_of_le_length (by rw [frm_length]; exact Nat.le_refl _), List.drop_of_length_le (by rw [frm_length]; exact Nat.le_refl _)]
  rfl
/-- A frame that is not all there waits. -/
theorem nextF_part (p l u : List Int) (h2 : p.length ≤ 64) (h1 : 1 ≤ p.length) (h : frm p = l ++ u) (hu : u ≠ []) (hl : l ≠ []) : nextF l = (none, l) := by
  have e : frm p = 165 :: ((p.length : Int) % 256) :: (p ++ be4 (crcN (hd p))) := by simp [frm, hd]
  have hlen := congrArg List.length h
  rw [frm_length, List.length_append] at hlen
  have hu' : 0 < u.length := List.length_pos_iff.2 hu
  rw [e] at h
  match l, hl with
  | [x], _ =>
    simp at h
    obtain ⟨rfl, _⟩ := h
    simp [nextF]
  | x :: c :: r, _ =>
    simp at h
    obtain ⟨rfl, rfl, _⟩ := h
    have hc : ((p.length : Int) % 256) = (p.length : Int) := by omega
    rw [hc, nextF, if_neg (by simp), if_neg (by simp)]
    have hg : (((p.length : Int) :: r).getD 0 0) = (p.length : Int) := rfl
    rw [hg, if_neg (by omega), Int.toNat_natCast, if_pos (by simp at hlen ⊢; omega)]
/-- A frame of which something is turned is none, by itself. -/
theorem turned (b f : List Int) (hl : f.length = b.length + 6) (hne : f ≠ frm b) (p rest : List Int) (h : nextF f = (some p, rest)) : p ≠ b := by
  rintro rfl
  obtain ⟨_, _, i, hi⟩ := nextF_some f p rest h
  have hlen := congrArg List.length hi
  rw [List.length_drop, List.length_append, frm_length] at hlen
  have h0 : i = 0 := by omega
  have hr : rest = [] := List.eq_nil_of_length_eq_zero (by omega)
  rw [h0, hr, List.drop_zero, List.append_nil] at hi
  exact hne hi

/-- All payloads, and what is left. -/
def framesN : Nat → List Int → List (List Int) × List Int
  | 0, l => ([], l)
  | n + 1, l => match nextF l with
    | (none, rest) => ([], rest)
    | (some p, rest) => (p :: (framesN n rest).1, (framesN n rest).2)
def frames (l : List Int) : List (List Int) × List Int := framesN (l.length + 1) l
theorem framesN_any : ∀ (n m : Nat) (l : List Int), l.length < n → l.length < m → framesN n l = framesN m l
  | 0, _, _, h, _ => by omega
  | _ + 1, 0, _, _, h => by omega
  | n + 1, m + 1, l, hn, hm => by
    rw [framesN, framesN]
    match e : nextF l with
    | (none, rest) => rfl
    | (some p, rest) =>
      have := nextF_less l p rest e
      simp only [framesN_any n m rest (by omega) (by omega)]
theorem frames_none (l rest : List Int) (h : nextF l = (none, rest)) : frames l = ([], rest) := by
  unfold frames; rw [framesN, h]
theorem frames_some (l p rest : List Int) (h : nextF l = (some p, rest)) : frames l = (p :: (frames rest).1, (frames rest).2) := by
  have := nextF_less l p rest h
  unfold frames
  rw [framesN, h]
  simp only [framesN_any l.length (rest.length + 1) rest (by omega) (by omega)]

/-- What is to come: each payload behind garbage, nothing behind the last one. -/
inductive G : List (List Int) → List Int → Prop
  | nil : G [] []
  | cons (p : List Int) (ps : List (List Int)) (j y : List Int) (hj : ∀ z ∈ j, z ≠ 165) (h1 : 1 ≤ p.length) (h2 : p.length ≤ 64) (hy : G ps y) : G (p :: ps) (j ++ frm p ++ y)
/-- Of what is to come a part l is there: what Next says. -/
theorem G_next (ps : List (List Int)) (l u : List Int) (h : G ps (l ++ u)) :
    (∃ rest, nextF l = (none, rest) ∧ G ps (rest ++ u) ∧ (u = [] → ps = [] ∧ rest = [])) ∨ (∃ p qs rest, ps = p :: qs ∧ nextF l = (some p, rest) ∧ G qs (rest ++ u)) := by
  generalize hx : l ++ u = x at h
  cases h with
  | nil =>
    have : l = [] ∧ u = [] := by simpa using hx
    obtain ⟨rfl, rfl⟩ := this
    exact .inl ⟨[], rfl, .nil, fun _ => ⟨rfl, rfl⟩⟩
  | cons p qs j y hj h1 h2 hy =>
    rw [List.append_assoc] at hx
    rcases List.append_eq_append_iff.1 hx with ⟨a, ha, hb⟩ | ⟨c, hc, hd'⟩
    · -- l within the garbage
      left
      have hl : ∀ z ∈ l, z ≠ 165 := fun z hz => hj z (by rw [ha]; simp [hz])
      refine ⟨[], ?_, ?_, ?_⟩
      · have := nextF_junk l [] hl
        rw [List.append_nil] at this
        rw [this]; rfl
      · rw [List.nil_append, hb, ← List.append_assoc]
        exact .cons p qs a y (fun z hz => hj z (by rw [ha]; simp [hz])) h1 h2 hy
      · intro hu
        rw [hu] at hb
        have := congrArg List.length hb
        rw [List.length_append, List.length_append, frm_length] at this
        simp only [List.length_nil] at this
        omega
    · -- l = j ++ c
      rw [hc, nextF_junk j c hj]
      rcases List.append_eq_append_iff.1 hd' with ⟨a, ha, hb⟩ | ⟨d, hd2, he⟩
      · -- the frame is all there
        right
        exact ⟨p, qs, a, rfl, by rw [ha]; exact nextF_frame p a h1 h2, by rw [← hb]; exact hy⟩
      · -- c is the head of the frame
        by_cases hd0 : d = []
        · subst hd0
          right
          refine ⟨p, qs, [], rfl, ?_, ?_⟩
          · have := nextF_frame p [] h1 h2
            rw [List.append_nil] at this
            rw [List.append_nil] at hd2
            rw [← hd2]; exact this
          · rw [he]; simpa using hy
        · left
          by_cases hc0 : c = []
          · subst hc0
            refine ⟨[], rfl, ?_, ?_⟩
            · rw [List.nil_append, he]
              rw [List.nil_append] at hd2
              rw [← hd2]
              exact .cons p qs [] y (by simp) h1 h2 hy
            · intro hu
              rw [hu] at he
              have : d = [] := by
                have := he.symm
                simp at this
                exact this.1
              exact absurd this hd0
          · refine ⟨c, nextF_part p c d h2 h1 hd2 hd0 hc0, ?_, ?_⟩
            · rw [he, ← List.append_assoc, ← hd2]
              exact .cons p qs [] y (by simp) h1 h2 hy
            · intro hu
              rw [hu] at he
              have : d = [] := by
                have := he.symm
                simp at this
                exact this.1
              exact absurd this hd0
end Go.Proofs.Ytfggnchfkoifeaa.Fm
