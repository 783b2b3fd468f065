/-
  The reference's frames, walked: it returns, in new memory, the payloads of the bytes that it is handed, and what is left of them.
  Conditions: the slice reads as the bytes; at most 30000 of them.
-/
import Derived.Test.YtfggnchfkoifeaaFrmRef
import Derived.Test.YtfggnchfkoifeaaUpd
import Derived.Deep.RegionHeld3
import Derived.Deep.RegionWith
namespace Go.Proofs.Ytfggnchfkoifeaa.F2
set_option linter.unusedVariables false
set_option linter.unusedSimpArgs false
open Go.RowKit
open Go.Proofs.Ytfggnchfkoifeaa.Ba (blkOf)
open Go.Proofs.Ytfggnchfkoifeaa.Cm Go.Proofs.Ytfggnchfkoifeaa.Byt Go.Proofs.Ytfggnchfkoifeaa.Mem Go.Proofs.Ytfggnchfkoifeaa.Cw Go.Proofs.Ytfggnchfkoifeaa.Fm Go.Proofs.Ytfggnchfkoifeaa.Fw

/-- The slice values vs lead to rows of the call's own that hold the texts ps. -/
def Each (w : World) (base : Nat) : List Value → List (List Int) → Prop
  | [], [] => True
  | v :: vs, p :: ps => (∃ A c, v = .slice A p.length c ∧ w.ownsRow base 5 1 (.slice A p.length c) p.length (cells p)) ∧ Each w base vs ps
  | _, _ => False
theorem Each.below {w w' : World} {base : Nat} (hb : Below w.heap.size w w') : ∀ {vs : List Value} {ps : List (List Int)}, Each w base vs ps → Each w' base vs ps
  | [], [], _ => trivial
  | _ :: vs, _ :: ps, h => by
    obtain ⟨⟨A, c, e, q⟩, h2⟩ := h
    exact ⟨⟨A, c, e, own_below q hb⟩, Each.below hb (vs := vs) (ps := ps) h2⟩
theorem Each.other {w w' : World} {base base' n' : Nat} {v' : Value} {xs' : List Value} (h' : w.ownsRow base' 22 1 v' n' xs') (hg : w.grownBy w' v'.ownBlock) : ∀ {vs : List Value} {ps : List (List Int)}, Each w base vs ps → Each w' base vs ps
  | [], [], _ => trivial
  | _ :: vs, _ :: ps, h => by
    obtain ⟨⟨A, c, e, q⟩, h2⟩ := h
    exact ⟨⟨A, c, e, own_other q h' (by decide) hg⟩, Each.other h' hg (vs := vs) (ps := ps) h2⟩
theorem Each.snoc {w : World} {base : Nat} {A : Option Addr} {c : Nat} {p : List Int} (q : w.ownsRow base 5 1 (.slice A p.length c) p.length (cells p)) : ∀ {vs : List Value} {ps : List (List Int)}, Each w base vs ps → Each w base (vs ++ [.slice A p.length c]) (ps ++ [p])
  | [], [], _ => ⟨⟨A, c, rfl, q⟩, trivial⟩
  | _ :: vs, _ :: ps, h => ⟨h.1, Each.snoc q (vs := vs) (ps := ps) h.2⟩
/-- What Frames hands back. -/
def FsOut (a : Option Addr) (zs : List Int) (w : World) (e : Ending) (w' : World) : Prop :=
  ∃ v vs L m cl, e = .returned (.tuple #[v, .slice L m cl]) ∧ w'.ownsRow w.heap.size 22 1 v (frames zs).1.length vs ∧ Each w' w.heap.size vs (frames zs).1 ∧ BV w' L m (frames zs).2 ∧ Below w.heap.size w w' ∧ (m = 0 ∨ ∀ g ∈ blkOf L, g ∈ blkOf a)
theorem infoS : (Try.prog.info? 22).map (fun i => (i.zero, i.size, i.bytes)) = some (some (.slice none 0 0), 1, 24) := by kernel_rfl
def lenV : Value → Nat
  | .slice _ n _ => n
  | _ => 0
theorem frames_tail (x : Int) (r : List Int) (h : nextF (x :: r) = nextF r) : frames (x :: r) = frames r := by
  match e : nextF r with
  | (none, rest) => rw [frames_none _ _ (h.trans e), frames_none _ _ e]
  | (some p, rest) => rw [frames_some _ _ _ (h.trans e), frames_some _ _ _ e]
set_option maxRecDepth 100000 in
set_option maxHeartbeats 2000000 in
theorem framesR (a : Option Addr) (n0 cap0 : Nat) (zs : List Int) (w : World) (h : BV w a n0 zs) (hn : n0 ≤ 30000) (hcap : n0 ≤ cap0) :
    Calls Try.prog 19 #[.slice a n0 cap0] w (FsOut a zs w) := by
  go_enter Try.func19, Try.ntmps19
  go_wp2
  go_loopw [0, 4, 5] (fun s o _ wr => ∃ (A : Option Addr) (n c : Nat) (l : List Int) (vs : List Value) (ps : List (List Int)), s = .slice A n c ∧ n ≤ c ∧ n ≤ 30000 ∧ BV w A n l ∧
      wr.ownsRow w.heap.size 22 1 o ps.length vs ∧ Each wr w.heap.size vs ps ∧ Below w.heap.size w wr ∧ Hid (frames zs = (ps ++ (frames l).1, (frames l).2)) ∧ ps.length + n ≤ 30000 ∧ Hid (∀ g ∈ blkOf A, g ∈ blkOf a)) (fun s _ _ _ => lenV s)
  case atStart => exact ⟨a, n0, cap0, zs, [], [], rfl, hcap, hn, h, ⟨by simp, .inl ⟨rfl, rfl⟩⟩, trivial, Below.refl _ _, Lib.hid (by simp), by simpa using hn, Lib.hid (fun g hg => hg)⟩
  case round =>
    obtain ⟨A, n, c, l, vs, ps, rfl, hnc, hn3, hb, hown, heach, hbel, HF, hcnt, HIN⟩ := hrel
    have hb' := hb.below hbel
    by_cases hz : n = 0
    · have HO := Lib.hid hown
      have HE := Lib.hid heach
      have HB := Lib.hid hbel
      have hl : l = [] := List.eq_nil_of_length_eq_zero (by rw [hb.1, hz])
      rw [hl] at HF
      have hle : n ≤ 0 := by omega
      clear hown heach hbel hz hl hb hb'
      go_wp2
      go_ret2
      have e : frames zs = (ps, []) := by
        have := HF.out
        rw [frames_none [] [] rfl] at this
        simpa using this
      refine ⟨_, vs, none, 0, 0, rfl, ?_, ?_, ?_, HB.out, .inl rfl⟩
      · rw [e]; exact HO.out
      · rw [e]; exact HE.out
      · rw [e]; exact BV.nil _ _
    · obtain ⟨b, off, rfl, hblt, hcell⟩ := hb'.addr hz
      cases l with
      | nil => exact absurd hb.1.symm hz
      | cons x r =>
        have hx := hcell 0 (by omega)
        rw [show (x :: r).getD 0 0 = x from rfl, Nat.add_zero] at hx
        have hpos : 0 < n := by omega
        have HO := Lib.hid hown
        have HE := Lib.hid heach
        have HB := Lib.hid hbel
        have HC := Lib.hid hcell
        have HL : Hid (r.length + 1 = n) := Lib.hid (by have := hb.1; simpa using this)
        clear hown heach hbel hcell hz hb'
        by_cases hx5 : x = 165
        · subst hx5
          have HX := HF
          cases r with
          | nil =>
            have hn1 : n ≤ 1 := by have := HL.out; simp at this; omega
            go_wp2
            go_ret2
            have e : frames zs = (ps, [165]) := by
              have := HF.out
              rw [frames_none [165] [165] (by simp [nextF])] at this
              simpa using this
            refine ⟨_, vs, _, _, _, rfl, ?_, ?_, ?_, HB.out, .inr HIN.out⟩
            · rw [e]; exact HO.out
            · rw [e]; exact HE.out
            · rw [e]; exact hb.below HB.out
          | cons z r =>
            have hn2 : 2 ≤ n := by have := HL.out; simp at this; omega
            have hz1 := HC.out 1 (by omega)
            rw [show (165 :: z :: r).getD 1 0 = z from rfl] at hz1
            have hzB := hb.2.2.1 z (by simp)
            obtain ⟨P, rfl⟩ := Int.eq_ofNat_of_zero_le hzB.1
            have hP : P < 256 := by have := hzB.2; omega
            clear hzB
            by_cases hP0 : (P : Int) < 1
            · have HT : Hid (frames zs = (ps ++ (frames ((P : Int) :: r)).1, (frames ((P : Int) :: r)).2)) := Lib.hid (by
                rw [← frames_tail 165 ((P : Int) :: r) (by rw [nextF, if_neg (by simp), if_neg (by simp), if_pos (.inl (by simpa using hP0))])]
                exact HF.out)
              have QQ : BV w (some ⟨b, off + 1, none⟩) (n - 1) ((P : Int) :: r) := hb.drop (k := 1) (by omega)
              clear HX
              go_wp2
              go_roundw
              case rel => exact ⟨_, _, _, ((P : Int) :: r), vs, ps, rfl, by omega, by omega, QQ, HO.out, HE.out, HB.out, HT, by omega, Lib.hid (by intro g hg; refine HIN.out g ?_; first | exact hg | (simp only [blkOf] at hg ⊢; exact hg) | (split at hg <;> exact hg) | (split at hg <;> simpa [blkOf] using hg))⟩
              case measure => simp [lenV]; omega
            · by_cases hP64 : 64 < (P : Int)
              · have HT : Hid (frames zs = (ps ++ (frames ((P : Int) :: r)).1, (frames ((P : Int) :: r)).2)) := Lib.hid (by
                  rw [← frames_tail 165 ((P : Int) :: r) (by rw [nextF, if_neg (by simp), if_neg (by simp), if_pos (.inr (by simpa using hP64))])]
                  exact HF.out)
                have QQ : BV w (some ⟨b, off + 1, none⟩) (n - 1) ((P : Int) :: r) := hb.drop (k := 1) (by omega)
                clear HX
                go_wp2
                go_roundw
                case rel => exact ⟨_, _, _, ((P : Int) :: r), vs, ps, rfl, by omega, by omega, QQ, HO.out, HE.out, HB.out, HT, by omega, Lib.hid (by intro g hg; refine HIN.out g ?_; first | exact hg | (simp only [blkOf] at hg ⊢; exact hg) | (split at hg <;> exact hg) | (split at hg <;> simpa [blkOf] using hg))⟩
                case measure => simp [lenV]; omega
              · by_cases hshort : (n : Int) < (P : Int) + 6
                · have hnf : nextF (165 :: (P : Int) :: r) = (none, 165 :: (P : Int) :: r) := by
                    rw [nextF, if_neg (by simp), if_neg (by simp), if_neg (by simp; omega), if_pos (by have := HL.out; simp at this ⊢; omega)]
                  have HN := Lib.hid hnf
                  clear hnf
                  go_wp2
                  go_ret2
                  have e : frames zs = (ps, 165 :: (P : Int) :: r) := by
                    have := HF.out
                    rw [frames_none _ _ HN.out] at this
                    simpa using this
                  refine ⟨_, vs, _, _, _, rfl, ?_, ?_, ?_, HB.out, .inr HIN.out⟩
                  · rw [e]; exact HO.out
                  · rw [e]; exact HE.out
                  · rw [e]; exact hb.below HB.out
                · obtain ⟨p, hp⟩ : ∃ p, p = r.take P := ⟨_, rfl⟩
                  obtain ⟨tk, htk⟩ : ∃ tk, tk = (165 :: (P : Int) :: r).take (P + 6) := ⟨_, rfl⟩
                  have hrl : P + 4 ≤ r.length := by have := HL.out; simp at this; omega
                  have hpl : p.length = P := by rw [hp, List.length_take]; omega
                  have qp : BV w (some ⟨b, off + 2, none⟩) P p := by
                    have h2 := (hb.drop (k := 2) (by omega)).cut (k := P) (by omega)
                    rw [hp]; exact h2
                  have qt : BV w (some ⟨b, off, none⟩) (P + 6) tk := by
                    rw [htk]; exact hb.cut (by omega)
                  have hpB := qp.2.2.1
                  have htB := qt.2.2.1
                  have hcb : ∀ W, Since wr W → (convert 22 9 (.slice (some ⟨b, off, none⟩) (P + 6) c)).run Try.prog W = .ok (.string (strOfNums tk)) W :=
                    fun W hW => ((qt.below HB.out).since hW).str 22 5 9 Try.underlying22 Try.underlying5 Try.underlying9 c
                  have s1 : IntKind.i64.wrap (2 + (P : Int)) = 2 + (P : Int) := IntWalk.i64_in _ (by omega)
                  have s2 : IntKind.i64.wrap ((P : Int) + 6) = (P : Int) + 6 := IntWalk.i64_in _ (by omega)
                  have s3 : (2 + (P : Int)).toNat = 2 + P := by omega
                  have s4 : ((P : Int) + 6).toNat = P + 6 := by omega
                  have s5 : (2 : Int) ≤ 2 + (P : Int) := by omega
                  have s6 : 2 + (P : Int) ≤ (c : Int) := by omega
                  have s7 : (0 : Int) ≤ (P : Int) + 6 := by omega
                  have s8 : (P : Int) + 6 ≤ (c : Int) := by omega
                  have s9 : ¬ c = 2 := by omega
                  have hnf : nextF (165 :: (P : Int) :: r) = if tk = frm p then (some p, (165 :: (P : Int) :: r).drop (P + 6)) else nextF ((P : Int) :: r) := by
                    have g : ((P : Int) :: r).getD 0 0 = (P : Int) := rfl
                    rw [nextF, if_neg (by simp), if_neg (by simp), g, if_neg (by omega), Int.toNat_natCast, if_neg (by simp; omega), htk, hp]
                    rfl
                  have HNF := Lib.hid hnf
                  have HPL := Lib.hid hpl
                  have HPB := Lib.hid hpB
                  have QP := Lib.hid qp
                  have ht := str_tl (frm_isB hpB) htB
                  clear hnf hpl hpB htB qp qt hp htk hrl
                  have hP1000 : P ≤ 1000 := by omega
                  obtain ⟨i0, hi0, hz0, hz1, hz2⟩ := info_parts infoS
                  by_cases heq : tk = frm p
                  · have HT : Hid (frames zs = (ps ++ [p] ++ (frames ((165 :: (P : Int) :: r).drop (P + 6))).1, (frames ((165 :: (P : Int) :: r).drop (P + 6))).2)) := Lib.hid (by
                      have h1 := HF.out
                      rw [frames_some _ _ _ (HNF.out.trans (if_pos heq))] at h1
                      rw [h1]; simp)
                    have QQ : BV w (some ⟨b, off + (P + 6), none⟩) (n - (P + 6)) ((165 :: (P : Int) :: r).drop (P + 6)) := hb.drop (k := P + 6) (by omega)
                    have ht2 : ((strOfNums (frm p)).toList == (strOfNums tk).toList) = true := by rw [ht]; exact decide_eq_true heq
                    clear ht
                    have HEQ := Lib.hid heq
                    clear heq
                    go_wp2
                    have hs0 : Since wr wr.drew := Since.drew wr
                    go_region_with (first | (go_at_call 17; have qq := (QP.out.below HB.out).since hs0; (with_reducible refine (frameR _ _ _ _ _ qq hP1000).mono ?_); clear qq; rintro e w3 ⟨A2, c2, rfl, hown2, hb2⟩; have hs3 : Since wr w3 := hs0.trans hb2; have hcv := (BV.of_own hown2 (frm_isB HPB.out)).str 22 5 9 Try.underlying22 Try.underlying5 Try.underlying9 c2))
                    all_goals
                      have hB3 : Below wr.heap.size wr w3 := hs3
                      have qs : BV w3 (some ⟨b, off + 2, none⟩) P p := (QP.out.below HB.out).below hB3
                      have ho3 := own_below HO.out hB3
                      have he3 := Each.below hB3 HE.out
                      have hB03 := HB.out.trans (hB3.mono HB.out.size)
                      clear s1 s2 hcb hcv hs3 hs0 hown2 hb2
                      by_cases hcP : c = P + 6
                      have QC : BV w (some ⟨b, off, none⟩) (n - (P + 6)) ((165 :: (P : Int) :: r).drop (P + 6)) := ⟨QQ.1, QQ.2.1, QQ.2.2.1, .inl (by omega)⟩
                      rotate_left
                      have QC := QQ
                      all_goals
                        have hb0 : w.heap.size ≤ w3.heap.size := hB03.size
                        have hpsz : ps.length ≤ 30000 := by omega
                        have HB03 := Lib.hid hB03
                        have HE3 := Lib.hid he3
                        clear hB03 he3 hB3
                        go_wp2_with (first | (at_builtin; refine wpList_append_b _ rfl (.tmp 66) (.tmp 70) _ rfl w3.heap.size 5 Try.underlying22 infoB (.slice (some ⟨w3.heap.size, 0, none⟩) 0 0) 0 [] rfl (own_empty w3 _ 1) (some ⟨b, off + 2, none⟩) P _ p rfl (qs.alloc _) (by omega) (by simp) ?_; intro A3 c3 w4 hown3 hg3 hb3; simp only [Nat.zero_add, List.nil_append] at hown3; have hb34 : Below w3.heap.size w3 w4 := ((Below.refl _ _).alloc (Nat.le_refl _) _).trans hb3; have ho4 := own_below ho3 hb34; have hsz4 := hb34.size) | (at_builtin; refine wpList_append_1 rfl (.tmp 65) (.tmp 72) _ rfl w.heap.size 22 (.slice none 0 0) 24 Try.underlying37 infoS rfl _ ps.length vs rfl ho4 (.slice A3 P c3) rfl rfl (by unfold maxLen; omega) (by omega) (by omega) ?_; intro v5 w5 hown5 hg5 hb5))
                        have e4 := Each.below hb34 HE3.out
                        have e4' := Each.below ((Below.refl w4.heap.size w4).alloc (Nat.le_refl _) (.cells #[.slice A3 P c3] 22)) e4
                        have e5 := Each.other (ho4.alloc (.cells #[.slice A3 P c3] 22)) hg5 e4'
                        have q5 := own_other ((own_mono hown3 hb0).alloc (.cells #[.slice A3 P c3] 22)) (ho4.alloc (.cells #[.slice A3 P c3] 22)) (by decide) hg5
                        have hB5 : Below w.heap.size w w5 := ((HB03.out.trans (hb34.mono hb0)).alloc (by omega) _).trans hb5
                        have hE5 : Each w5 w.heap.size (vs ++ [.slice A3 P c3]) (ps ++ [p]) := by
                          have hP := HPL.out
                          subst hP
                          exact Each.snoc q5 e5
                        have HX5 : Hid (w5.ownsRow w.heap.size 22 1 v5 (ps ++ [p]).length (vs ++ [Value.slice A3 P c3])) := Lib.hid (by rw [show (ps ++ [p]).length = ps.length + 1 by simp]; exact hown5)
                        have HE5 := Lib.hid hE5
                        have HB5 := Lib.hid hB5
                        clear e4 e4' e5 q5 hE5 hB5 hown5 hg5 hb5 ho4 hb34 hsz4 hown3 hg3 hb3 ho3 qs s3 s4
                        go_roundw
                        case rel => exact ⟨_, _, _, (165 :: (P : Int) :: r).drop (P + 6), vs ++ [.slice A3 P c3], ps ++ [p], rfl, by omega, by omega, QC, HX5.out, HE5.out, HB5.out, HT, by simp; omega, Lib.hid (by intro g hg; refine HIN.out g ?_; first | exact hg | (simp only [blkOf] at hg ⊢; exact hg) | (split at hg <;> exact hg) | (split at hg <;> simpa [blkOf] using hg))⟩
                        case measure => simp [lenV]; omega
                  · have HT : Hid (frames zs = (ps ++ (frames ((P : Int) :: r)).1, (frames ((P : Int) :: r)).2)) := Lib.hid (by
                      rw [← frames_tail 165 ((P : Int) :: r) (HNF.out.trans (if_neg heq))]
                      exact HF.out)
                    have QQ : BV w (some ⟨b, off + 1, none⟩) (n - 1) ((P : Int) :: r) := hb.drop (k := 1) (by omega)
                    have ht2 : ((strOfNums (frm p)).toList == (strOfNums tk).toList) = false := by rw [ht]; exact decide_eq_false heq
                    clear ht
                    clear heq
                    go_wp2
                    have hs0 : Since wr wr.drew := Since.drew wr
                    go_region_with (first | (go_at_call 17; have qq := (QP.out.below HB.out).since hs0; (with_reducible refine (frameR _ _ _ _ _ qq hP1000).mono ?_); clear qq; rintro e w3 ⟨A2, c2, rfl, hown2, hb2⟩; have hs3 : Since wr w3 := hs0.trans hb2; have hcv := (BV.of_own hown2 (frm_isB HPB.out)).str 22 5 9 Try.underlying22 Try.underlying5 Try.underlying9 c2))
                    all_goals
                      have hB3 : Below wr.heap.size wr w3 := hs3
                      have ho3 := Lib.hid (own_below HO.out hB3)
                      have he3 := Lib.hid (Each.below hB3 HE.out)
                      have hB03 := Lib.hid (HB.out.trans (hB3.mono HB.out.size))
                      clear s1 s2 s3 s4 hcb hcv hs3 hs0 hown2 hb2 hB3
                      go_wp2
                      go_roundw
                      case rel => exact ⟨_, _, _, ((P : Int) :: r), vs, ps, rfl, by omega, by omega, QQ, ho3.out, he3.out, hB03.out, HT, by omega, Lib.hid (by intro g hg; refine HIN.out g ?_; first | exact hg | (simp only [blkOf] at hg ⊢; exact hg) | (split at hg <;> exact hg) | (split at hg <;> simpa [blkOf] using hg))⟩
                      case measure => simp [lenV]; omega
        · have t1 : (x != 165) = true := by rw [bne_iff_ne]; exact hx5
          have HT : Hid (frames zs = (ps ++ (frames r).1, (frames r).2)) := Lib.hid (by
            rw [← frames_tail x r (by rw [nextF, if_pos hx5])]; exact HF.out)
          by_cases hc1 : c = 1
          · have hn1 : n ≤ 1 := by omega
            have hr : r = [] := List.eq_nil_of_length_eq_zero (by have := HL.out; omega)
            have QQ : BV w (some ⟨b, off, none⟩) 0 r := by rw [hr]; exact BV.nil _ _
            clear hr
            go_wp2
            go_roundw
            case rel => exact ⟨_, _, _, r, vs, ps, rfl, by omega, by omega, QQ, HO.out, HE.out, HB.out, HT, by omega, Lib.hid (by intro g hg; refine HIN.out g ?_; first | exact hg | (simp only [blkOf] at hg ⊢; exact hg) | (split at hg <;> exact hg) | (split at hg <;> simpa [blkOf] using hg))⟩
            case measure => simp [lenV]; omega
          · have QQ : BV w (some ⟨b, off + 1, none⟩) (n - 1) r := hb.drop (k := 1) (by omega)
            go_wp2
            go_roundw
            case rel => exact ⟨_, _, _, r, vs, ps, rfl, by omega, by omega, QQ, HO.out, HE.out, HB.out, HT, by omega, Lib.hid (by intro g hg; refine HIN.out g ?_; first | exact hg | (simp only [blkOf] at hg ⊢; exact hg) | (split at hg <;> exact hg) | (split at hg <;> simpa [blkOf] using hg))⟩
            case measure => simp [lenV]; omega
end Go.Proofs.Ytfggnchfkoifeaa.F2
