/-
  FrameFinds: walked.
  Conditions: what stands ahead of each.
-/
import Derived.Test.YtfggnchfkoifeaaProg
import Derived.Test.YtfggnchfkoifeaaFraG
import Derived.Test.YtfggnchfkoifeaaPart
namespace Go.Proofs.Ytfggnchfkoifeaa.Fq
set_option linter.unusedVariables false
set_option linter.unusedSimpArgs false
open Go.RowKit Go.Proofs.Ytfggnchfkoifeaa.Ba Go.Proofs.Ytfggnchfkoifeaa.Mem Go.Proofs.Ytfggnchfkoifeaa.Cm Go.Proofs.Ytfggnchfkoifeaa.Fm
open Go.Proofs.Ytfggnchfkoifeaa.Byt (BV isB cells)
set_option maxRecDepth 100000
attribute [local irreducible] Go.wpList
open Go.Proofs.Ytfggnchfkoifeaa.Pa (Parts PartV)
def bodies (js : List Int) (L : List (List Int)) : List Int := (L.map fun p => js ++ frm p).flatten
theorem bodies_snoc (js : List Int) (L : List (List Int)) (p : List Int) : bodies js (L ++ [p]) = bodies js L ++ (js ++ frm p) := by simp [bodies]
theorem bodies_cons (js : List Int) (L : List (List Int)) (p : List Int) : bodies js (p :: L) = js ++ frm p ++ bodies js L := by simp [bodies]
theorem bodies_G {js : List Int} (hj : ∀ z ∈ js, z ≠ 165) : ∀ L : List (List Int), (∀ p ∈ L, 1 ≤ p.length ∧ p.length ≤ 64) → G L (bodies js L)
  | [], _ => .nil
  | p :: L, h => by
    rw [bodies_cons]
    exact .cons p L js _ hj (h p (by simp)).1 (h p (by simp)).2 (bodies_G hj L fun q hq => h q (by simp [hq]))
theorem bodies_len {js : List Int} (hj : js.length ≤ 200) : ∀ L : List (List Int), (∀ p ∈ L, p.length ≤ 64) → (bodies js L).length ≤ L.length * 270
  | [], _ => by simp [bodies]
  | p :: L, h => by
    have h1 := bodies_len hj L fun q hq => h q (by simp [hq])
    have h2 := h p (by simp)
    rw [bodies_cons, List.length_append, List.length_append, frm_length, List.length_cons]
    omega
theorem G_nil {qs : List (List Int)} (h : G qs []) : qs = [] := by
  generalize hx : ([] : List Int) = x at h
  cases h with
  | nil => rfl
  | cons p ps j y hj h1 h2 hy =>
    have := congrArg List.length hx
    simp [frm_length] at this
    omega
def Ps (ps : Nat → PartV) (n : Nat) : List (List Int) := (List.range n).map fun j => (ps j).zs
theorem Ps_succ (ps : Nat → PartV) (n : Nat) : Ps ps (n + 1) = Ps ps n ++ [(ps n).zs] := by simp [Ps, List.range_succ]
theorem Ps_len (ps : Nat → PartV) (n : Nat) : (Ps ps n).length = n := by simp [Ps]
theorem Ps_drop {ps : Nat → PartV} {n k : Nat} {p : List Int} {qs : List (List Int)} (h : (Ps ps n).drop k = p :: qs) : k < n ∧ p = (ps k).zs ∧ qs = (Ps ps n).drop (k + 1) := by
  have hk : k < n := by
    rcases Nat.lt_or_ge k n with h1 | h1
    · exact h1
    · rw [List.drop_eq_nil_of_le (by rw [Ps_len]; exact h1)] at h; cases h
  rw [List.drop_eq_getElem_cons (by rw [Ps_len]; exact hk)] at h
  injection h with h1 h2
  exact ⟨hk, by rw [← h1]; simp [Ps], h2.symm⟩
theorem Ps_drop_nil {ps : Nat → PartV} {n k : Nat} (h : (Ps ps n).drop k = []) (hk : k ≤ n) : k = n := by
  have := congrArg List.length h
  rw [List.length_drop, Ps_len] at this
  simp at this
  omega
theorem Ps_all {ps : Nat → PartV} {n : Nat} {Q : List Int → Prop} (h : ∀ j, j < n → Q (ps j).zs) : ∀ p ∈ Ps ps n, Q p := by
  intro p hp
  simp only [Ps, List.mem_map, List.mem_range] at hp
  obtain ⟨j, hj, rfl⟩ := hp
  exact h j hj
def jk (js : List Int) (k : Nat) : List Int := (js.take k).filter fun z => z != 165
theorem jk_ne {js : List Int} {k : Nat} (hk : k < js.length) (h : js.getD k 0 ≠ 165) : jk js (k + 1) = jk js k ++ [js.getD k 0] := by
  have e : js.getD k 0 = js[k] := by simp [List.getD, hk]
  rw [e] at h ⊢
  unfold jk
  rw [List.take_add_one, List.getElem?_eq_getElem hk, List.filter_append]
  simp [h]
theorem jk_eq {js : List Int} {k : Nat} (hk : k < js.length) (h : js.getD k 0 = 165) : jk js (k + 1) = jk js k := by
  have e : js.getD k 0 = js[k] := by simp [List.getD, hk]
  rw [e] at h
  unfold jk
  rw [List.take_add_one, List.getElem?_eq_getElem hk, List.filter_append]
  simp [h]
theorem jk_165 (js : List Int) (k : Nat) : ∀ z ∈ jk js k, z ≠ 165 := by
  intro z hz
  have := (List.mem_filter.1 hz).2
  simpa using this
theorem jk_sub {js : List Int} {k : Nat} : ∀ z ∈ jk js k, z ∈ js := fun z hz => List.mem_of_mem_take (List.mem_filter.1 hz).1
theorem jk_len (js : List Int) (k : Nat) : (jk js k).length ≤ js.length := Nat.le_trans (List.length_filter_le _ _) (by rw [List.length_take]; exact Nat.min_le_right _ _)
theorem bodies_isB {js : List Int} (hj : ∀ z ∈ js, isB z) : ∀ L : List (List Int), (∀ p ∈ L, ∀ z ∈ p, isB z) → ∀ z ∈ bodies js L, isB z
  | [], _ => by simp [bodies]
  | p :: L, h => by
    intro z hz
    rw [bodies_cons] at hz
    rcases List.mem_append.1 hz with hz | hz
    · rcases List.mem_append.1 hz with hz | hz
      · exact hj z hz
      · exact frm_isB (h p (by simp)) z hz
    · exact bodies_isB hj L (fun q hq => h q (by simp [hq])) z hz
set_option maxHeartbeats 4000000 in
theorem finds (Al : Option Addr) (nl cl : Nat) (ps : Nat → PartV) (Aj : Option Addr) (nj cj : Nat) (js : List Int) (Ap : Option Addr) (np cp : Nat) (zs : List Int) (w : World) (hpl : Parts w Al nl ps) (hj : BV w Aj nj js) (hp : BV w Ap np zs) (hnl : nl ≤ 9223372036854775807) (hnp : np ≤ 140737488351232) : Calls Try.prog 8 #[.slice Al nl cl, .slice Aj nj cj, .slice Ap np cp] w fun e w' => e = .returned (.bool true) ∧ Since w w' := by
  have HPL := Lib.hid hpl
  clear hpl
  have HJ := Lib.hid hj
  clear hj
  have HP := Lib.hid hp
  clear hp
  have HNL := Lib.hid hnl
  clear hnl
  have HNP := Lib.hid hnp
  clear hnp
  go_enter Try.func8, Try.ntmps8
  go_upto_region 1 with fail
  have HS1 := Lib.hid (Since.refl w)
  have HJL := Lib.hid HJ.out.1
  have HPLN := Lib.hid HP.out.1
  refine wp_region_lit ?_
  refine wpList_q (by rfl) (.slice none 0 0) ?he ?_
  case he => (first | rfl | (go_simp; (try with_reducible rfl)))
  (try simp only [Act.put, sA, sB, sC])
  refine wpList_nil ?_
  go_upto_region 2 with fail
  refine wp_region_lit ?_
  refine wpList_q (by rfl) (.int .i64 0) ?he ?_
  case he => (first | rfl | (go_simp; (try with_reducible rfl)))
  (try simp only [Act.put, sA, sB, sC])
  refine wpList_nil ?_
  go_wp2_with fail
  have HA0 := Lib.hid (World.ownsRow_nil w w.heap.size 5 1)
  go_loopw [7, 8] (fun s7 s8 wr => ∃ (i : Nat) (A : Option Addr) (c : Nat) (ys : List Int), i ≤ nl ∧ s7 = .slice A ys.length c ∧ s8 = .int .i64 (i : Int) ∧ Hid (ys = bodies (jk js nj) (Ps ps i) ∧ (∀ j, j < i → 1 ≤ (ps j).n ∧ (ps j).n ≤ 64 ∧ (ps j).zs.length = (ps j).n ∧ ∀ z ∈ (ps j).zs, isB z) ∧ (i = 0 ∨ (nl ≤ 20 ∧ nj ≤ 200)) ∧ Since w wr ∧ (wr).ownsRow w.heap.size 5 1 (.slice A ys.length c) ys.length (cells ys))) (fun s7 s8 wq => ((nl : Int) - intOf s8).toNat)
  case atStart => exact ⟨0, none, 0, [], Nat.zero_le _, rfl, rfl, Lib.hid ⟨rfl, (fun j hj => absurd hj (Nat.not_lt_zero j)), (.inl rfl), HS1.out, HA0.out⟩⟩
  case round =>
    obtain ⟨i, A, c, ys, hi, rfl, rfl, HO⟩ := hrel
    obtain ⟨e0, e1, e2, g0, g1⟩ := HO.out
    clear HO HS1 HA0
    have HYS := Lib.hid e0
    have HALL := Lib.hid e1
    have HBND := Lib.hid e2
    have HS51 := Lib.hid g0
    have HFa51 := Lib.hid g1
    clear e0 e1 e2 g0 g1
    have HI := Lib.hid hi; clear hi
    by_cases hcs : i < nl
    rotate_left
    · have HGE := Lib.hid hcs; clear hcs
      go_upto_region 3 with fail
      refine wp_region_lit ?_
      refine wpList_q (by rfl) (.int .i64 (i : Int)) ?he ?_
      case he => (first | rfl | (go_simp; (try with_reducible rfl)))
      (try simp only [Act.put, sA, sB, sC])
      refine wpList_q (by rfl) (.slice Al nl cl) ?he ?_
      case he => (first | rfl | (go_simp; (try with_reducible rfl)))
      (try simp only [Act.put, sA, sB, sC])
      refine wpList_q (by rfl) (.int .i64 (nl : Int)) ?he ?_
      case he => (first | rfl | (go_simp; (try with_reducible rfl)))
      (try simp only [Act.put, sA, sB, sC])
      refine wpList_q (by rfl) (.bool false) ?he ?_
      case he => (have q0 := HGE.out; go_simp; (first | done | rfl | omega))
      (try simp only [Act.put, sA, sB, sC])
      refine wpList_nil ?_
      have HIN := Lib.hid (show i = nl by have := HGE.out; have := HI.out; omega)
      have HGA := Lib.hid (show G (Ps ps nl) ys by rw [HYS.out, HIN.out]; exact bodies_G (jk_165 js nj) _ (Ps_all (Q := fun p => 1 ≤ p.length ∧ p.length ≤ 64) fun j hj => by have q := HALL.out j (by have := HIN.out; omega); rw [q.2.2.1]; exact ⟨q.1, q.2.1⟩))
      have HYL := Lib.hid (show ys.length ≤ 5400 by rcases HBND.out with h | h; rw [HYS.out, h]; simp [bodies, Ps]; have q := bodies_len (js := jk js nj) (by have q1 := jk_len js nj; have := HJL.out; omega) (Ps ps i) (Ps_all (Q := fun p => p.length ≤ 64) fun j hj => by have q2 := HALL.out j hj; omega); rw [Ps_len, ← HYS.out] at q; have := HI.out; omega)
      have HYB := Lib.hid (show ∀ z ∈ ys, isB z by rw [HYS.out]; exact bodies_isB (fun z hz => HJ.out.2.2.1 z (jk_sub z hz)) _ (Ps_all (Q := fun p => ∀ z ∈ p, isB z) fun j hj => (HALL.out j hj).2.2.2))
      have HCP := Lib.hid (own_cap2 HFa51.out)
      go_upto_region 13 with fail
      refine wp_region_lit ?_
      refine wpList_wp (by rfl) (fun K hK => ?_)
      refine wp_new (fun b => .pointer (some ⟨b, 0, none⟩)) 40 #[.slice none 0 0, .int .i64 0] (by rintro b rfl; first | rfl | kernel_rfl) ?_
      intro bn73 w52 hge hB hb
      refine hK.out _ _ ?_
      clear hK K
      (try simp only [Act.put, sA, sB, sC])
      have HGn73 := Lib.hid (show w.heap.size ≤ bn73 by have := Since.size HS51.out; omega)
      have HIn73_a := Lib.hid (own_far HFa51.out hge)
      have HS52 := Lib.hid (Since.trans HS51.out hb)
      have HFa52 := Lib.hid (keep_own hb HFa51.out)
      clear HS51 HFa51
      clear hb hge
      have HBn7352 := Lib.hid hB
      clear hB
      refine wpList_q (by rfl) (.pointer (some ⟨bn73, 0, none⟩)) ?he ?_
      case he => (first | rfl | (go_simp; (try with_reducible rfl)))
      (try simp only [Act.put, sA, sB, sC])
      refine wpList_nil ?_
      have HDDa_s := Lib.hid (show ∀ g ∈ (blkOf A), g ∉ [bn73] from fun g hg h => HIn73_a.out (by simp at h; rw [← h]; exact hg))
      have HFs := Lib.hid (SO.new HBn7352.out HGn73.out)
      clear HBn7352
      go_upto_region 14 with fail
      refine wp_region_lit ?_
      refine wpList_q (by rfl) (.int .i64 0) ?he ?_
      case he => (first | rfl | (go_simp; (try with_reducible rfl)))
      (try simp only [Act.put, sA, sB, sC])
      refine wpList_q (by rfl) (.int .i64 0) ?he ?_
      case he => (first | rfl | (go_simp; (try with_reducible rfl)))
      (try simp only [Act.put, sA, sB, sC])
      refine wpList_nil ?_
      go_upto_region 15 with fail
      refine wp_region_lit ?_
      refine wpList_q (by rfl) (.int .i64 0) ?he ?_
      case he => (first | rfl | (go_simp; (try with_reducible rfl)))
      (try simp only [Act.put, sA, sB, sC])
      refine wpList_nil ?_
      go_wp2_with fail
      go_loopw [11, 12, 13] (fun s11 s12 s13 wr => ∃ (at_ got i3 : Nat) (xs : List Int) (qs : List (List Int)) (Ss : List Nat), at_ ≤ ys.length ∧ got ≤ nl ∧ s11 = .int .i64 (at_ : Int) ∧ s12 = .int .i64 (got : Int) ∧ s13 = .int .i64 (i3 : Int) ∧ Hid (qs = (Ps ps nl).drop got ∧ G qs (xs ++ ys.drop at_) ∧ (at_ = ys.length → qs = [] ∧ xs = []) ∧ (i3 ≤ np + 1 ∧ (at_ < ys.length → i3 ≤ np)) ∧ (∀ g ∈ blkOf A, g ∉ Ss) ∧ Since w wr ∧ (wr).ownsRow w.heap.size 5 1 (.slice A ys.length c) ys.length (cells ys) ∧ SO w.heap.size bn73 at_ xs Ss wr)) (fun s11 s12 s13 wq => ((np : Int) - intOf s13).toNat + ((ys.length : Int) - intOf s11).toNat)
      case atStart => exact ⟨0, 0, 0, [], (Ps ps nl), [bn73], Nat.zero_le _, Nat.zero_le _, rfl, rfl, rfl, Lib.hid ⟨rfl, HGA.out, (fun h0 => ⟨G_nil (by have q := HGA.out; rw [List.eq_nil_of_length_eq_zero h0.symm] at q; exact q), rfl⟩), ⟨Nat.zero_le _, fun _ => Nat.zero_le _⟩, HDDa_s.out, HS52.out, HFa52.out, HFs.out⟩⟩
      case round =>
        obtain ⟨at_, got, i3, xs, qs, Ss, hat, hgot, rfl, rfl, rfl, HO⟩ := hrel
        obtain ⟨e0, e1, e2, e3, e4, g0, g1, g2⟩ := HO.out
        clear HO HS52 HFa52 HFs
        have HQS := Lib.hid e0
        have HG := Lib.hid e1
        have HEND := Lib.hid e2
        have HI3 := Lib.hid e3
        have HDS := Lib.hid e4
        have HS102 := Lib.hid g0
        have HFa102 := Lib.hid g1
        have HFs102 := Lib.hid g2
        clear e0 e1 e2 e3 e4 g0 g1 g2
        have HAT := Lib.hid hat; have HGOT := Lib.hid hgot; clear hat hgot
        by_cases hcs : at_ < ys.length
        rotate_left
        · have HAE := Lib.hid hcs; clear hcs
          go_upto_region 16 with fail
          refine wp_region_lit ?_
          refine wpList_q (by rfl) (.int .i64 (at_ : Int)) ?he ?_
          case he => (first | rfl | (go_simp; (try with_reducible rfl)))
          (try simp only [Act.put, sA, sB, sC])
          refine wpList_q (by rfl) (.slice A ys.length c) ?he ?_
          case he => (first | rfl | (go_simp; (try with_reducible rfl)))
          (try simp only [Act.put, sA, sB, sC])
          refine wpList_q (by rfl) (.int .i64 (ys.length : Int)) ?he ?_
          case he => (first | rfl | (go_simp; (try with_reducible rfl)))
          (try simp only [Act.put, sA, sB, sC])
          refine wpList_q (by rfl) (.bool false) ?he ?_
          case he => (have q0 := HAE.out; go_simp; (first | done | rfl | omega))
          (try simp only [Act.put, sA, sB, sC])
          refine wpList_nil ?_
          have HZ := Lib.hid (HEND.out (by have := HAE.out; have := HAT.out; omega))
          have HGN := Lib.hid (show got = nl from Ps_drop_nil (by rw [← HQS.out]; exact HZ.out.1) HGOT.out)
          go_upto_region 28 with fail
          refine wp_region_lit ?_
          refine wpList_wp (by rfl) (fun K hK => ?_)
          (try go_simp)
          refine (ans _).mono ?_
          rintro e w103 ⟨rfl, hb⟩
          (try go_wp2_with fail)
          refine hK.out _ _ ?_
          clear hK K
          (try simp only [Act.put, sA, sB, sC])
          have HS103 := Lib.hid (Since.trans HS102.out hb)
          have HFa103 := Lib.hid (keep_own hb HFa102.out)
          have HFs103 := Lib.hid (SO.keep hb HFs102.out)
          clear HS102 HFa102 HFs102
          clear hb
          refine wpList_q (by rfl) (.bool true) ?he ?_
          case he => (first | rfl | (go_simp; (try with_reducible rfl)))
          (try simp only [Act.put, sA, sB, sC])
          refine wpList_q (by rfl) (.int .i64 (got : Int)) ?he ?_
          case he => (first | rfl | (go_simp; (try with_reducible rfl)))
          (try simp only [Act.put, sA, sB, sC])
          refine wpList_q (by rfl) (.slice Al nl cl) ?he ?_
          case he => (first | rfl | (go_simp; (try with_reducible rfl)))
          (try simp only [Act.put, sA, sB, sC])
          refine wpList_q (by rfl) (.int .i64 (nl : Int)) ?he ?_
          case he => (first | rfl | (go_simp; (try with_reducible rfl)))
          (try simp only [Act.put, sA, sB, sC])
          refine wpList_q (by rfl) (.bool true) ?he ?_
          case he => (have q := HGN.out; subst q; go_simp; (first | done | rfl | simp))
          (try simp only [Act.put, sA, sB, sC])
          refine wpList_q (by rfl) (.bool true) ?he ?_
          case he => (first | rfl | (go_simp; (try with_reducible rfl)))
          (try simp only [Act.put, sA, sB, sC])
          refine wpList_q (by rfl) (.bool true) ?he ?_
          case he => (first | rfl | (go_simp; (try with_reducible rfl)))
          (try simp only [Act.put, sA, sB, sC])
          refine wpList_q (by rfl) (.pointer (some ⟨bn73, 0, none⟩)) ?he ?_
          case he => (first | rfl | (go_simp; (try with_reducible rfl)))
          (try simp only [Act.put, sA, sB, sC])
          refine wpList_wp (by rfl) (fun K hK => ?_)
          (try go_simp)
          refine (heldV w.heap.size bn73 at_ xs Ss _ HFs103.out (by have := HAT.out; have := HYL.out; omega) 0 (by rw [HZ.out.2]; rfl)).mono ?_
          rintro e w104 ⟨rfl, hb⟩
          (try go_wp2_with fail)
          refine hK.out _ _ ?_
          clear hK K
          (try simp only [Act.put, sA, sB, sC])
          have HS104 := Lib.hid (Since.trans HS103.out hb)
          have HFa104 := Lib.hid (keep_own hb HFa103.out)
          have HFs104 := Lib.hid (SO.keep hb HFs103.out)
          clear HS103 HFa103 HFs103
          clear hb
          refine wpList_q (by rfl) (.bool true) ?he ?_
          case he => (go_simp; (try with_reducible rfl))
          (try simp only [Act.put, sA, sB, sC])
          refine wpList_q (by rfl) (.bool true) ?he ?_
          case he => (first | rfl | (go_simp; (try with_reducible rfl)))
          (try simp only [Act.put, sA, sB, sC])
          refine wpList_q (by rfl) (.bool true) ?he ?_
          case he => (first | rfl | (go_simp; (try with_reducible rfl)))
          (try simp only [Act.put, sA, sB, sC])
          refine wpList_nil ?_
          (try go_wp2_with fail)
          go_ret
          exact ⟨rfl, HS104.out⟩
        · have HAE := Lib.hid hcs; clear hcs
          go_upto_region 16 with fail
          refine wp_region_lit ?_
          refine wpList_q (by rfl) (.int .i64 (at_ : Int)) ?he ?_
          case he => (first | rfl | (go_simp; (try with_reducible rfl)))
          (try simp only [Act.put, sA, sB, sC])
          refine wpList_q (by rfl) (.slice A ys.length c) ?he ?_
          case he => (first | rfl | (go_simp; (try with_reducible rfl)))
          (try simp only [Act.put, sA, sB, sC])
          refine wpList_q (by rfl) (.int .i64 (ys.length : Int)) ?he ?_
          case he => (first | rfl | (go_simp; (try with_reducible rfl)))
          (try simp only [Act.put, sA, sB, sC])
          refine wpList_q (by rfl) (.bool true) ?he ?_
          case he => (have q0 := HAE.out; go_simp; (first | done | rfl | omega))
          (try simp only [Act.put, sA, sB, sC])
          refine wpList_nil ?_
          go_upto_region 18 with fail
          refine wp_region_lit ?_
          refine wpList_q (by rfl) (.slice A ys.length c) ?he ?_
          case he => (first | rfl | (go_simp; (try with_reducible rfl)))
          (try simp only [Act.put, sA, sB, sC])
          refine wpList_q (by rfl) (.int .i64 (ys.length : Int)) ?he ?_
          case he => (first | rfl | (go_simp; (try with_reducible rfl)))
          (try simp only [Act.put, sA, sB, sC])
          refine wpList_q (by rfl) (.int .i64 (at_ : Int)) ?he ?_
          case he => (first | rfl | (go_simp; (try with_reducible rfl)))
          (try simp only [Act.put, sA, sB, sC])
          refine wpList_q (by rfl) (.int .i64 ((ys.length - at_ : Nat) : Int)) ?he ?_
          case he => (have q := HAT.out; have q1 := HYL.out; go_simp; (first | done | (rw [wr64 _ (by omega) (by omega)]; omega) | exact wr64 _ (by omega) (by omega)))
          (try simp only [Act.put, sA, sB, sC])
          refine wpList_q (by rfl) (.int .i64 ((ys.length - at_ : Nat) : Int)) ?he ?_
          case he => (first | rfl | (go_simp; (try with_reducible rfl)))
          (try simp only [Act.put, sA, sB, sC])
          refine wpList_nil ?_
          by_cases hcs : i3 < np
          rotate_left
          · have HIP := Lib.hid hcs; clear hcs
            go_upto_region 19 with fail
            refine wp_region_lit ?_
            refine wpList_q (by rfl) (.int .i64 (i3 : Int)) ?he ?_
            case he => (first | rfl | (go_simp; (try with_reducible rfl)))
            (try simp only [Act.put, sA, sB, sC])
            refine wpList_q (by rfl) (.slice Ap np cp) ?he ?_
            case he => (first | rfl | (go_simp; (try with_reducible rfl)))
            (try simp only [Act.put, sA, sB, sC])
            refine wpList_q (by rfl) (.int .i64 (np : Int)) ?he ?_
            case he => (first | rfl | (go_simp; (try with_reducible rfl)))
            (try simp only [Act.put, sA, sB, sC])
            refine wpList_q (by rfl) (.bool false) ?he ?_
            case he => (have q0 := HIP.out; go_simp; (first | done | rfl | omega))
            (try simp only [Act.put, sA, sB, sC])
            refine wpList_q (by rfl) (.bool false) ?he ?_
            case he => (first | rfl | (go_simp; (try with_reducible rfl)))
            (try simp only [Act.put, sA, sB, sC])
            refine wpList_no (by rfl) ?_
            (try simp only [Act.put, sA, sB, sC])
            refine wpList_no (by rfl) ?_
            (try simp only [Act.put, sA, sB, sC])
            refine wpList_no (by rfl) ?_
            (try simp only [Act.put, sA, sB, sC])
            refine wpList_no (by rfl) ?_
            (try simp only [Act.put, sA, sB, sC])
            refine wpList_no (by rfl) ?_
            (try simp only [Act.put, sA, sB, sC])
            refine wpList_no (by rfl) ?_
            (try simp only [Act.put, sA, sB, sC])
            refine wpList_no (by rfl) ?_
            (try simp only [Act.put, sA, sB, sC])
            refine wpList_q (by rfl) (.bool false) ?he ?_
            case he => (first | rfl | (go_simp; (try with_reducible rfl)))
            (try simp only [Act.put, sA, sB, sC])
            refine wpList_nil ?_
            obtain ⟨m, hm⟩ : ∃ m, m = ys.length - at_ := ⟨_, rfl⟩
            have HM := Lib.hid (show m ≤ ys.length - at_ by omega)
            have HI4 := Lib.hid (show at_ + m < ys.length → i3 + 1 ≤ np from fun h0 => by have := HAT.out; omega)
            have HMEAS := Lib.hid (show i3 < np ∨ at_ + m = ys.length from .inr (by have := HAT.out; omega))
            rw [← hm]
            clear hm
            have HBA := Lib.hid (BV.cut (bv_drop (BV.of_own HFa102.out HYB.out) HAT.out HCP.out) HM.out)
            go_upto_region 21 with fail
            refine wp_region_lit ?_
            refine wpList_q (by rfl) (.pointer (some ⟨bn73, 0, none⟩)) ?he ?_
            case he => (first | rfl | (go_simp; (try with_reducible rfl)))
            (try simp only [Act.put, sA, sB, sC])
            refine wpList_q (by rfl) (.slice A ys.length c) ?he ?_
            case he => (first | rfl | (go_simp; (try with_reducible rfl)))
            (try simp only [Act.put, sA, sB, sC])
            refine wpList_q (by rfl) (.int .i64 (at_ : Int)) ?he ?_
            case he => (first | rfl | (go_simp; (try with_reducible rfl)))
            (try simp only [Act.put, sA, sB, sC])
            refine wpList_q (by rfl) (.int .i64 (at_ : Int)) ?he ?_
            case he => (first | rfl | (go_simp; (try with_reducible rfl)))
            (try simp only [Act.put, sA, sB, sC])
            refine wpList_q (by rfl) (.int .i64 (m : Int)) ?he ?_
            case he => (first | rfl | (go_simp; (try with_reducible rfl)))
            (try simp only [Act.put, sA, sB, sC])
            refine wpList_q (by rfl) (.int .i64 ((at_ + m : Nat) : Int)) ?he ?_
            case he => (go_simp; (first | done | (have q := HM.out; have q1 := HYL.out; have q2 := HAT.out; rw [wr64 _ (by omega) (by omega)]; push_cast; rfl) | (have q := HM.out; have q1 := HYL.out; have q2 := HAT.out; exact wr64 _ (by omega) (by omega))))
            (try simp only [Act.put, sA, sB, sC])
            refine wpList_q (by rfl) (.slice (cutA c at_ A 1) m (c - at_)) ?he ?_
            case he => exact exec_slice (s := 1) 22 5 _ _ _ _ rfl rfl Try.underlying22 (by kernel_rfl) (sb_lh _ _ _ (l := at_) (h := at_ + m) rfl rfl (by omega) (by have := HM.out; have := HAT.out; have := HCP.out; omega)) (by rfl) (by omega) rfl
            (try simp only [Act.put, sA, sB, sC])
            refine wpList_wp (by rfl) (fun K hK => ?_)
            (try go_simp)
            refine (feedV w.heap.size bn73 at_ xs Ss (cutA c at_ A 1) m (c - at_) ((ys.drop at_).take m) _ HFs102.out HBA.out (by have := HM.out; have := HYL.out; have := HAT.out; omega) (at_ + m) (xs ++ (ys.drop at_).take m) rfl rfl).mono ?_
            rintro e w103 ⟨Ss_1, rfl, hobj, hupd, hfar⟩
            (try go_wp2_with fail)
            refine hK.out _ _ ?_
            clear hK K
            (try simp only [Act.put, sA, sB, sC])
            have HS103 := Lib.hid (Since.upd HS102.out hupd (SO.low HFs102.out))
            have HFa103 := Lib.hid (Upd.own hupd HFa102.out HDS.out)
            have HDDa_s_103 := Lib.hid (dis_next hfar HDS.out (own_lt HFa102.out))
            have HFs103 := Lib.hid hobj
            clear hupd hobj hfar HS102 HFa102 HFs102
            refine wpList_nil ?_
            go_upto_region 22 with fail
            refine wp_region_lit ?_
            refine wpList_q (by rfl) (.int .i64 (at_ : Int)) ?he ?_
            case he => (first | rfl | (go_simp; (try with_reducible rfl)))
            (try simp only [Act.put, sA, sB, sC])
            refine wpList_q (by rfl) (.int .i64 (m : Int)) ?he ?_
            case he => (first | rfl | (go_simp; (try with_reducible rfl)))
            (try simp only [Act.put, sA, sB, sC])
            refine wpList_q (by rfl) (.int .i64 ((at_ + m : Nat) : Int)) ?he ?_
            case he => (go_simp; (first | done | (have q := HM.out; have q1 := HYL.out; have q2 := HAT.out; rw [wr64 _ (by omega) (by omega)]; push_cast; rfl) | (have q := HM.out; have q1 := HYL.out; have q2 := HAT.out; exact wr64 _ (by omega) (by omega))))
            (try simp only [Act.put, sA, sB, sC])
            refine wpList_q (by rfl) (.int .i64 ((at_ + m : Nat) : Int)) ?he ?_
            case he => (first | rfl | (go_simp; (try with_reducible rfl)))
            (try simp only [Act.put, sA, sB, sC])
            refine wpList_nil ?_
            go_wp2_with fail
            have HG0 := Lib.hid (show G qs ((xs ++ (ys.drop at_).take m) ++ ys.drop (at_ + m)) by rw [List.append_assoc, ← List.drop_drop, List.take_append_drop]; exact HG.out)
            go_loopw [12] (fun s12 wr => ∃ (got2 : Nat) (xs2 : List Int) (qs2 : List (List Int)) (S2 : List Nat), got2 ≤ nl ∧ s12 = .int .i64 (got2 : Int) ∧ Hid (qs2 = (Ps ps nl).drop got2 ∧ G qs2 (xs2 ++ ys.drop (at_ + m)) ∧ (∀ g ∈ blkOf A, g ∉ S2) ∧ Since w wr ∧ (wr).ownsRow w.heap.size 5 1 (.slice A ys.length c) ys.length (cells ys) ∧ SO w.heap.size bn73 (at_ + m) xs2 S2 wr)) (fun s12 wq => ((nl : Int) - intOf s12).toNat)
            case atStart => exact ⟨got, (xs ++ (ys.drop at_).take m), qs, Ss_1, HGOT.out, rfl, Lib.hid ⟨HQS.out, HG0.out, HDDa_s_103.out, HS103.out, HFa103.out, HFs103.out⟩⟩
            case round =>
              obtain ⟨got2, xs2, qs2, S2, hg2, rfl, HO⟩ := hrel
              obtain ⟨e0, e1, e2, g0, g1, g2⟩ := HO.out
              clear HO HS103 HFa103 HFs103
              have HQ2 := Lib.hid e0
              have HG2 := Lib.hid e1
              have HDS2 := Lib.hid e2
              have HS153 := Lib.hid g0
              have HFa153 := Lib.hid g1
              have HFs153 := Lib.hid g2
              clear e0 e1 e2 g0 g1 g2
              have HGT2 := Lib.hid hg2; clear hg2
              rcases G_next qs2 xs2 (ys.drop (at_ + m)) HG2.out with ⟨rest, hn, hg, hu⟩ | ⟨p, qs3, rest, hq, hn, hg⟩
              · have HNX := Lib.hid hn; have HGR := Lib.hid hg; have HU := Lib.hid hu; clear hn hg hu
                go_upto_region 23 with fail
                refine wp_region_lit ?_
                refine wpList_q (by rfl) (.pointer (some ⟨bn73, 0, none⟩)) ?he ?_
                case he => (first | rfl | (go_simp; (try with_reducible rfl)))
                (try simp only [Act.put, sA, sB, sC])
                refine wpList_wp (by rfl) (fun K hK => ?_)
                (try go_simp)
                refine (nextN w.heap.size bn73 (at_ + m) xs2 rest S2 _ HFs153.out (by have := HM.out; have := HYL.out; have := HAT.out; omega) HNX.out).mono ?_
                rintro e w154 ⟨Ss_2, rfl, hobj, hupd, hfar⟩
                (try go_wp2_with fail)
                refine hK.out _ _ ?_
                clear hK K
                (try simp only [Act.put, sA, sB, sC])
                have HS154 := Lib.hid (Since.upd HS153.out hupd (SO.low HFs153.out))
                have HFa154 := Lib.hid (Upd.own hupd HFa153.out HDS2.out)
                have HDDa_s_154 := Lib.hid (dis_next hfar HDS2.out (own_lt HFa153.out))
                have HFs154 := Lib.hid hobj
                clear hupd hobj hfar HS153 HFa153 HFs153
                refine wpList_q (by rfl) (.tuple #[.slice none 0 0, .bool false]) ?he ?_
                case he => (first | rfl | (go_simp; (try with_reducible rfl)))
                (try simp only [Act.put, sA, sB, sC])
                refine wpList_q (by rfl) (.slice none 0 0) ?he ?_
                case he => (first | rfl | (go_simp; (try with_reducible rfl)))
                (try simp only [Act.put, sA, sB, sC])
                refine wpList_q (by rfl) (.bool false) ?he ?_
                case he => (first | rfl | (go_simp; (try with_reducible rfl)))
                (try simp only [Act.put, sA, sB, sC])
                refine wpList_q (by rfl) (.slice none 0 0) ?he ?_
                case he => (first | rfl | (go_simp; (try with_reducible rfl)))
                (try simp only [Act.put, sA, sB, sC])
                refine wpList_q (by rfl) (.bool false) ?he ?_
                case he => (first | rfl | (go_simp; (try with_reducible rfl)))
                (try simp only [Act.put, sA, sB, sC])
                refine wpList_nil ?_
                go_upto_region 24 with fail
                refine wp_region_lit ?_
                refine wpList_q (by rfl) (.bool false) ?he ?_
                case he => (first | rfl | (go_simp; (try with_reducible rfl)))
                (try simp only [Act.put, sA, sB, sC])
                refine wpList_q (by rfl) (.bool true) ?he ?_
                case he => (go_simp; (try with_reducible rfl))
                (try simp only [Act.put, sA, sB, sC])
                refine wpList_nil ?_
                go_upto_region 17 with fail
                refine wp_region_lit ?_
                refine wpList_q (by rfl) (.int .i64 (i3 : Int)) ?he ?_
                case he => (first | rfl | (go_simp; (try with_reducible rfl)))
                (try simp only [Act.put, sA, sB, sC])
                refine wpList_q (by rfl) (.int .i64 ((i3 : Int) + 1)) ?he ?_
                case he => (go_simp; (first | done | (have q := HI3.out; have q1 := HNP.out; exact wr64 _ (by omega) (by omega))))
                (try simp only [Act.put, sA, sB, sC])
                refine wpList_q (by rfl) (.int .i64 ((i3 : Int) + 1)) ?he ?_
                case he => (first | rfl | (go_simp; (try with_reducible rfl)))
                (try simp only [Act.put, sA, sB, sC])
                refine wpList_nil ?_
                go_wp2_with fail
                go_roundw
                case rel => exact ⟨at_ + m, got2, i3 + 1, rest, qs2, Ss_2, by have := HM.out; have := HAT.out; omega, HGT2.out, by go_num, rfl, by go_num, Lib.hid ⟨HQ2.out, HGR.out, fun h0 => HU.out (List.drop_eq_nil_of_le (by omega)), ⟨by have q := HI3.out; have := q.2 HAE.out; omega, fun h0 => HI4.out h0⟩, HDDa_s_154.out, HS154.out, HFa154.out, HFs154.out⟩⟩
                case measure => have q := HMEAS.out; have := HM.out; have := HAT.out; have := HAE.out; simp [intOf]; omega
              · have HNX := Lib.hid hn; have HGR := Lib.hid hg; clear hn hg
                have HPD := Lib.hid (Ps_drop (HQ2.out.symm.trans hq)); clear hq
                obtain ⟨gl, offl, hAl, hcl⟩ := Parts.at_ HPL.out HPD.out.1
                have hci := hcl got2 HPD.out.1; clear hcl
                subst hAl
                have HCE := Lib.hid hci.1; have HBI := Lib.hid hci.2.1; have HCI := Lib.hid hci.2.2; clear hci
                have HPZ := Lib.hid HPD.out.2.1
                go_upto_region 23 with fail
                refine wp_region_lit ?_
                refine wpList_q (by rfl) (.pointer (some ⟨bn73, 0, none⟩)) ?he ?_
                case he => (first | rfl | (go_simp; (try with_reducible rfl)))
                (try simp only [Act.put, sA, sB, sC])
                refine wpList_wp (by rfl) (fun K hK => ?_)
                (try go_simp)
                refine (nextS w.heap.size bn73 (at_ + m) xs2 p rest S2 _ HFs153.out (by have := HM.out; have := HYL.out; have := HAT.out; omega) p.length rfl (by rw [HPZ.out]; exact HBI.out.2.2.1) HNX.out).mono ?_
                rintro e w154 ⟨Ss_2, Ap, cp, rfl, hobj, hupd, hfar, hbvp, hcp⟩
                (try go_wp2_with fail)
                refine hK.out _ _ ?_
                clear hK K
                (try simp only [Act.put, sA, sB, sC])
                have HS154 := Lib.hid (Since.upd HS153.out hupd (SO.low HFs153.out))
                have HFa154 := Lib.hid (Upd.own hupd HFa153.out HDS2.out)
                have HDDa_s_154 := Lib.hid (dis_next hfar HDS2.out (own_lt HFa153.out))
                have HFs154 := Lib.hid hobj
                clear hupd hobj hfar HS153 HFa153 HFs153
                have HBVP := Lib.hid hbvp; have HCPP := Lib.hid hcp; clear hbvp hcp
                refine wpList_q (by rfl) (.tuple #[.slice Ap p.length cp, .bool true]) ?he ?_
                case he => (first | rfl | (go_simp; (try with_reducible rfl)))
                (try simp only [Act.put, sA, sB, sC])
                refine wpList_q (by rfl) (.slice Ap p.length cp) ?he ?_
                case he => (first | rfl | (go_simp; (try with_reducible rfl)))
                (try simp only [Act.put, sA, sB, sC])
                refine wpList_q (by rfl) (.bool true) ?he ?_
                case he => (first | rfl | (go_simp; (try with_reducible rfl)))
                (try simp only [Act.put, sA, sB, sC])
                refine wpList_q (by rfl) (.slice Ap p.length cp) ?he ?_
                case he => (first | rfl | (go_simp; (try with_reducible rfl)))
                (try simp only [Act.put, sA, sB, sC])
                refine wpList_q (by rfl) (.bool true) ?he ?_
                case he => (first | rfl | (go_simp; (try with_reducible rfl)))
                (try simp only [Act.put, sA, sB, sC])
                refine wpList_nil ?_
                go_upto_region 24 with fail
                refine wp_region_lit ?_
                refine wpList_q (by rfl) (.bool true) ?he ?_
                case he => (first | rfl | (go_simp; (try with_reducible rfl)))
                (try simp only [Act.put, sA, sB, sC])
                refine wpList_q (by rfl) (.bool false) ?he ?_
                case he => (go_simp; (try with_reducible rfl))
                (try simp only [Act.put, sA, sB, sC])
                refine wpList_nil ?_
                go_upto_region 25 with fail
                have hrK : ∀ W W' : World, Since W W' → (Since w W ∧ (W).ownsRow w.heap.size 5 1 (.slice A ys.length c) ys.length (cells ys) ∧ SO w.heap.size bn73 (at_ + m) rest Ss_2 W ∧ BV W Ap p.length p) → (Since w W' ∧ (W').ownsRow w.heap.size 5 1 (.slice A ys.length c) ys.length (cells ys) ∧ SO w.heap.size bn73 (at_ + m) rest Ss_2 W' ∧ BV W' Ap p.length p) := fun W W' k ⟨h, h0, h1, h2⟩ => ⟨h.trans k, keep_own k h0, SO.keep k h1, keep_bv k h2⟩
                have hrS : (fun W : World => Since w W ∧ (W).ownsRow w.heap.size 5 1 (.slice A ys.length c) ys.length (cells ys) ∧ SO w.heap.size bn73 (at_ + m) rest Ss_2 W ∧ BV W Ap p.length p) w154 := ⟨HS154.out, HFa154.out, HFs154.out, HBVP.out⟩
                have HRK := Lib.hid hrK
                have HRD := Lib.hid (show (fun W : World => Since w W ∧ (W).ownsRow w.heap.size 5 1 (.slice A ys.length c) ys.length (cells ys) ∧ SO w.heap.size bn73 (at_ + m) rest Ss_2 W ∧ BV W Ap p.length p) (World.drew w154) from ⟨Since.drew hrS.1, hrS.2⟩)
                clear hrK hrS
                refine wp_region_held_drew (S := fun W : World => Since w W ∧ (W).ownsRow w.heap.size 5 1 (.slice A ys.length c) ys.length (cells ys) ∧ SO w.heap.size bn73 (at_ + m) rest Ss_2 W ∧ BV W Ap p.length p) (by kernel_rfl) HRD.out (fun hHeld => ?_)
                refine wpAnyH_take (i := 0) (oi := ?o25__0) (v := .int .i64 (got2 : Int)) ?h25__0 (by kernel_rfl) (by kernel_rfl) (by kernel_rfl) ?q25__0 ?y25__0 (by assumption) ?_
                case h25__0 => (first | (simp only [gA, gB, gC]; done) | (simp only [gA, gB, gC]; exact rfl))
                case q25__0 => exact fun _ _ _ h => h
                case y25__0 => (refine Or.inl ⟨rfl, ?_⟩; intro w hSw; (first | rfl | (go_simp; (try with_reducible rfl))))
                (try simp only [Act.put, sA, sB, sC])
                refine wpAnyH_take (i := 1) (oi := ?o25__1) (v := .slice (some ⟨gl, offl, none⟩) nl cl) ?h25__1 (by kernel_rfl) (by kernel_rfl) (by kernel_rfl) ?q25__1 ?y25__1 (by assumption) ?_
                case h25__1 => (first | (simp only [gA, gB, gC]; done) | (simp only [gA, gB, gC]; exact rfl))
                case q25__1 => exact fun _ _ _ h => h
                case y25__1 => (refine Or.inl ⟨rfl, ?_⟩; intro w hSw; (first | rfl | (go_simp; (try with_reducible rfl))))
                (try simp only [Act.put, sA, sB, sC])
                refine wpAnyH_take (i := 2) (oi := ?o25__2) (v := .int .i64 (nl : Int)) ?h25__2 (by kernel_rfl) (by kernel_rfl) (by kernel_rfl) ?q25__2 ?y25__2 (by assumption) ?_
                case h25__2 => (first | (simp only [gA, gB, gC]; done) | (simp only [gA, gB, gC]; exact rfl))
                case q25__2 => exact fun _ _ _ h => h
                case y25__2 => (refine Or.inl ⟨rfl, ?_⟩; intro w hSw; (first | rfl | (go_simp; (try with_reducible rfl))))
                (try simp only [Act.put, sA, sB, sC])
                refine wpAnyH_take (i := 3) (oi := ?o25__3) (v := .bool false) ?h25__3 (by kernel_rfl) (by kernel_rfl) (by kernel_rfl) ?q25__3 ?y25__3 (by assumption) ?_
                case h25__3 => (first | (simp only [gA, gB, gC]; done) | (simp only [gA, gB, gC]; exact rfl))
                case q25__3 => exact fun _ _ _ h => h
                case y25__3 => (refine Or.inl ⟨rfl, ?_⟩; intro w hSw; (have q := HPD.out.1; go_simp; (first | done | omega)))
                (try simp only [Act.put, sA, sB, sC])
                refine wpAnyH_take (i := 4) (oi := ?o25__4) (v := .bool false) ?h25__4 (by kernel_rfl) (by kernel_rfl) (by kernel_rfl) ?q25__4 ?y25__4 (by assumption) ?_
                case h25__4 => (first | (simp only [gA, gB, gC]; done) | (simp only [gA, gB, gC]; exact rfl))
                case q25__4 => exact fun _ _ _ h => h
                case y25__4 => (refine Or.inl ⟨rfl, ?_⟩; intro w hSw; (first | rfl | (go_simp; (try with_reducible rfl))))
                (try simp only [Act.put, sA, sB, sC])
                refine wpAnyH_take (i := 5) (oi := ?o25__5) (v := .slice Ap p.length cp) ?h25__5 (by kernel_rfl) (by kernel_rfl) (by kernel_rfl) ?q25__5 ?y25__5 (by assumption) ?_
                case h25__5 => (first | (simp only [gA, gB, gC]; done) | (simp only [gA, gB, gC]; exact rfl))
                case q25__5 => exact fun _ _ _ h => h
                case y25__5 => (refine Or.inl ⟨rfl, ?_⟩; intro w hSw; (first | rfl | (go_simp; (try with_reducible rfl))))
                (try simp only [Act.put, sA, sB, sC])
                refine wpAnyH_take (i := 6) (oi := ?o25__6) (v := .string (strOfNums p)) ?h25__6 (by kernel_rfl) (by kernel_rfl) (by kernel_rfl) ?q25__6 ?y25__6 (by assumption) ?_
                case h25__6 => (first | (simp only [gA, gB, gC]; done) | (simp only [gA, gB, gC]; exact rfl))
                case q25__6 => exact fun _ _ _ h => h
                case y25__6 => (refine Or.inl ⟨rfl, ?_⟩; intro w hSw; exact exec_str 22 5 9 _ hSw.2.2.2 rfl rfl Try.underlying22 Try.underlying5 Try.underlying9)
                (try simp only [Act.put, sA, sB, sC])
                refine wpAnyH_take (i := 7) (oi := ?o25__7) (v := .slice (some ⟨gl, offl, none⟩) nl cl) ?h25__7 (by kernel_rfl) (by kernel_rfl) (by kernel_rfl) ?q25__7 ?y25__7 (by assumption) ?_
                case h25__7 => (first | (simp only [gA, gB, gC]; done) | (simp only [gA, gB, gC]; exact rfl))
                case q25__7 => exact fun _ _ _ h => h
                case y25__7 => (refine Or.inl ⟨rfl, ?_⟩; intro w hSw; (first | rfl | (go_simp; (try with_reducible rfl))))
                (try simp only [Act.put, sA, sB, sC])
                refine wpAnyH_take (i := 8) (oi := ?o25__8) (v := .int .i64 (got2 : Int)) ?h25__8 (by kernel_rfl) (by kernel_rfl) (by kernel_rfl) ?q25__8 ?y25__8 (by assumption) ?_
                case h25__8 => (first | (simp only [gA, gB, gC]; done) | (simp only [gA, gB, gC]; exact rfl))
                case q25__8 => exact fun _ _ _ h => h
                case y25__8 => (refine Or.inl ⟨rfl, ?_⟩; intro w hSw; (first | rfl | (go_simp; (try with_reducible rfl))))
                (try simp only [Act.put, sA, sB, sC])
                refine wpAnyH_take (i := 9) (oi := ?o25__9) (v := .pointer (some ⟨gl, (offl + got2 * 1), none⟩)) ?h25__9 (by kernel_rfl) (by kernel_rfl) (by kernel_rfl) ?q25__9 ?y25__9 (by assumption) ?_
                case h25__9 => (first | (simp only [gA, gB, gC]; done) | (simp only [gA, gB, gC]; exact rfl))
                case q25__9 => exact fun _ _ _ h => h
                case y25__9 => (refine Or.inl ⟨rfl, ?_⟩; intro w hSw; exact exec_index (i := got2) (s := 1) 37 22 _ _ rfl rfl rfl rfl HPD.out.1 Try.underlying37 (by kernel_rfl))
                (try simp only [Act.put, sA, sB, sC])
                refine wpAnyH_take (i := 10) (oi := ?o25__10) (v := .slice (ps got2).A (ps got2).n (ps got2).c) ?h25__10 (by kernel_rfl) (by kernel_rfl) (by kernel_rfl) ?q25__10 ?y25__10 (by assumption) ?_
                case h25__10 => (first | (simp only [gA, gB, gC]; done) | (simp only [gA, gB, gC]; exact rfl))
                case q25__10 => exact fun _ _ _ h => h
                case y25__10 => (refine Or.inl ⟨rfl, ?_⟩; intro w hSw; exact exec_at 22 _ _ (by rw [Nat.mul_one]; exact keep_cell hSw.1 HCE.out) rfl rfl Try.underlying22 rfl)
                (try simp only [Act.put, sA, sB, sC])
                refine wpAnyH_take (i := 11) (oi := ?o25__11) (v := .string (strOfNums p)) ?h25__11 (by kernel_rfl) (by kernel_rfl) (by kernel_rfl) ?q25__11 ?y25__11 (by assumption) ?_
                case h25__11 => (first | (simp only [gA, gB, gC]; done) | (simp only [gA, gB, gC]; exact rfl))
                case q25__11 => exact fun _ _ _ h => h
                case y25__11 => (refine Or.inl ⟨rfl, ?_⟩; intro w hSw; (rw [HPZ.out]; exact exec_str 22 5 9 _ (keep_bv hSw.1 HBI.out) rfl rfl Try.underlying22 Try.underlying5 Try.underlying9))
                (try simp only [Act.put, sA, sB, sC])
                refine wpAnyH_take (i := 12) (oi := ?o25__12) (v := .bool false) ?h25__12 (by kernel_rfl) (by kernel_rfl) (by kernel_rfl) ?q25__12 ?y25__12 (by assumption) ?_
                case h25__12 => (first | (simp only [gA, gB, gC]; done) | (simp only [gA, gB, gC]; exact rfl))
                case q25__12 => exact fun _ _ _ h => h
                case y25__12 => (refine Or.inl ⟨rfl, ?_⟩; intro w hSw; (go_simp; (first | done | rfl | simp)))
                (try simp only [Act.put, sA, sB, sC])
                refine wpAnyH_take (i := 13) (oi := ?o25__13) (v := .bool false) ?h25__13 (by kernel_rfl) (by kernel_rfl) (by kernel_rfl) ?q25__13 ?y25__13 (by assumption) ?_
                case h25__13 => (first | (simp only [gA, gB, gC]; done) | (simp only [gA, gB, gC]; exact rfl))
                case q25__13 => exact fun _ _ _ h => h
                case y25__13 => (refine Or.inl ⟨rfl, ?_⟩; intro w hSw; (first | rfl | (go_simp; (try with_reducible rfl))))
                (try simp only [Act.put, sA, sB, sC])
                refine wpAnyH_done (by kernel_rfl) ?_ _
                have HSd25 := Lib.hid hHeld.1
                have HFad25 := Lib.hid (hHeld.2.1)
                have HFsd25 := Lib.hid (hHeld.2.2.1)
                have HFbpd25 := Lib.hid (hHeld.2.2.2)
                clear hHeld HRK HRD HS154 HFa154 HFs154 HBVP
                go_upto_region 27 with fail
                refine wp_region_lit ?_
                refine wpList_q (by rfl) (.int .i64 (got2 : Int)) ?he ?_
                case he => (first | rfl | (go_simp; (try with_reducible rfl)))
                (try simp only [Act.put, sA, sB, sC])
                refine wpList_q (by rfl) (.int .i64 ((got2 : Int) + 1)) ?he ?_
                case he => (go_simp; (first | done | (have q := HPD.out.1; have q1 := HNL.out; exact wr64 _ (by omega) (by omega))))
                (try simp only [Act.put, sA, sB, sC])
                refine wpList_q (by rfl) (.int .i64 ((got2 : Int) + 1)) ?he ?_
                case he => (first | rfl | (go_simp; (try with_reducible rfl)))
                (try simp only [Act.put, sA, sB, sC])
                refine wpList_nil ?_
                go_wp2_with fail
                refine ⟨?_, ?measure⟩
                (repeat apply Exists.intro)
                refine ⟨?rel, rfl⟩
                case rel =>
                  have hg3 : got2 + 1 ≤ nl := HPD.out.1
                  refine ⟨got2 + 1, rest, qs3, Ss_2, hg3, ?_, ?_⟩
                  · go_num
                  · have ha := HPD.out.2.2
                    have hb := HGR.out
                    exact Lib.hid ⟨ha, hb, HDDa_s_154.out, HSd25.out, HFad25.out, HFsd25.out⟩
                case measure => have := HPD.out.1; simp [intOf]; omega
          · have HIP := Lib.hid hcs; clear hcs
            obtain ⟨gp, offp, hAp, _, _⟩ := HP.out.addr (by have := HIP.out; omega)
            subst hAp
            obtain ⟨mz, hmz⟩ : ∃ mz : Nat, zs.getD i3 0 = (mz : Int) ∧ mz < 256 := ⟨(zs.getD i3 0).toNat, by have q := getD_isB HP.out.2.2.1 i3; unfold isB at q; omega⟩
            have HMZ := Lib.hid hmz; clear hmz
            by_cases hcs : mz < ys.length - at_
            rotate_left
            · have HMN := Lib.hid hcs; clear hcs
              go_upto_region 19 with fail
              refine wp_region_lit ?_
              refine wpList_q (by rfl) (.int .i64 (i3 : Int)) ?he ?_
              case he => (first | rfl | (go_simp; (try with_reducible rfl)))
              (try simp only [Act.put, sA, sB, sC])
              refine wpList_q (by rfl) (.slice (some ⟨gp, offp, none⟩) np cp) ?he ?_
              case he => (first | rfl | (go_simp; (try with_reducible rfl)))
              (try simp only [Act.put, sA, sB, sC])
              refine wpList_q (by rfl) (.int .i64 (np : Int)) ?he ?_
              case he => (first | rfl | (go_simp; (try with_reducible rfl)))
              (try simp only [Act.put, sA, sB, sC])
              refine wpList_q (by rfl) (.bool true) ?he ?_
              case he => (have q0 := HIP.out; go_simp; (first | done | rfl | omega))
              (try simp only [Act.put, sA, sB, sC])
              refine wpList_q (by rfl) (.bool true) ?he ?_
              case he => (first | rfl | (go_simp; (try with_reducible rfl)))
              (try simp only [Act.put, sA, sB, sC])
              refine wpList_q (by rfl) (.slice (some ⟨gp, offp, none⟩) np cp) ?he ?_
              case he => (first | rfl | (go_simp; (try with_reducible rfl)))
              (try simp only [Act.put, sA, sB, sC])
              refine wpList_q (by rfl) (.int .i64 (i3 : Int)) ?he ?_
              case he => (first | rfl | (go_simp; (try with_reducible rfl)))
              (try simp only [Act.put, sA, sB, sC])
              refine wpList_q (by rfl) (.pointer (some ⟨gp, (offp + i3 * 1), none⟩)) ?he ?_
              case he => exact exec_index (i := i3) (s := 1) 22 5 _ _ rfl rfl rfl rfl HIP.out Try.underlying22 (by kernel_rfl)
              (try simp only [Act.put, sA, sB, sC])
              refine wpList_q (by rfl) (.int .u8 (mz : Int)) ?he ?_
              case he => exact exec_at 5 _ _ (by rw [Nat.mul_one]; exact keep_cell HS102.out (bv_at HP.out i3 HIP.out HMZ.out.1)) rfl rfl Try.underlying5 rfl
              (try simp only [Act.put, sA, sB, sC])
              refine wpList_q (by rfl) (.int .i64 (mz : Int)) ?he ?_
              case he => (go_simp; (first | done | rfl | (have q := HMZ.out.2; exact wr64 _ (by omega) (by omega))))
              (try simp only [Act.put, sA, sB, sC])
              refine wpList_q (by rfl) (.int .i64 ((ys.length - at_ : Nat) : Int)) ?he ?_
              case he => (first | rfl | (go_simp; (try with_reducible rfl)))
              (try simp only [Act.put, sA, sB, sC])
              refine wpList_q (by rfl) (.bool false) ?he ?_
              case he => (have q0 := HMN.out; go_simp; (first | done | rfl | omega))
              (try simp only [Act.put, sA, sB, sC])
              refine wpList_q (by rfl) (.bool false) ?he ?_
              case he => (first | rfl | (go_simp; (try with_reducible rfl)))
              (try simp only [Act.put, sA, sB, sC])
              refine wpList_nil ?_
              obtain ⟨m, hm⟩ : ∃ m, m = ys.length - at_ := ⟨_, rfl⟩
              have HM := Lib.hid (show m ≤ ys.length - at_ by omega)
              have HI4 := Lib.hid (show at_ + m < ys.length → i3 + 1 ≤ np from fun h0 => by have := HAT.out; omega)
              have HMEAS := Lib.hid (show i3 < np ∨ at_ + m = ys.length from .inr (by have := HAT.out; omega))
              rw [← hm]
              clear hm
              have HBA := Lib.hid (BV.cut (bv_drop (BV.of_own HFa102.out HYB.out) HAT.out HCP.out) HM.out)
              go_upto_region 21 with fail
              refine wp_region_lit ?_
              refine wpList_q (by rfl) (.pointer (some ⟨bn73, 0, none⟩)) ?he ?_
              case he => (first | rfl | (go_simp; (try with_reducible rfl)))
              (try simp only [Act.put, sA, sB, sC])
              refine wpList_q (by rfl) (.slice A ys.length c) ?he ?_
              case he => (first | rfl | (go_simp; (try with_reducible rfl)))
              (try simp only [Act.put, sA, sB, sC])
              refine wpList_q (by rfl) (.int .i64 (at_ : Int)) ?he ?_
              case he => (first | rfl | (go_simp; (try with_reducible rfl)))
              (try simp only [Act.put, sA, sB, sC])
              refine wpList_q (by rfl) (.int .i64 (at_ : Int)) ?he ?_
              case he => (first | rfl | (go_simp; (try with_reducible rfl)))
              (try simp only [Act.put, sA, sB, sC])
              refine wpList_q (by rfl) (.int .i64 (m : Int)) ?he ?_
              case he => (first | rfl | (go_simp; (try with_reducible rfl)))
              (try simp only [Act.put, sA, sB, sC])
              refine wpList_q (by rfl) (.int .i64 ((at_ + m : Nat) : Int)) ?he ?_
              case he => (go_simp; (first | done | (have q := HM.out; have q1 := HYL.out; have q2 := HAT.out; rw [wr64 _ (by omega) (by omega)]; push_cast; rfl) | (have q := HM.out; have q1 := HYL.out; have q2 := HAT.out; exact wr64 _ (by omega) (by omega))))
              (try simp only [Act.put, sA, sB, sC])
              refine wpList_q (by rfl) (.slice (cutA c at_ A 1) m (c - at_)) ?he ?_
              case he => exact exec_slice (s := 1) 22 5 _ _ _ _ rfl rfl Try.underlying22 (by kernel_rfl) (sb_lh _ _ _ (l := at_) (h := at_ + m) rfl rfl (by omega) (by have := HM.out; have := HAT.out; have := HCP.out; omega)) (by rfl) (by omega) rfl
              (try simp only [Act.put, sA, sB, sC])
              refine wpList_wp (by rfl) (fun K hK => ?_)
              (try go_simp)
              refine (feedV w.heap.size bn73 at_ xs Ss (cutA c at_ A 1) m (c - at_) ((ys.drop at_).take m) _ HFs102.out HBA.out (by have := HM.out; have := HYL.out; have := HAT.out; omega) (at_ + m) (xs ++ (ys.drop at_).take m) rfl rfl).mono ?_
              rintro e w103 ⟨Ss_3, rfl, hobj, hupd, hfar⟩
              (try go_wp2_with fail)
              refine hK.out _ _ ?_
              clear hK K
              (try simp only [Act.put, sA, sB, sC])
              have HS103 := Lib.hid (Since.upd HS102.out hupd (SO.low HFs102.out))
              have HFa103 := Lib.hid (Upd.own hupd HFa102.out HDS.out)
              have HDDa_s_103 := Lib.hid (dis_next hfar HDS.out (own_lt HFa102.out))
              have HFs103 := Lib.hid hobj
              clear hupd hobj hfar HS102 HFa102 HFs102
              refine wpList_nil ?_
              go_upto_region 22 with fail
              refine wp_region_lit ?_
              refine wpList_q (by rfl) (.int .i64 (at_ : Int)) ?he ?_
              case he => (first | rfl | (go_simp; (try with_reducible rfl)))
              (try simp only [Act.put, sA, sB, sC])
              refine wpList_q (by rfl) (.int .i64 (m : Int)) ?he ?_
              case he => (first | rfl | (go_simp; (try with_reducible rfl)))
              (try simp only [Act.put, sA, sB, sC])
              refine wpList_q (by rfl) (.int .i64 ((at_ + m : Nat) : Int)) ?he ?_
              case he => (go_simp; (first | done | (have q := HM.out; have q1 := HYL.out; have q2 := HAT.out; rw [wr64 _ (by omega) (by omega)]; push_cast; rfl) | (have q := HM.out; have q1 := HYL.out; have q2 := HAT.out; exact wr64 _ (by omega) (by omega))))
              (try simp only [Act.put, sA, sB, sC])
              refine wpList_q (by rfl) (.int .i64 ((at_ + m : Nat) : Int)) ?he ?_
              case he => (first | rfl | (go_simp; (try with_reducible rfl)))
              (try simp only [Act.put, sA, sB, sC])
              refine wpList_nil ?_
              go_wp2_with fail
              have HG0 := Lib.hid (show G qs ((xs ++ (ys.drop at_).take m) ++ ys.drop (at_ + m)) by rw [List.append_assoc, ← List.drop_drop, List.take_append_drop]; exact HG.out)
              go_loopw [12] (fun s12 wr => ∃ (got2 : Nat) (xs2 : List Int) (qs2 : List (List Int)) (S2 : List Nat), got2 ≤ nl ∧ s12 = .int .i64 (got2 : Int) ∧ Hid (qs2 = (Ps ps nl).drop got2 ∧ G qs2 (xs2 ++ ys.drop (at_ + m)) ∧ (∀ g ∈ blkOf A, g ∉ S2) ∧ Since w wr ∧ (wr).ownsRow w.heap.size 5 1 (.slice A ys.length c) ys.length (cells ys) ∧ SO w.heap.size bn73 (at_ + m) xs2 S2 wr)) (fun s12 wq => ((nl : Int) - intOf s12).toNat)
              case atStart => exact ⟨got, (xs ++ (ys.drop at_).take m), qs, Ss_3, HGOT.out, rfl, Lib.hid ⟨HQS.out, HG0.out, HDDa_s_103.out, HS103.out, HFa103.out, HFs103.out⟩⟩
              case round =>
                obtain ⟨got2, xs2, qs2, S2, hg2, rfl, HO⟩ := hrel
                obtain ⟨e0, e1, e2, g0, g1, g2⟩ := HO.out
                clear HO HS103 HFa103 HFs103
                have HQ2 := Lib.hid e0
                have HG2 := Lib.hid e1
                have HDS2 := Lib.hid e2
                have HS153 := Lib.hid g0
                have HFa153 := Lib.hid g1
                have HFs153 := Lib.hid g2
                clear e0 e1 e2 g0 g1 g2
                have HGT2 := Lib.hid hg2; clear hg2
                rcases G_next qs2 xs2 (ys.drop (at_ + m)) HG2.out with ⟨rest, hn, hg, hu⟩ | ⟨p, qs3, rest, hq, hn, hg⟩
                · have HNX := Lib.hid hn; have HGR := Lib.hid hg; have HU := Lib.hid hu; clear hn hg hu
                  go_upto_region 23 with fail
                  refine wp_region_lit ?_
                  refine wpList_q (by rfl) (.pointer (some ⟨bn73, 0, none⟩)) ?he ?_
                  case he => (first | rfl | (go_simp; (try with_reducible rfl)))
                  (try simp only [Act.put, sA, sB, sC])
                  refine wpList_wp (by rfl) (fun K hK => ?_)
                  (try go_simp)
                  refine (nextN w.heap.size bn73 (at_ + m) xs2 rest S2 _ HFs153.out (by have := HM.out; have := HYL.out; have := HAT.out; omega) HNX.out).mono ?_
                  rintro e w154 ⟨Ss_4, rfl, hobj, hupd, hfar⟩
                  (try go_wp2_with fail)
                  refine hK.out _ _ ?_
                  clear hK K
                  (try simp only [Act.put, sA, sB, sC])
                  have HS154 := Lib.hid (Since.upd HS153.out hupd (SO.low HFs153.out))
                  have HFa154 := Lib.hid (Upd.own hupd HFa153.out HDS2.out)
                  have HDDa_s_154 := Lib.hid (dis_next hfar HDS2.out (own_lt HFa153.out))
                  have HFs154 := Lib.hid hobj
                  clear hupd hobj hfar HS153 HFa153 HFs153
                  refine wpList_q (by rfl) (.tuple #[.slice none 0 0, .bool false]) ?he ?_
                  case he => (first | rfl | (go_simp; (try with_reducible rfl)))
                  (try simp only [Act.put, sA, sB, sC])
                  refine wpList_q (by rfl) (.slice none 0 0) ?he ?_
                  case he => (first | rfl | (go_simp; (try with_reducible rfl)))
                  (try simp only [Act.put, sA, sB, sC])
                  refine wpList_q (by rfl) (.bool false) ?he ?_
                  case he => (first | rfl | (go_simp; (try with_reducible rfl)))
                  (try simp only [Act.put, sA, sB, sC])
                  refine wpList_q (by rfl) (.slice none 0 0) ?he ?_
                  case he => (first | rfl | (go_simp; (try with_reducible rfl)))
                  (try simp only [Act.put, sA, sB, sC])
                  refine wpList_q (by rfl) (.bool false) ?he ?_
                  case he => (first | rfl | (go_simp; (try with_reducible rfl)))
                  (try simp only [Act.put, sA, sB, sC])
                  refine wpList_nil ?_
                  go_upto_region 24 with fail
                  refine wp_region_lit ?_
                  refine wpList_q (by rfl) (.bool false) ?he ?_
                  case he => (first | rfl | (go_simp; (try with_reducible rfl)))
                  (try simp only [Act.put, sA, sB, sC])
                  refine wpList_q (by rfl) (.bool true) ?he ?_
                  case he => (go_simp; (try with_reducible rfl))
                  (try simp only [Act.put, sA, sB, sC])
                  refine wpList_nil ?_
                  go_upto_region 17 with fail
                  refine wp_region_lit ?_
                  refine wpList_q (by rfl) (.int .i64 (i3 : Int)) ?he ?_
                  case he => (first | rfl | (go_simp; (try with_reducible rfl)))
                  (try simp only [Act.put, sA, sB, sC])
                  refine wpList_q (by rfl) (.int .i64 ((i3 : Int) + 1)) ?he ?_
                  case he => (go_simp; (first | done | (have q := HI3.out; have q1 := HNP.out; exact wr64 _ (by omega) (by omega))))
                  (try simp only [Act.put, sA, sB, sC])
                  refine wpList_q (by rfl) (.int .i64 ((i3 : Int) + 1)) ?he ?_
                  case he => (first | rfl | (go_simp; (try with_reducible rfl)))
                  (try simp only [Act.put, sA, sB, sC])
                  refine wpList_nil ?_
                  go_wp2_with fail
                  go_roundw
                  case rel => exact ⟨at_ + m, got2, i3 + 1, rest, qs2, Ss_4, by have := HM.out; have := HAT.out; omega, HGT2.out, by go_num, rfl, by go_num, Lib.hid ⟨HQ2.out, HGR.out, fun h0 => HU.out (List.drop_eq_nil_of_le (by omega)), ⟨by have q := HI3.out; have := q.2 HAE.out; omega, fun h0 => HI4.out h0⟩, HDDa_s_154.out, HS154.out, HFa154.out, HFs154.out⟩⟩
                  case measure => have q := HMEAS.out; have := HM.out; have := HAT.out; have := HAE.out; simp [intOf]; omega
                · have HNX := Lib.hid hn; have HGR := Lib.hid hg; clear hn hg
                  have HPD := Lib.hid (Ps_drop (HQ2.out.symm.trans hq)); clear hq
                  obtain ⟨gl, offl, hAl, hcl⟩ := Parts.at_ HPL.out HPD.out.1
                  have hci := hcl got2 HPD.out.1; clear hcl
                  subst hAl
                  have HCE := Lib.hid hci.1; have HBI := Lib.hid hci.2.1; have HCI := Lib.hid hci.2.2; clear hci
                  have HPZ := Lib.hid HPD.out.2.1
                  go_upto_region 23 with fail
                  refine wp_region_lit ?_
                  refine wpList_q (by rfl) (.pointer (some ⟨bn73, 0, none⟩)) ?he ?_
                  case he => (first | rfl | (go_simp; (try with_reducible rfl)))
                  (try simp only [Act.put, sA, sB, sC])
                  refine wpList_wp (by rfl) (fun K hK => ?_)
                  (try go_simp)
                  refine (nextS w.heap.size bn73 (at_ + m) xs2 p rest S2 _ HFs153.out (by have := HM.out; have := HYL.out; have := HAT.out; omega) p.length rfl (by rw [HPZ.out]; exact HBI.out.2.2.1) HNX.out).mono ?_
                  rintro e w154 ⟨Ss_4, Ap, cp, rfl, hobj, hupd, hfar, hbvp, hcp⟩
                  (try go_wp2_with fail)
                  refine hK.out _ _ ?_
                  clear hK K
                  (try simp only [Act.put, sA, sB, sC])
                  have HS154 := Lib.hid (Since.upd HS153.out hupd (SO.low HFs153.out))
                  have HFa154 := Lib.hid (Upd.own hupd HFa153.out HDS2.out)
                  have HDDa_s_154 := Lib.hid (dis_next hfar HDS2.out (own_lt HFa153.out))
                  have HFs154 := Lib.hid hobj
                  clear hupd hobj hfar HS153 HFa153 HFs153
                  have HBVP := Lib.hid hbvp; have HCPP := Lib.hid hcp; clear hbvp hcp
                  refine wpList_q (by rfl) (.tuple #[.slice Ap p.length cp, .bool true]) ?he ?_
                  case he => (first | rfl | (go_simp; (try with_reducible rfl)))
                  (try simp only [Act.put, sA, sB, sC])
                  refine wpList_q (by rfl) (.slice Ap p.length cp) ?he ?_
                  case he => (first | rfl | (go_simp; (try with_reducible rfl)))
                  (try simp only [Act.put, sA, sB, sC])
                  refine wpList_q (by rfl) (.bool true) ?he ?_
                  case he => (first | rfl | (go_simp; (try with_reducible rfl)))
                  (try simp only [Act.put, sA, sB, sC])
                  refine wpList_q (by rfl) (.slice Ap p.length cp) ?he ?_
                  case he => (first | rfl | (go_simp; (try with_reducible rfl)))
                  (try simp only [Act.put, sA, sB, sC])
                  refine wpList_q (by rfl) (.bool true) ?he ?_
                  case he => (first | rfl | (go_simp; (try with_reducible rfl)))
                  (try simp only [Act.put, sA, sB, sC])
                  refine wpList_nil ?_
                  go_upto_region 24 with fail
                  refine wp_region_lit ?_
                  refine wpList_q (by rfl) (.bool true) ?he ?_
                  case he => (first | rfl | (go_simp; (try with_reducible rfl)))
                  (try simp only [Act.put, sA, sB, sC])
                  refine wpList_q (by rfl) (.bool false) ?he ?_
                  case he => (go_simp; (try with_reducible rfl))
                  (try simp only [Act.put, sA, sB, sC])
                  refine wpList_nil ?_
                  go_upto_region 25 with fail
                  have hrK : ∀ W W' : World, Since W W' → (Since w W ∧ (W).ownsRow w.heap.size 5 1 (.slice A ys.length c) ys.length (cells ys) ∧ SO w.heap.size bn73 (at_ + m) rest Ss_4 W ∧ BV W Ap p.length p) → (Since w W' ∧ (W').ownsRow w.heap.size 5 1 (.slice A ys.length c) ys.length (cells ys) ∧ SO w.heap.size bn73 (at_ + m) rest Ss_4 W' ∧ BV W' Ap p.length p) := fun W W' k ⟨h, h0, h1, h2⟩ => ⟨h.trans k, keep_own k h0, SO.keep k h1, keep_bv k h2⟩
                  have hrS : (fun W : World => Since w W ∧ (W).ownsRow w.heap.size 5 1 (.slice A ys.length c) ys.length (cells ys) ∧ SO w.heap.size bn73 (at_ + m) rest Ss_4 W ∧ BV W Ap p.length p) w154 := ⟨HS154.out, HFa154.out, HFs154.out, HBVP.out⟩
                  have HRK := Lib.hid hrK
                  have HRD := Lib.hid (show (fun W : World => Since w W ∧ (W).ownsRow w.heap.size 5 1 (.slice A ys.length c) ys.length (cells ys) ∧ SO w.heap.size bn73 (at_ + m) rest Ss_4 W ∧ BV W Ap p.length p) (World.drew w154) from ⟨Since.drew hrS.1, hrS.2⟩)
                  clear hrK hrS
                  refine wp_region_held_drew (S := fun W : World => Since w W ∧ (W).ownsRow w.heap.size 5 1 (.slice A ys.length c) ys.length (cells ys) ∧ SO w.heap.size bn73 (at_ + m) rest Ss_4 W ∧ BV W Ap p.length p) (by kernel_rfl) HRD.out (fun hHeld => ?_)
                  refine wpAnyH_take (i := 0) (oi := ?o25__0) (v := .int .i64 (got2 : Int)) ?h25__0 (by kernel_rfl) (by kernel_rfl) (by kernel_rfl) ?q25__0 ?y25__0 (by assumption) ?_
                  case h25__0 => (first | (simp only [gA, gB, gC]; done) | (simp only [gA, gB, gC]; exact rfl))
                  case q25__0 => exact fun _ _ _ h => h
                  case y25__0 => (refine Or.inl ⟨rfl, ?_⟩; intro w hSw; (first | rfl | (go_simp; (try with_reducible rfl))))
                  (try simp only [Act.put, sA, sB, sC])
                  refine wpAnyH_take (i := 1) (oi := ?o25__1) (v := .slice (some ⟨gl, offl, none⟩) nl cl) ?h25__1 (by kernel_rfl) (by kernel_rfl) (by kernel_rfl) ?q25__1 ?y25__1 (by assumption) ?_
                  case h25__1 => (first | (simp only [gA, gB, gC]; done) | (simp only [gA, gB, gC]; exact rfl))
                  case q25__1 => exact fun _ _ _ h => h
                  case y25__1 => (refine Or.inl ⟨rfl, ?_⟩; intro w hSw; (first | rfl | (go_simp; (try with_reducible rfl))))
                  (try simp only [Act.put, sA, sB, sC])
                  refine wpAnyH_take (i := 2) (oi := ?o25__2) (v := .int .i64 (nl : Int)) ?h25__2 (by kernel_rfl) (by kernel_rfl) (by kernel_rfl) ?q25__2 ?y25__2 (by assumption) ?_
                  case h25__2 => (first | (simp only [gA, gB, gC]; done) | (simp only [gA, gB, gC]; exact rfl))
                  case q25__2 => exact fun _ _ _ h => h
                  case y25__2 => (refine Or.inl ⟨rfl, ?_⟩; intro w hSw; (first | rfl | (go_simp; (try with_reducible rfl))))
                  (try simp only [Act.put, sA, sB, sC])
                  refine wpAnyH_take (i := 3) (oi := ?o25__3) (v := .bool false) ?h25__3 (by kernel_rfl) (by kernel_rfl) (by kernel_rfl) ?q25__3 ?y25__3 (by assumption) ?_
                  case h25__3 => (first | (simp only [gA, gB, gC]; done) | (simp only [gA, gB, gC]; exact rfl))
                  case q25__3 => exact fun _ _ _ h => h
                  case y25__3 => (refine Or.inl ⟨rfl, ?_⟩; intro w hSw; (have q := HPD.out.1; go_simp; (first | done | omega)))
                  (try simp only [Act.put, sA, sB, sC])
                  refine wpAnyH_take (i := 4) (oi := ?o25__4) (v := .bool false) ?h25__4 (by kernel_rfl) (by kernel_rfl) (by kernel_rfl) ?q25__4 ?y25__4 (by assumption) ?_
                  case h25__4 => (first | (simp only [gA, gB, gC]; done) | (simp only [gA, gB, gC]; exact rfl))
                  case q25__4 => exact fun _ _ _ h => h
                  case y25__4 => (refine Or.inl ⟨rfl, ?_⟩; intro w hSw; (first | rfl | (go_simp; (try with_reducible rfl))))
                  (try simp only [Act.put, sA, sB, sC])
                  refine wpAnyH_take (i := 5) (oi := ?o25__5) (v := .slice Ap p.length cp) ?h25__5 (by kernel_rfl) (by kernel_rfl) (by kernel_rfl) ?q25__5 ?y25__5 (by assumption) ?_
                  case h25__5 => (first | (simp only [gA, gB, gC]; done) | (simp only [gA, gB, gC]; exact rfl))
                  case q25__5 => exact fun _ _ _ h => h
                  case y25__5 => (refine Or.inl ⟨rfl, ?_⟩; intro w hSw; (first | rfl | (go_simp; (try with_reducible rfl))))
                  (try simp only [Act.put, sA, sB, sC])
                  refine wpAnyH_take (i := 6) (oi := ?o25__6) (v := .string (strOfNums p)) ?h25__6 (by kernel_rfl) (by kernel_rfl) (by kernel_rfl) ?q25__6 ?y25__6 (by assumption) ?_
                  case h25__6 => (first | (simp only [gA, gB, gC]; done) | (simp only [gA, gB, gC]; exact rfl))
                  case q25__6 => exact fun _ _ _ h => h
                  case y25__6 => (refine Or.inl ⟨rfl, ?_⟩; intro w hSw; exact exec_str 22 5 9 _ hSw.2.2.2 rfl rfl Try.underlying22 Try.underlying5 Try.underlying9)
                  (try simp only [Act.put, sA, sB, sC])
                  refine wpAnyH_take (i := 7) (oi := ?o25__7) (v := .slice (some ⟨gl, offl, none⟩) nl cl) ?h25__7 (by kernel_rfl) (by kernel_rfl) (by kernel_rfl) ?q25__7 ?y25__7 (by assumption) ?_
                  case h25__7 => (first | (simp only [gA, gB, gC]; done) | (simp only [gA, gB, gC]; exact rfl))
                  case q25__7 => exact fun _ _ _ h => h
                  case y25__7 => (refine Or.inl ⟨rfl, ?_⟩; intro w hSw; (first | rfl | (go_simp; (try with_reducible rfl))))
                  (try simp only [Act.put, sA, sB, sC])
                  refine wpAnyH_take (i := 8) (oi := ?o25__8) (v := .int .i64 (got2 : Int)) ?h25__8 (by kernel_rfl) (by kernel_rfl) (by kernel_rfl) ?q25__8 ?y25__8 (by assumption) ?_
                  case h25__8 => (first | (simp only [gA, gB, gC]; done) | (simp only [gA, gB, gC]; exact rfl))
                  case q25__8 => exact fun _ _ _ h => h
                  case y25__8 => (refine Or.inl ⟨rfl, ?_⟩; intro w hSw; (first | rfl | (go_simp; (try with_reducible rfl))))
                  (try simp only [Act.put, sA, sB, sC])
                  refine wpAnyH_take (i := 9) (oi := ?o25__9) (v := .pointer (some ⟨gl, (offl + got2 * 1), none⟩)) ?h25__9 (by kernel_rfl) (by kernel_rfl) (by kernel_rfl) ?q25__9 ?y25__9 (by assumption) ?_
                  case h25__9 => (first | (simp only [gA, gB, gC]; done) | (simp only [gA, gB, gC]; exact rfl))
                  case q25__9 => exact fun _ _ _ h => h
                  case y25__9 => (refine Or.inl ⟨rfl, ?_⟩; intro w hSw; exact exec_index (i := got2) (s := 1) 37 22 _ _ rfl rfl rfl rfl HPD.out.1 Try.underlying37 (by kernel_rfl))
                  (try simp only [Act.put, sA, sB, sC])
                  refine wpAnyH_take (i := 10) (oi := ?o25__10) (v := .slice (ps got2).A (ps got2).n (ps got2).c) ?h25__10 (by kernel_rfl) (by kernel_rfl) (by kernel_rfl) ?q25__10 ?y25__10 (by assumption) ?_
                  case h25__10 => (first | (simp only [gA, gB, gC]; done) | (simp only [gA, gB, gC]; exact rfl))
                  case q25__10 => exact fun _ _ _ h => h
                  case y25__10 => (refine Or.inl ⟨rfl, ?_⟩; intro w hSw; exact exec_at 22 _ _ (by rw [Nat.mul_one]; exact keep_cell hSw.1 HCE.out) rfl rfl Try.underlying22 rfl)
                  (try simp only [Act.put, sA, sB, sC])
                  refine wpAnyH_take (i := 11) (oi := ?o25__11) (v := .string (strOfNums p)) ?h25__11 (by kernel_rfl) (by kernel_rfl) (by kernel_rfl) ?q25__11 ?y25__11 (by assumption) ?_
                  case h25__11 => (first | (simp only [gA, gB, gC]; done) | (simp only [gA, gB, gC]; exact rfl))
                  case q25__11 => exact fun _ _ _ h => h
                  case y25__11 => (refine Or.inl ⟨rfl, ?_⟩; intro w hSw; (rw [HPZ.out]; exact exec_str 22 5 9 _ (keep_bv hSw.1 HBI.out) rfl rfl Try.underlying22 Try.underlying5 Try.underlying9))
                  (try simp only [Act.put, sA, sB, sC])
                  refine wpAnyH_take (i := 12) (oi := ?o25__12) (v := .bool false) ?h25__12 (by kernel_rfl) (by kernel_rfl) (by kernel_rfl) ?q25__12 ?y25__12 (by assumption) ?_
                  case h25__12 => (first | (simp only [gA, gB, gC]; done) | (simp only [gA, gB, gC]; exact rfl))
                  case q25__12 => exact fun _ _ _ h => h
                  case y25__12 => (refine Or.inl ⟨rfl, ?_⟩; intro w hSw; (go_simp; (first | done | rfl | simp)))
                  (try simp only [Act.put, sA, sB, sC])
                  refine wpAnyH_take (i := 13) (oi := ?o25__13) (v := .bool false) ?h25__13 (by kernel_rfl) (by kernel_rfl) (by kernel_rfl) ?q25__13 ?y25__13 (by assumption) ?_
                  case h25__13 => (first | (simp only [gA, gB, gC]; done) | (simp only [gA, gB, gC]; exact rfl))
                  case q25__13 => exact fun _ _ _ h => h
                  case y25__13 => (refine Or.inl ⟨rfl, ?_⟩; intro w hSw; (first | rfl | (go_simp; (try with_reducible rfl))))
                  (try simp only [Act.put, sA, sB, sC])
                  refine wpAnyH_done (by kernel_rfl) ?_ _
                  have HSd25v2 := Lib.hid hHeld.1
                  have HFad25v2 := Lib.hid (hHeld.2.1)
                  have HFsd25v2 := Lib.hid (hHeld.2.2.1)
                  have HFbpd25v2 := Lib.hid (hHeld.2.2.2)
                  clear hHeld HRK HRD HS154 HFa154 HFs154 HBVP
                  go_upto_region 27 with fail
                  refine wp_region_lit ?_
                  refine wpList_q (by rfl) (.int .i64 (got2 : Int)) ?he ?_
                  case he => (first | rfl | (go_simp; (try with_reducible rfl)))
                  (try simp only [Act.put, sA, sB, sC])
                  refine wpList_q (by rfl) (.int .i64 ((got2 : Int) + 1)) ?he ?_
                  case he => (go_simp; (first | done | (have q := HPD.out.1; have q1 := HNL.out; exact wr64 _ (by omega) (by omega))))
                  (try simp only [Act.put, sA, sB, sC])
                  refine wpList_q (by rfl) (.int .i64 ((got2 : Int) + 1)) ?he ?_
                  case he => (first | rfl | (go_simp; (try with_reducible rfl)))
                  (try simp only [Act.put, sA, sB, sC])
                  refine wpList_nil ?_
                  go_wp2_with fail
                  refine ⟨?_, ?measure⟩
                  (repeat apply Exists.intro)
                  refine ⟨?rel, rfl⟩
                  case rel =>
                    have hg3 : got2 + 1 ≤ nl := HPD.out.1
                    refine ⟨got2 + 1, rest, qs3, Ss_4, hg3, ?_, ?_⟩
                    · go_num
                    · have ha := HPD.out.2.2
                      have hb := HGR.out
                      exact Lib.hid ⟨ha, hb, HDDa_s_154.out, HSd25v2.out, HFad25v2.out, HFsd25v2.out⟩
                  case measure => have := HPD.out.1; simp [intOf]; omega
            · have HMN := Lib.hid hcs; clear hcs
              go_upto_region 19 with fail
              refine wp_region_lit ?_
              refine wpList_q (by rfl) (.int .i64 (i3 : Int)) ?he ?_
              case he => (first | rfl | (go_simp; (try with_reducible rfl)))
              (try simp only [Act.put, sA, sB, sC])
              refine wpList_q (by rfl) (.slice (some ⟨gp, offp, none⟩) np cp) ?he ?_
              case he => (first | rfl | (go_simp; (try with_reducible rfl)))
              (try simp only [Act.put, sA, sB, sC])
              refine wpList_q (by rfl) (.int .i64 (np : Int)) ?he ?_
              case he => (first | rfl | (go_simp; (try with_reducible rfl)))
              (try simp only [Act.put, sA, sB, sC])
              refine wpList_q (by rfl) (.bool true) ?he ?_
              case he => (have q0 := HIP.out; go_simp; (first | done | rfl | omega))
              (try simp only [Act.put, sA, sB, sC])
              refine wpList_q (by rfl) (.bool true) ?he ?_
              case he => (first | rfl | (go_simp; (try with_reducible rfl)))
              (try simp only [Act.put, sA, sB, sC])
              refine wpList_q (by rfl) (.slice (some ⟨gp, offp, none⟩) np cp) ?he ?_
              case he => (first | rfl | (go_simp; (try with_reducible rfl)))
              (try simp only [Act.put, sA, sB, sC])
              refine wpList_q (by rfl) (.int .i64 (i3 : Int)) ?he ?_
              case he => (first | rfl | (go_simp; (try with_reducible rfl)))
              (try simp only [Act.put, sA, sB, sC])
              refine wpList_q (by rfl) (.pointer (some ⟨gp, (offp + i3 * 1), none⟩)) ?he ?_
              case he => exact exec_index (i := i3) (s := 1) 22 5 _ _ rfl rfl rfl rfl HIP.out Try.underlying22 (by kernel_rfl)
              (try simp only [Act.put, sA, sB, sC])
              refine wpList_q (by rfl) (.int .u8 (mz : Int)) ?he ?_
              case he => exact exec_at 5 _ _ (by rw [Nat.mul_one]; exact keep_cell HS102.out (bv_at HP.out i3 HIP.out HMZ.out.1)) rfl rfl Try.underlying5 rfl
              (try simp only [Act.put, sA, sB, sC])
              refine wpList_q (by rfl) (.int .i64 (mz : Int)) ?he ?_
              case he => (go_simp; (first | done | rfl | (have q := HMZ.out.2; exact wr64 _ (by omega) (by omega))))
              (try simp only [Act.put, sA, sB, sC])
              refine wpList_q (by rfl) (.int .i64 ((ys.length - at_ : Nat) : Int)) ?he ?_
              case he => (first | rfl | (go_simp; (try with_reducible rfl)))
              (try simp only [Act.put, sA, sB, sC])
              refine wpList_q (by rfl) (.bool true) ?he ?_
              case he => (have q0 := HMN.out; go_simp; (first | done | rfl | omega))
              (try simp only [Act.put, sA, sB, sC])
              refine wpList_q (by rfl) (.bool true) ?he ?_
              case he => (first | rfl | (go_simp; (try with_reducible rfl)))
              (try simp only [Act.put, sA, sB, sC])
              refine wpList_nil ?_
              go_upto_region 20 with fail
              refine wp_region_lit ?_
              refine wpList_q (by rfl) (.slice (some ⟨gp, offp, none⟩) np cp) ?he ?_
              case he => (first | rfl | (go_simp; (try with_reducible rfl)))
              (try simp only [Act.put, sA, sB, sC])
              refine wpList_q (by rfl) (.int .i64 (i3 : Int)) ?he ?_
              case he => (first | rfl | (go_simp; (try with_reducible rfl)))
              (try simp only [Act.put, sA, sB, sC])
              refine wpList_q (by rfl) (.pointer (some ⟨gp, (offp + i3 * 1), none⟩)) ?he ?_
              case he => exact exec_index (i := i3) (s := 1) 22 5 _ _ rfl rfl rfl rfl HIP.out Try.underlying22 (by kernel_rfl)
              (try simp only [Act.put, sA, sB, sC])
              refine wpList_q (by rfl) (.int .u8 (mz : Int)) ?he ?_
              case he => exact exec_at 5 _ _ (by rw [Nat.mul_one]; exact keep_cell HS102.out (bv_at HP.out i3 HIP.out HMZ.out.1)) rfl rfl Try.underlying5 rfl
              (try simp only [Act.put, sA, sB, sC])
              refine wpList_q (by rfl) (.int .i64 (mz : Int)) ?he ?_
              case he => (go_simp; (first | done | rfl | (have q := HMZ.out.2; exact wr64 _ (by omega) (by omega))))
              (try simp only [Act.put, sA, sB, sC])
              refine wpList_q (by rfl) (.int .i64 (mz : Int)) ?he ?_
              case he => (first | rfl | (go_simp; (try with_reducible rfl)))
              (try simp only [Act.put, sA, sB, sC])
              refine wpList_nil ?_
              obtain ⟨m, hm⟩ : ∃ m, m = mz := ⟨_, rfl⟩
              have HM := Lib.hid (show m ≤ ys.length - at_ by have := HMN.out; omega)
              have HI4 := Lib.hid (show at_ + m < ys.length → i3 + 1 ≤ np from fun h0 => by have := HIP.out; omega)
              have HMEAS := Lib.hid (show i3 < np ∨ at_ + m = ys.length from .inl HIP.out)
              rw [← hm]
              clear hm
              have HBA := Lib.hid (BV.cut (bv_drop (BV.of_own HFa102.out HYB.out) HAT.out HCP.out) HM.out)
              go_upto_region 21 with fail
              refine wp_region_lit ?_
              refine wpList_q (by rfl) (.pointer (some ⟨bn73, 0, none⟩)) ?he ?_
              case he => (first | rfl | (go_simp; (try with_reducible rfl)))
              (try simp only [Act.put, sA, sB, sC])
              refine wpList_q (by rfl) (.slice A ys.length c) ?he ?_
              case he => (first | rfl | (go_simp; (try with_reducible rfl)))
              (try simp only [Act.put, sA, sB, sC])
              refine wpList_q (by rfl) (.int .i64 (at_ : Int)) ?he ?_
              case he => (first | rfl | (go_simp; (try with_reducible rfl)))
              (try simp only [Act.put, sA, sB, sC])
              refine wpList_q (by rfl) (.int .i64 (at_ : Int)) ?he ?_
              case he => (first | rfl | (go_simp; (try with_reducible rfl)))
              (try simp only [Act.put, sA, sB, sC])
              refine wpList_q (by rfl) (.int .i64 (m : Int)) ?he ?_
              case he => (first | rfl | (go_simp; (try with_reducible rfl)))
              (try simp only [Act.put, sA, sB, sC])
              refine wpList_q (by rfl) (.int .i64 ((at_ + m : Nat) : Int)) ?he ?_
              case he => (go_simp; (first | done | (have q := HM.out; have q1 := HYL.out; have q2 := HAT.out; rw [wr64 _ (by omega) (by omega)]; push_cast; rfl) | (have q := HM.out; have q1 := HYL.out; have q2 := HAT.out; exact wr64 _ (by omega) (by omega))))
              (try simp only [Act.put, sA, sB, sC])
              refine wpList_q (by rfl) (.slice (cutA c at_ A 1) m (c - at_)) ?he ?_
              case he => exact exec_slice (s := 1) 22 5 _ _ _ _ rfl rfl Try.underlying22 (by kernel_rfl) (sb_lh _ _ _ (l := at_) (h := at_ + m) rfl rfl (by omega) (by have := HM.out; have := HAT.out; have := HCP.out; omega)) (by rfl) (by omega) rfl
              (try simp only [Act.put, sA, sB, sC])
              refine wpList_wp (by rfl) (fun K hK => ?_)
              (try go_simp)
              refine (feedV w.heap.size bn73 at_ xs Ss (cutA c at_ A 1) m (c - at_) ((ys.drop at_).take m) _ HFs102.out HBA.out (by have := HM.out; have := HYL.out; have := HAT.out; omega) (at_ + m) (xs ++ (ys.drop at_).take m) rfl rfl).mono ?_
              rintro e w103 ⟨Ss_3, rfl, hobj, hupd, hfar⟩
              (try go_wp2_with fail)
              refine hK.out _ _ ?_
              clear hK K
              (try simp only [Act.put, sA, sB, sC])
              have HS103 := Lib.hid (Since.upd HS102.out hupd (SO.low HFs102.out))
              have HFa103 := Lib.hid (Upd.own hupd HFa102.out HDS.out)
              have HDDa_s_103 := Lib.hid (dis_next hfar HDS.out (own_lt HFa102.out))
              have HFs103 := Lib.hid hobj
              clear hupd hobj hfar HS102 HFa102 HFs102
              refine wpList_nil ?_
              go_upto_region 22 with fail
              refine wp_region_lit ?_
              refine wpList_q (by rfl) (.int .i64 (at_ : Int)) ?he ?_
              case he => (first | rfl | (go_simp; (try with_reducible rfl)))
              (try simp only [Act.put, sA, sB, sC])
              refine wpList_q (by rfl) (.int .i64 (m : Int)) ?he ?_
              case he => (first | rfl | (go_simp; (try with_reducible rfl)))
              (try simp only [Act.put, sA, sB, sC])
              refine wpList_q (by rfl) (.int .i64 ((at_ + m : Nat) : Int)) ?he ?_
              case he => (go_simp; (first | done | (have q := HM.out; have q1 := HYL.out; have q2 := HAT.out; rw [wr64 _ (by omega) (by omega)]; push_cast; rfl) | (have q := HM.out; have q1 := HYL.out; have q2 := HAT.out; exact wr64 _ (by omega) (by omega))))
              (try simp only [Act.put, sA, sB, sC])
              refine wpList_q (by rfl) (.int .i64 ((at_ + m : Nat) : Int)) ?he ?_
              case he => (first | rfl | (go_simp; (try with_reducible rfl)))
              (try simp only [Act.put, sA, sB, sC])
              refine wpList_nil ?_
              go_wp2_with fail
              have HG0 := Lib.hid (show G qs ((xs ++ (ys.drop at_).take m) ++ ys.drop (at_ + m)) by rw [List.append_assoc, ← List.drop_drop, List.take_append_drop]; exact HG.out)
              go_loopw [12] (fun s12 wr => ∃ (got2 : Nat) (xs2 : List Int) (qs2 : List (List Int)) (S2 : List Nat), got2 ≤ nl ∧ s12 = .int .i64 (got2 : Int) ∧ Hid (qs2 = (Ps ps nl).drop got2 ∧ G qs2 (xs2 ++ ys.drop (at_ + m)) ∧ (∀ g ∈ blkOf A, g ∉ S2) ∧ Since w wr ∧ (wr).ownsRow w.heap.size 5 1 (.slice A ys.length c) ys.length (cells ys) ∧ SO w.heap.size bn73 (at_ + m) xs2 S2 wr)) (fun s12 wq => ((nl : Int) - intOf s12).toNat)
              case atStart => exact ⟨got, (xs ++ (ys.drop at_).take m), qs, Ss_3, HGOT.out, rfl, Lib.hid ⟨HQS.out, HG0.out, HDDa_s_103.out, HS103.out, HFa103.out, HFs103.out⟩⟩
              case round =>
                obtain ⟨got2, xs2, qs2, S2, hg2, rfl, HO⟩ := hrel
                obtain ⟨e0, e1, e2, g0, g1, g2⟩ := HO.out
                clear HO HS103 HFa103 HFs103
                have HQ2 := Lib.hid e0
                have HG2 := Lib.hid e1
                have HDS2 := Lib.hid e2
                have HS153 := Lib.hid g0
                have HFa153 := Lib.hid g1
                have HFs153 := Lib.hid g2
                clear e0 e1 e2 g0 g1 g2
                have HGT2 := Lib.hid hg2; clear hg2
                rcases G_next qs2 xs2 (ys.drop (at_ + m)) HG2.out with ⟨rest, hn, hg, hu⟩ | ⟨p, qs3, rest, hq, hn, hg⟩
                · have HNX := Lib.hid hn; have HGR := Lib.hid hg; have HU := Lib.hid hu; clear hn hg hu
                  go_upto_region 23 with fail
                  refine wp_region_lit ?_
                  refine wpList_q (by rfl) (.pointer (some ⟨bn73, 0, none⟩)) ?he ?_
                  case he => (first | rfl | (go_simp; (try with_reducible rfl)))
                  (try simp only [Act.put, sA, sB, sC])
                  refine wpList_wp (by rfl) (fun K hK => ?_)
                  (try go_simp)
                  refine (nextN w.heap.size bn73 (at_ + m) xs2 rest S2 _ HFs153.out (by have := HM.out; have := HYL.out; have := HAT.out; omega) HNX.out).mono ?_
                  rintro e w154 ⟨Ss_4, rfl, hobj, hupd, hfar⟩
                  (try go_wp2_with fail)
                  refine hK.out _ _ ?_
                  clear hK K
                  (try simp only [Act.put, sA, sB, sC])
                  have HS154 := Lib.hid (Since.upd HS153.out hupd (SO.low HFs153.out))
                  have HFa154 := Lib.hid (Upd.own hupd HFa153.out HDS2.out)
                  have HDDa_s_154 := Lib.hid (dis_next hfar HDS2.out (own_lt HFa153.out))
                  have HFs154 := Lib.hid hobj
                  clear hupd hobj hfar HS153 HFa153 HFs153
                  refine wpList_q (by rfl) (.tuple #[.slice none 0 0, .bool false]) ?he ?_
                  case he => (first | rfl | (go_simp; (try with_reducible rfl)))
                  (try simp only [Act.put, sA, sB, sC])
                  refine wpList_q (by rfl) (.slice none 0 0) ?he ?_
                  case he => (first | rfl | (go_simp; (try with_reducible rfl)))
                  (try simp only [Act.put, sA, sB, sC])
                  refine wpList_q (by rfl) (.bool false) ?he ?_
                  case he => (first | rfl | (go_simp; (try with_reducible rfl)))
                  (try simp only [Act.put, sA, sB, sC])
                  refine wpList_q (by rfl) (.slice none 0 0) ?he ?_
                  case he => (first | rfl | (go_simp; (try with_reducible rfl)))
                  (try simp only [Act.put, sA, sB, sC])
                  refine wpList_q (by rfl) (.bool false) ?he ?_
                  case he => (first | rfl | (go_simp; (try with_reducible rfl)))
                  (try simp only [Act.put, sA, sB, sC])
                  refine wpList_nil ?_
                  go_upto_region 24 with fail
                  refine wp_region_lit ?_
                  refine wpList_q (by rfl) (.bool false) ?he ?_
                  case he => (first | rfl | (go_simp; (try with_reducible rfl)))
                  (try simp only [Act.put, sA, sB, sC])
                  refine wpList_q (by rfl) (.bool true) ?he ?_
                  case he => (go_simp; (try with_reducible rfl))
                  (try simp only [Act.put, sA, sB, sC])
                  refine wpList_nil ?_
                  go_upto_region 17 with fail
                  refine wp_region_lit ?_
                  refine wpList_q (by rfl) (.int .i64 (i3 : Int)) ?he ?_
                  case he => (first | rfl | (go_simp; (try with_reducible rfl)))
                  (try simp only [Act.put, sA, sB, sC])
                  refine wpList_q (by rfl) (.int .i64 ((i3 : Int) + 1)) ?he ?_
                  case he => (go_simp; (first | done | (have q := HI3.out; have q1 := HNP.out; exact wr64 _ (by omega) (by omega))))
                  (try simp only [Act.put, sA, sB, sC])
                  refine wpList_q (by rfl) (.int .i64 ((i3 : Int) + 1)) ?he ?_
                  case he => (first | rfl | (go_simp; (try with_reducible rfl)))
                  (try simp only [Act.put, sA, sB, sC])
                  refine wpList_nil ?_
                  go_wp2_with fail
                  go_roundw
                  case rel => exact ⟨at_ + m, got2, i3 + 1, rest, qs2, Ss_4, by have := HM.out; have := HAT.out; omega, HGT2.out, by go_num, rfl, by go_num, Lib.hid ⟨HQ2.out, HGR.out, fun h0 => HU.out (List.drop_eq_nil_of_le (by omega)), ⟨by have q := HI3.out; have := q.2 HAE.out; omega, fun h0 => HI4.out h0⟩, HDDa_s_154.out, HS154.out, HFa154.out, HFs154.out⟩⟩
                  case measure => have q := HMEAS.out; have := HM.out; have := HAT.out; have := HAE.out; simp [intOf]; omega
                · have HNX := Lib.hid hn; have HGR := Lib.hid hg; clear hn hg
                  have HPD := Lib.hid (Ps_drop (HQ2.out.symm.trans hq)); clear hq
                  obtain ⟨gl, offl, hAl, hcl⟩ := Parts.at_ HPL.out HPD.out.1
                  have hci := hcl got2 HPD.out.1; clear hcl
                  subst hAl
                  have HCE := Lib.hid hci.1; have HBI := Lib.hid hci.2.1; have HCI := Lib.hid hci.2.2; clear hci
                  have HPZ := Lib.hid HPD.out.2.1
                  go_upto_region 23 with fail
                  refine wp_region_lit ?_
                  refine wpList_q (by rfl) (.pointer (some ⟨bn73, 0, none⟩)) ?he ?_
                  case he => (first | rfl | (go_simp; (try with_reducible rfl)))
                  (try simp only [Act.put, sA, sB, sC])
                  refine wpList_wp (by rfl) (fun K hK => ?_)
                  (try go_simp)
                  refine (nextS w.heap.size bn73 (at_ + m) xs2 p rest S2 _ HFs153.out (by have := HM.out; have := HYL.out; have := HAT.out; omega) p.length rfl (by rw [HPZ.out]; exact HBI.out.2.2.1) HNX.out).mono ?_
                  rintro e w154 ⟨Ss_4, Ap, cp, rfl, hobj, hupd, hfar, hbvp, hcp⟩
                  (try go_wp2_with fail)
                  refine hK.out _ _ ?_
                  clear hK K
                  (try simp only [Act.put, sA, sB, sC])
                  have HS154 := Lib.hid (Since.upd HS153.out hupd (SO.low HFs153.out))
                  have HFa154 := Lib.hid (Upd.own hupd HFa153.out HDS2.out)
                  have HDDa_s_154 := Lib.hid (dis_next hfar HDS2.out (own_lt HFa153.out))
                  have HFs154 := Lib.hid hobj
                  clear hupd hobj hfar HS153 HFa153 HFs153
                  have HBVP := Lib.hid hbvp; have HCPP := Lib.hid hcp; clear hbvp hcp
                  refine wpList_q (by rfl) (.tuple #[.slice Ap p.length cp, .bool true]) ?he ?_
                  case he => (first | rfl | (go_simp; (try with_reducible rfl)))
                  (try simp only [Act.put, sA, sB, sC])
                  refine wpList_q (by rfl) (.slice Ap p.length cp) ?he ?_
                  case he => (first | rfl | (go_simp; (try with_reducible rfl)))
                  (try simp only [Act.put, sA, sB, sC])
                  refine wpList_q (by rfl) (.bool true) ?he ?_
                  case he => (first | rfl | (go_simp; (try with_reducible rfl)))
                  (try simp only [Act.put, sA, sB, sC])
                  refine wpList_q (by rfl) (.slice Ap p.length cp) ?he ?_
                  case he => (first | rfl | (go_simp; (try with_reducible rfl)))
                  (try simp only [Act.put, sA, sB, sC])
                  refine wpList_q (by rfl) (.bool true) ?he ?_
                  case he => (first | rfl | (go_simp; (try with_reducible rfl)))
                  (try simp only [Act.put, sA, sB, sC])
                  refine wpList_nil ?_
                  go_upto_region 24 with fail
                  refine wp_region_lit ?_
                  refine wpList_q (by rfl) (.bool true) ?he ?_
                  case he => (first | rfl | (go_simp; (try with_reducible rfl)))
                  (try simp only [Act.put, sA, sB, sC])
                  refine wpList_q (by rfl) (.bool false) ?he ?_
                  case he => (go_simp; (try with_reducible rfl))
                  (try simp only [Act.put, sA, sB, sC])
                  refine wpList_nil ?_
                  go_upto_region 25 with fail
                  have hrK : ∀ W W' : World, Since W W' → (Since w W ∧ (W).ownsRow w.heap.size 5 1 (.slice A ys.length c) ys.length (cells ys) ∧ SO w.heap.size bn73 (at_ + m) rest Ss_4 W ∧ BV W Ap p.length p) → (Since w W' ∧ (W').ownsRow w.heap.size 5 1 (.slice A ys.length c) ys.length (cells ys) ∧ SO w.heap.size bn73 (at_ + m) rest Ss_4 W' ∧ BV W' Ap p.length p) := fun W W' k ⟨h, h0, h1, h2⟩ => ⟨h.trans k, keep_own k h0, SO.keep k h1, keep_bv k h2⟩
                  have hrS : (fun W : World => Since w W ∧ (W).ownsRow w.heap.size 5 1 (.slice A ys.length c) ys.length (cells ys) ∧ SO w.heap.size bn73 (at_ + m) rest Ss_4 W ∧ BV W Ap p.length p) w154 := ⟨HS154.out, HFa154.out, HFs154.out, HBVP.out⟩
                  have HRK := Lib.hid hrK
                  have HRD := Lib.hid (show (fun W : World => Since w W ∧ (W).ownsRow w.heap.size 5 1 (.slice A ys.length c) ys.length (cells ys) ∧ SO w.heap.size bn73 (at_ + m) rest Ss_4 W ∧ BV W Ap p.length p) (World.drew w154) from ⟨Since.drew hrS.1, hrS.2⟩)
                  clear hrK hrS
                  refine wp_region_held_drew (S := fun W : World => Since w W ∧ (W).ownsRow w.heap.size 5 1 (.slice A ys.length c) ys.length (cells ys) ∧ SO w.heap.size bn73 (at_ + m) rest Ss_4 W ∧ BV W Ap p.length p) (by kernel_rfl) HRD.out (fun hHeld => ?_)
                  refine wpAnyH_take (i := 0) (oi := ?o25__0) (v := .int .i64 (got2 : Int)) ?h25__0 (by kernel_rfl) (by kernel_rfl) (by kernel_rfl) ?q25__0 ?y25__0 (by assumption) ?_
                  case h25__0 => (first | (simp only [gA, gB, gC]; done) | (simp only [gA, gB, gC]; exact rfl))
                  case q25__0 => exact fun _ _ _ h => h
                  case y25__0 => (refine Or.inl ⟨rfl, ?_⟩; intro w hSw; (first | rfl | (go_simp; (try with_reducible rfl))))
                  (try simp only [Act.put, sA, sB, sC])
                  refine wpAnyH_take (i := 1) (oi := ?o25__1) (v := .slice (some ⟨gl, offl, none⟩) nl cl) ?h25__1 (by kernel_rfl) (by kernel_rfl) (by kernel_rfl) ?q25__1 ?y25__1 (by assumption) ?_
                  case h25__1 => (first | (simp only [gA, gB, gC]; done) | (simp only [gA, gB, gC]; exact rfl))
                  case q25__1 => exact fun _ _ _ h => h
                  case y25__1 => (refine Or.inl ⟨rfl, ?_⟩; intro w hSw; (first | rfl | (go_simp; (try with_reducible rfl))))
                  (try simp only [Act.put, sA, sB, sC])
                  refine wpAnyH_take (i := 2) (oi := ?o25__2) (v := .int .i64 (nl : Int)) ?h25__2 (by kernel_rfl) (by kernel_rfl) (by kernel_rfl) ?q25__2 ?y25__2 (by assumption) ?_
                  case h25__2 => (first | (simp only [gA, gB, gC]; done) | (simp only [gA, gB, gC]; exact rfl))
                  case q25__2 => exact fun _ _ _ h => h
                  case y25__2 => (refine Or.inl ⟨rfl, ?_⟩; intro w hSw; (first | rfl | (go_simp; (try with_reducible rfl))))
                  (try simp only [Act.put, sA, sB, sC])
                  refine wpAnyH_take (i := 3) (oi := ?o25__3) (v := .bool false) ?h25__3 (by kernel_rfl) (by kernel_rfl) (by kernel_rfl) ?q25__3 ?y25__3 (by assumption) ?_
                  case h25__3 => (first | (simp only [gA, gB, gC]; done) | (simp only [gA, gB, gC]; exact rfl))
                  case q25__3 => exact fun _ _ _ h => h
                  case y25__3 => (refine Or.inl ⟨rfl, ?_⟩; intro w hSw; (have q := HPD.out.1; go_simp; (first | done | omega)))
                  (try simp only [Act.put, sA, sB, sC])
                  refine wpAnyH_take (i := 4) (oi := ?o25__4) (v := .bool false) ?h25__4 (by kernel_rfl) (by kernel_rfl) (by kernel_rfl) ?q25__4 ?y25__4 (by assumption) ?_
                  case h25__4 => (first | (simp only [gA, gB, gC]; done) | (simp only [gA, gB, gC]; exact rfl))
                  case q25__4 => exact fun _ _ _ h => h
                  case y25__4 => (refine Or.inl ⟨rfl, ?_⟩; intro w hSw; (first | rfl | (go_simp; (try with_reducible rfl))))
                  (try simp only [Act.put, sA, sB, sC])
                  refine wpAnyH_take (i := 5) (oi := ?o25__5) (v := .slice Ap p.length cp) ?h25__5 (by kernel_rfl) (by kernel_rfl) (by kernel_rfl) ?q25__5 ?y25__5 (by assumption) ?_
                  case h25__5 => (first | (simp only [gA, gB, gC]; done) | (simp only [gA, gB, gC]; exact rfl))
                  case q25__5 => exact fun _ _ _ h => h
                  case y25__5 => (refine Or.inl ⟨rfl, ?_⟩; intro w hSw; (first | rfl | (go_simp; (try with_reducible rfl))))
                  (try simp only [Act.put, sA, sB, sC])
                  refine wpAnyH_take (i := 6) (oi := ?o25__6) (v := .string (strOfNums p)) ?h25__6 (by kernel_rfl) (by kernel_rfl) (by kernel_rfl) ?q25__6 ?y25__6 (by assumption) ?_
                  case h25__6 => (first | (simp only [gA, gB, gC]; done) | (simp only [gA, gB, gC]; exact rfl))
                  case q25__6 => exact fun _ _ _ h => h
                  case y25__6 => (refine Or.inl ⟨rfl, ?_⟩; intro w hSw; exact exec_str 22 5 9 _ hSw.2.2.2 rfl rfl Try.underlying22 Try.underlying5 Try.underlying9)
                  (try simp only [Act.put, sA, sB, sC])
                  refine wpAnyH_take (i := 7) (oi := ?o25__7) (v := .slice (some ⟨gl, offl, none⟩) nl cl) ?h25__7 (by kernel_rfl) (by kernel_rfl) (by kernel_rfl) ?q25__7 ?y25__7 (by assumption) ?_
                  case h25__7 => (first | (simp only [gA, gB, gC]; done) | (simp only [gA, gB, gC]; exact rfl))
                  case q25__7 => exact fun _ _ _ h => h
                  case y25__7 => (refine Or.inl ⟨rfl, ?_⟩; intro w hSw; (first | rfl | (go_simp; (try with_reducible rfl))))
                  (try simp only [Act.put, sA, sB, sC])
                  refine wpAnyH_take (i := 8) (oi := ?o25__8) (v := .int .i64 (got2 : Int)) ?h25__8 (by kernel_rfl) (by kernel_rfl) (by kernel_rfl) ?q25__8 ?y25__8 (by assumption) ?_
                  case h25__8 => (first | (simp only [gA, gB, gC]; done) | (simp only [gA, gB, gC]; exact rfl))
                  case q25__8 => exact fun _ _ _ h => h
                  case y25__8 => (refine Or.inl ⟨rfl, ?_⟩; intro w hSw; (first | rfl | (go_simp; (try with_reducible rfl))))
                  (try simp only [Act.put, sA, sB, sC])
                  refine wpAnyH_take (i := 9) (oi := ?o25__9) (v := .pointer (some ⟨gl, (offl + got2 * 1), none⟩)) ?h25__9 (by kernel_rfl) (by kernel_rfl) (by kernel_rfl) ?q25__9 ?y25__9 (by assumption) ?_
                  case h25__9 => (first | (simp only [gA, gB, gC]; done) | (simp only [gA, gB, gC]; exact rfl))
                  case q25__9 => exact fun _ _ _ h => h
                  case y25__9 => (refine Or.inl ⟨rfl, ?_⟩; intro w hSw; exact exec_index (i := got2) (s := 1) 37 22 _ _ rfl rfl rfl rfl HPD.out.1 Try.underlying37 (by kernel_rfl))
                  (try simp only [Act.put, sA, sB, sC])
                  refine wpAnyH_take (i := 10) (oi := ?o25__10) (v := .slice (ps got2).A (ps got2).n (ps got2).c) ?h25__10 (by kernel_rfl) (by kernel_rfl) (by kernel_rfl) ?q25__10 ?y25__10 (by assumption) ?_
                  case h25__10 => (first | (simp only [gA, gB, gC]; done) | (simp only [gA, gB, gC]; exact rfl))
                  case q25__10 => exact fun _ _ _ h => h
                  case y25__10 => (refine Or.inl ⟨rfl, ?_⟩; intro w hSw; exact exec_at 22 _ _ (by rw [Nat.mul_one]; exact keep_cell hSw.1 HCE.out) rfl rfl Try.underlying22 rfl)
                  (try simp only [Act.put, sA, sB, sC])
                  refine wpAnyH_take (i := 11) (oi := ?o25__11) (v := .string (strOfNums p)) ?h25__11 (by kernel_rfl) (by kernel_rfl) (by kernel_rfl) ?q25__11 ?y25__11 (by assumption) ?_
                  case h25__11 => (first | (simp only [gA, gB, gC]; done) | (simp only [gA, gB, gC]; exact rfl))
                  case q25__11 => exact fun _ _ _ h => h
                  case y25__11 => (refine Or.inl ⟨rfl, ?_⟩; intro w hSw; (rw [HPZ.out]; exact exec_str 22 5 9 _ (keep_bv hSw.1 HBI.out) rfl rfl Try.underlying22 Try.underlying5 Try.underlying9))
                  (try simp only [Act.put, sA, sB, sC])
                  refine wpAnyH_take (i := 12) (oi := ?o25__12) (v := .bool false) ?h25__12 (by kernel_rfl) (by kernel_rfl) (by kernel_rfl) ?q25__12 ?y25__12 (by assumption) ?_
                  case h25__12 => (first | (simp only [gA, gB, gC]; done) | (simp only [gA, gB, gC]; exact rfl))
                  case q25__12 => exact fun _ _ _ h => h
                  case y25__12 => (refine Or.inl ⟨rfl, ?_⟩; intro w hSw; (go_simp; (first | done | rfl | simp)))
                  (try simp only [Act.put, sA, sB, sC])
                  refine wpAnyH_take (i := 13) (oi := ?o25__13) (v := .bool false) ?h25__13 (by kernel_rfl) (by kernel_rfl) (by kernel_rfl) ?q25__13 ?y25__13 (by assumption) ?_
                  case h25__13 => (first | (simp only [gA, gB, gC]; done) | (simp only [gA, gB, gC]; exact rfl))
                  case q25__13 => exact fun _ _ _ h => h
                  case y25__13 => (refine Or.inl ⟨rfl, ?_⟩; intro w hSw; (first | rfl | (go_simp; (try with_reducible rfl))))
                  (try simp only [Act.put, sA, sB, sC])
                  refine wpAnyH_done (by kernel_rfl) ?_ _
                  have HSd25v2 := Lib.hid hHeld.1
                  have HFad25v2 := Lib.hid (hHeld.2.1)
                  have HFsd25v2 := Lib.hid (hHeld.2.2.1)
                  have HFbpd25v2 := Lib.hid (hHeld.2.2.2)
                  clear hHeld HRK HRD HS154 HFa154 HFs154 HBVP
                  go_upto_region 27 with fail
                  refine wp_region_lit ?_
                  refine wpList_q (by rfl) (.int .i64 (got2 : Int)) ?he ?_
                  case he => (first | rfl | (go_simp; (try with_reducible rfl)))
                  (try simp only [Act.put, sA, sB, sC])
                  refine wpList_q (by rfl) (.int .i64 ((got2 : Int) + 1)) ?he ?_
                  case he => (go_simp; (first | done | (have q := HPD.out.1; have q1 := HNL.out; exact wr64 _ (by omega) (by omega))))
                  (try simp only [Act.put, sA, sB, sC])
                  refine wpList_q (by rfl) (.int .i64 ((got2 : Int) + 1)) ?he ?_
                  case he => (first | rfl | (go_simp; (try with_reducible rfl)))
                  (try simp only [Act.put, sA, sB, sC])
                  refine wpList_nil ?_
                  go_wp2_with fail
                  refine ⟨?_, ?measure⟩
                  (repeat apply Exists.intro)
                  refine ⟨?rel, rfl⟩
                  case rel =>
                    have hg3 : got2 + 1 ≤ nl := HPD.out.1
                    refine ⟨got2 + 1, rest, qs3, Ss_4, hg3, ?_, ?_⟩
                    · go_num
                    · have ha := HPD.out.2.2
                      have hb := HGR.out
                      exact Lib.hid ⟨ha, hb, HDDa_s_154.out, HSd25v2.out, HFad25v2.out, HFsd25v2.out⟩
                  case measure => have := HPD.out.1; simp [intOf]; omega
    · have HLT := Lib.hid hcs; clear hcs
      go_upto_region 3 with fail
      refine wp_region_lit ?_
      refine wpList_q (by rfl) (.int .i64 (i : Int)) ?he ?_
      case he => (first | rfl | (go_simp; (try with_reducible rfl)))
      (try simp only [Act.put, sA, sB, sC])
      refine wpList_q (by rfl) (.slice Al nl cl) ?he ?_
      case he => (first | rfl | (go_simp; (try with_reducible rfl)))
      (try simp only [Act.put, sA, sB, sC])
      refine wpList_q (by rfl) (.int .i64 (nl : Int)) ?he ?_
      case he => (first | rfl | (go_simp; (try with_reducible rfl)))
      (try simp only [Act.put, sA, sB, sC])
      refine wpList_q (by rfl) (.bool true) ?he ?_
      case he => (have q0 := HLT.out; go_simp; (first | done | rfl | omega))
      (try simp only [Act.put, sA, sB, sC])
      refine wpList_nil ?_
      by_cases hcs : 20 < nl
      rotate_left
      · have H20 := Lib.hid hcs; clear hcs
        obtain ⟨gl, offl, hAl, hcl⟩ := Parts.at_ HPL.out HLT.out
        have hci := hcl i HLT.out; clear hcl
        subst hAl
        have HCE := Lib.hid hci.1; have HBI := Lib.hid hci.2.1; have HCI := Lib.hid hci.2.2; clear hci
        by_cases hcs : (ps i).n < 1
        rotate_left
        · have H1 := Lib.hid hcs; clear hcs
          by_cases hcs : 64 < (ps i).n
          rotate_left
          · have H64 := Lib.hid hcs; clear hcs
            by_cases hcs : 200 < nj
            rotate_left
            · have HJ2 := Lib.hid hcs; clear hcs
              go_upto_region 5 with fail
              refine wp_region_lit ?_
              refine wpList_q (by rfl) (.slice (some ⟨gl, offl, none⟩) nl cl) ?he ?_
              case he => (first | rfl | (go_simp; (try with_reducible rfl)))
              (try simp only [Act.put, sA, sB, sC])
              refine wpList_q (by rfl) (.int .i64 (nl : Int)) ?he ?_
              case he => (first | rfl | (go_simp; (try with_reducible rfl)))
              (try simp only [Act.put, sA, sB, sC])
              refine wpList_q (by rfl) (.bool false) ?he ?_
              case he => (have q0 := H20.out; go_simp; (first | done | rfl | omega))
              (try simp only [Act.put, sA, sB, sC])
              refine wpList_q (by rfl) (.bool false) ?he ?_
              case he => (first | rfl | (go_simp; (try with_reducible rfl)))
              (try simp only [Act.put, sA, sB, sC])
              refine wpList_q (by rfl) (.slice (some ⟨gl, offl, none⟩) nl cl) ?he ?_
              case he => (first | rfl | (go_simp; (try with_reducible rfl)))
              (try simp only [Act.put, sA, sB, sC])
              refine wpList_q (by rfl) (.int .i64 (i : Int)) ?he ?_
              case he => (first | rfl | (go_simp; (try with_reducible rfl)))
              (try simp only [Act.put, sA, sB, sC])
              refine wpList_q (by rfl) (.pointer (some ⟨gl, (offl + i * 1), none⟩)) ?he ?_
              case he => exact exec_index (i := i) (s := 1) 37 22 _ _ rfl rfl rfl rfl HLT.out Try.underlying37 (by kernel_rfl)
              (try simp only [Act.put, sA, sB, sC])
              refine wpList_q (by rfl) (.slice (ps i).A (ps i).n (ps i).c) ?he ?_
              case he => exact exec_at 22 _ _ (by rw [Nat.mul_one]; exact keep_cell HS51.out HCE.out) rfl rfl Try.underlying22 rfl
              (try simp only [Act.put, sA, sB, sC])
              refine wpList_q (by rfl) (.int .i64 ((ps i).n : Int)) ?he ?_
              case he => (first | rfl | (go_simp; (try with_reducible rfl)))
              (try simp only [Act.put, sA, sB, sC])
              refine wpList_q (by rfl) (.bool false) ?he ?_
              case he => (have q0 := H1.out; go_simp; (first | done | rfl | omega))
              (try simp only [Act.put, sA, sB, sC])
              refine wpList_q (by rfl) (.bool false) ?he ?_
              case he => (first | rfl | (go_simp; (try with_reducible rfl)))
              (try simp only [Act.put, sA, sB, sC])
              refine wpList_q (by rfl) (.bool false) ?he ?_
              case he => (first | rfl | (go_simp; (try with_reducible rfl)))
              (try simp only [Act.put, sA, sB, sC])
              refine wpList_q (by rfl) (.slice (some ⟨gl, offl, none⟩) nl cl) ?he ?_
              case he => (first | rfl | (go_simp; (try with_reducible rfl)))
              (try simp only [Act.put, sA, sB, sC])
              refine wpList_q (by rfl) (.int .i64 (i : Int)) ?he ?_
              case he => (first | rfl | (go_simp; (try with_reducible rfl)))
              (try simp only [Act.put, sA, sB, sC])
              refine wpList_q (by rfl) (.pointer (some ⟨gl, (offl + i * 1), none⟩)) ?he ?_
              case he => exact exec_index (i := i) (s := 1) 37 22 _ _ rfl rfl rfl rfl HLT.out Try.underlying37 (by kernel_rfl)
              (try simp only [Act.put, sA, sB, sC])
              refine wpList_q (by rfl) (.slice (ps i).A (ps i).n (ps i).c) ?he ?_
              case he => exact exec_at 22 _ _ (by rw [Nat.mul_one]; exact keep_cell HS51.out HCE.out) rfl rfl Try.underlying22 rfl
              (try simp only [Act.put, sA, sB, sC])
              refine wpList_q (by rfl) (.int .i64 ((ps i).n : Int)) ?he ?_
              case he => (first | rfl | (go_simp; (try with_reducible rfl)))
              (try simp only [Act.put, sA, sB, sC])
              refine wpList_q (by rfl) (.bool false) ?he ?_
              case he => (have q0 := H64.out; go_simp; (first | done | rfl | omega))
              (try simp only [Act.put, sA, sB, sC])
              refine wpList_q (by rfl) (.bool false) ?he ?_
              case he => (first | rfl | (go_simp; (try with_reducible rfl)))
              (try simp only [Act.put, sA, sB, sC])
              refine wpList_q (by rfl) (.bool false) ?he ?_
              case he => (first | rfl | (go_simp; (try with_reducible rfl)))
              (try simp only [Act.put, sA, sB, sC])
              refine wpList_q (by rfl) (.slice Aj nj cj) ?he ?_
              case he => (first | rfl | (go_simp; (try with_reducible rfl)))
              (try simp only [Act.put, sA, sB, sC])
              refine wpList_q (by rfl) (.int .i64 (nj : Int)) ?he ?_
              case he => (first | rfl | (go_simp; (try with_reducible rfl)))
              (try simp only [Act.put, sA, sB, sC])
              refine wpList_q (by rfl) (.bool false) ?he ?_
              case he => (have q0 := HJ2.out; go_simp; (first | done | rfl | omega))
              (try simp only [Act.put, sA, sB, sC])
              refine wpList_q (by rfl) (.bool false) ?he ?_
              case he => (first | rfl | (go_simp; (try with_reducible rfl)))
              (try simp only [Act.put, sA, sB, sC])
              refine wpList_nil ?_
              have HLY := Lib.hid (show ys.length ≤ 5400 by have q := bodies_len (js := jk js nj) (by have q1 := jk_len js nj; have := HJL.out; have := HJ2.out; omega) (Ps ps i) (Ps_all (Q := fun p => p.length ≤ 64) fun j hj => by have q2 := HALL.out j hj; omega); rw [Ps_len, ← HYS.out] at q; have := HLT.out; have := HI.out; have := H20.out; omega)
              go_upto_region 7 with fail
              refine wp_region_lit ?_
              refine wpList_q (by rfl) (.int .i64 0) ?he ?_
              case he => (first | rfl | (go_simp; (try with_reducible rfl)))
              (try simp only [Act.put, sA, sB, sC])
              refine wpList_nil ?_
              go_wp2_with fail
              go_loopw [7, 9] (fun s7 s9 wr => ∃ (k : Nat) (A2 : Option Addr) (c2 : Nat) (ys2 : List Int), k ≤ nj ∧ s7 = .slice A2 ys2.length c2 ∧ s9 = .int .i64 (k : Int) ∧ Hid (ys2 = ys ++ jk js k ∧ ys2.length ≤ 5400 + k ∧ Since w wr ∧ (wr).ownsRow w.heap.size 5 1 (.slice A2 ys2.length c2) ys2.length (cells ys2))) (fun s7 s9 wq => ((nj : Int) - intOf s9).toNat)
              case atStart => exact ⟨0, A, c, ys, Nat.zero_le _, rfl, rfl, Lib.hid ⟨(by simp [jk]), (by have := HLY.out; omega), HS51.out, HFa51.out⟩⟩
              case round =>
                obtain ⟨k, A2, c2, ys2, hk, rfl, rfl, HO⟩ := hrel
                obtain ⟨e0, e1, g0, g1⟩ := HO.out
                clear HO HS51 HFa51
                have HY2 := Lib.hid e0
                have HL2 := Lib.hid e1
                have HS101 := Lib.hid g0
                have HFa101 := Lib.hid g1
                clear e0 e1 g0 g1
                have HK := Lib.hid hk; clear hk
                by_cases hcs : k < nj
                rotate_left
                · have HKE := Lib.hid hcs; clear hcs
                  go_upto_region 8 with fail
                  refine wp_region_lit ?_
                  refine wpList_q (by rfl) (.int .i64 (k : Int)) ?he ?_
                  case he => (first | rfl | (go_simp; (try with_reducible rfl)))
                  (try simp only [Act.put, sA, sB, sC])
                  refine wpList_q (by rfl) (.slice Aj nj cj) ?he ?_
                  case he => (first | rfl | (go_simp; (try with_reducible rfl)))
                  (try simp only [Act.put, sA, sB, sC])
                  refine wpList_q (by rfl) (.int .i64 (nj : Int)) ?he ?_
                  case he => (first | rfl | (go_simp; (try with_reducible rfl)))
                  (try simp only [Act.put, sA, sB, sC])
                  refine wpList_q (by rfl) (.bool false) ?he ?_
                  case he => (have q0 := HKE.out; go_simp; (first | done | rfl | omega))
                  (try simp only [Act.put, sA, sB, sC])
                  refine wpList_nil ?_
                  have HKN := Lib.hid (show k = nj by have := HKE.out; have := HK.out; omega)
                  go_upto_region 12 with fail
                  refine wp_region_lit ?_
                  refine wpList_q (by rfl) (.slice A2 ys2.length c2) ?he ?_
                  case he => (first | rfl | (go_simp; (try with_reducible rfl)))
                  (try simp only [Act.put, sA, sB, sC])
                  refine wpList_q (by rfl) (.slice (some ⟨gl, offl, none⟩) nl cl) ?he ?_
                  case he => (first | rfl | (go_simp; (try with_reducible rfl)))
                  (try simp only [Act.put, sA, sB, sC])
                  refine wpList_q (by rfl) (.int .i64 (i : Int)) ?he ?_
                  case he => (first | rfl | (go_simp; (try with_reducible rfl)))
                  (try simp only [Act.put, sA, sB, sC])
                  refine wpList_q (by rfl) (.pointer (some ⟨gl, (offl + i * 1), none⟩)) ?he ?_
                  case he => exact exec_index (i := i) (s := 1) 37 22 _ _ rfl rfl rfl rfl HLT.out Try.underlying37 (by kernel_rfl)
                  (try simp only [Act.put, sA, sB, sC])
                  refine wpList_q (by rfl) (.slice (ps i).A (ps i).n (ps i).c) ?he ?_
                  case he => exact exec_at 22 _ _ (by rw [Nat.mul_one]; exact keep_cell HS101.out HCE.out) rfl rfl Try.underlying22 rfl
                  (try simp only [Act.put, sA, sB, sC])
                  refine wpList_wp (by rfl) (fun K hK => ?_)
                  (try go_simp)
                  refine (frameV (ps i).A (ps i).n (ps i).c (ps i).zs _ (keep_bv HS101.out HBI.out) (by have := H64.out; omega)).mono ?_
                  rintro e w102 ⟨Af, cf, rfl, hown, hb⟩
                  (try go_wp2_with fail)
                  refine hK.out _ _ ?_
                  clear hK K
                  (try simp only [Act.put, sA, sB, sC])
                  have HDDa_f := Lib.hid (show ∀ g ∈ (blkOf A2), g ∉ blkOf Af from fun g hg hA => by have q1 := own_lt HFa101.out g hg; have q2 := own_low hown g hA; omega)
                  have hown2 := own_base (lo' := w.heap.size) hown (Since.size HS101.out)
                  have HS102 := Lib.hid (Since.trans HS101.out hb)
                  have HFa102 := Lib.hid (keep_own hb HFa101.out)
                  clear HS101 HFa101
                  clear hb
                  have HFf := Lib.hid hown2
                  clear hown hown2
                  refine wpList_wp (by rfl) (fun K hK => ?_)
                  refine wp_append_row (.tmp 66) (.tmp 71) 22 rfl w.heap.size 5 (Value.int .u8 0) 1 1 Try.underlying22 (by kernel_rfl) rfl (by decide) (by decide) A2 ys2.length c2 (cells ys2) rfl HFa102.out _ Af ((ps i).n + 6) cf (cells (frm (ps i).zs)) rfl (bv_reads (BV.of_own HFf.out (frm_isB HBI.out.2.2.1))) (Byt.cells_one _) (by have := HL2.out; have := H64.out; have := HK.out; have := HJ2.out; omega) (Since.size HS102.out) ((ys2 ++ frm (ps i).zs).length) (cells (ys2 ++ frm (ps i).zs)) (by rw [List.length_append, frm_length, HBI.out.1]) (cells_app _ _) ?_
                  intro A_3 c_3 w103 hown hupd hfar
                  refine hK.out _ _ ?_
                  clear hK K
                  (try simp only [Act.put, sA, sB, sC])
                  have HS103 := Lib.hid (Since.upd HS102.out hupd (own_low HFa102.out))
                  have HFf103 := Lib.hid (Upd.own hupd HFf.out (fun g hg h => HDDa_f.out g h hg))
                  have HDDf_a_103 := Lib.hid (dis_next hfar (fun g hg h => HDDa_f.out g h hg) (own_lt HFf.out))
                  have HFa103 := Lib.hid hown
                  clear hupd hown hfar HS102 HFa102 HFf
                  refine wpList_q (by rfl) (.slice A_3 ((ys2 ++ frm (ps i).zs).length) c_3) ?he ?_
                  case he => (first | rfl | (go_simp; (try with_reducible rfl)))
                  (try simp only [Act.put, sA, sB, sC])
                  refine wpList_nil ?_
                  go_upto_region 4 with fail
                  refine wp_region_lit ?_
                  refine wpList_q (by rfl) (.int .i64 (i : Int)) ?he ?_
                  case he => (first | rfl | (go_simp; (try with_reducible rfl)))
                  (try simp only [Act.put, sA, sB, sC])
                  refine wpList_q (by rfl) (.int .i64 ((i : Int) + 1)) ?he ?_
                  case he => (go_simp; (first | done | (refine wr64 _ ?_ ?_ <;> (have q0 := HLT.out; have q1 := HNL.out; omega)) | (have q0 := HLT.out; have q1 := HNL.out; omega) | (have q0 := HLT.out; have q1 := HNL.out; split <;> omega) | (have q0 := HLT.out; have q1 := HNL.out; intro hh; omega)))
                  (try simp only [Act.put, sA, sB, sC])
                  refine wpList_q (by rfl) (.int .i64 ((i : Int) + 1)) ?he ?_
                  case he => (first | rfl | (go_simp; (try with_reducible rfl)))
                  (try simp only [Act.put, sA, sB, sC])
                  refine wpList_nil ?_
                  go_wp2_with fail
                  go_roundw
                  have HALL2 := Lib.hid (show ∀ j, j < i + 1 → 1 ≤ (ps j).n ∧ (ps j).n ≤ 64 ∧ (ps j).zs.length = (ps j).n ∧ ∀ z ∈ (ps j).zs, isB z from fun j hj => (Nat.lt_or_ge j i).elim (fun h => HALL.out j h) (fun h => by (have e : j = i := Nat.le_antisymm (Nat.le_of_lt_succ hj) h); subst e; exact ⟨Nat.not_lt.1 H1.out, Nat.not_lt.1 H64.out, HBI.out.1, HBI.out.2.2.1⟩))
                  case rel => exact ⟨i + 1, A_3, c_3, ys2 ++ frm (ps i).zs, by have := HLT.out; omega, rfl, by go_num, Lib.hid ⟨by rw [Ps_succ, bodies_snoc, ← HYS.out, HY2.out, HKN.out, List.append_assoc], HALL2.out, .inr ⟨by have := H20.out; omega, by have := HJ2.out; omega⟩, HS103.out, HFa103.out⟩⟩
                  case measure => have := HLT.out; simp [intOf]; omega
                · have HKE := Lib.hid hcs; clear hcs
                  go_upto_region 8 with fail
                  refine wp_region_lit ?_
                  refine wpList_q (by rfl) (.int .i64 (k : Int)) ?he ?_
                  case he => (first | rfl | (go_simp; (try with_reducible rfl)))
                  (try simp only [Act.put, sA, sB, sC])
                  refine wpList_q (by rfl) (.slice Aj nj cj) ?he ?_
                  case he => (first | rfl | (go_simp; (try with_reducible rfl)))
                  (try simp only [Act.put, sA, sB, sC])
                  refine wpList_q (by rfl) (.int .i64 (nj : Int)) ?he ?_
                  case he => (first | rfl | (go_simp; (try with_reducible rfl)))
                  (try simp only [Act.put, sA, sB, sC])
                  refine wpList_q (by rfl) (.bool true) ?he ?_
                  case he => (have q0 := HKE.out; go_simp; (first | done | rfl | omega))
                  (try simp only [Act.put, sA, sB, sC])
                  refine wpList_nil ?_
                  obtain ⟨gj, offj, hAj, _, _⟩ := HJ.out.addr (by have := HKE.out; omega)
                  subst hAj
                  have HKJ := Lib.hid (show k < js.length by have := HKE.out; have := HJL.out; omega)
                  by_cases hcs : js.getD k 0 = 165
                  rotate_left
                  · have HE := Lib.hid hcs; clear hcs
                    go_upto_region 10 with fail
                    refine wp_region_lit ?_
                    refine wpList_q (by rfl) (.slice (some ⟨gj, offj, none⟩) nj cj) ?he ?_
                    case he => (first | rfl | (go_simp; (try with_reducible rfl)))
                    (try simp only [Act.put, sA, sB, sC])
                    refine wpList_q (by rfl) (.int .i64 (k : Int)) ?he ?_
                    case he => (first | rfl | (go_simp; (try with_reducible rfl)))
                    (try simp only [Act.put, sA, sB, sC])
                    refine wpList_q (by rfl) (.pointer (some ⟨gj, (offj + k * 1), none⟩)) ?he ?_
                    case he => exact exec_index (i := k) (s := 1) 22 5 _ _ rfl rfl rfl rfl HKE.out Try.underlying22 (by kernel_rfl)
                    (try simp only [Act.put, sA, sB, sC])
                    refine wpList_q (by rfl) (.int .u8 (js.getD k 0)) ?he ?_
                    case he => exact exec_at 5 _ _ (by rw [Nat.mul_one]; exact keep_cell HS101.out (bv_at HJ.out k HKE.out rfl)) rfl rfl Try.underlying5 rfl
                    (try simp only [Act.put, sA, sB, sC])
                    refine wpList_q (by rfl) (.bool true) ?he ?_
                    case he => (have q := HE.out; go_simp; (first | done | exact q | (simp only [List.getD] at q; simp [q]; done) | (simp [q]; done)))
                    (try simp only [Act.put, sA, sB, sC])
                    refine wpList_nil ?_
                    go_upto_region 11 with fail
                    refine wp_region_lit ?_
                    refine wpList_q (by rfl) (.slice A2 ys2.length c2) ?he ?_
                    case he => (first | rfl | (go_simp; (try with_reducible rfl)))
                    (try simp only [Act.put, sA, sB, sC])
                    refine wpList_q (by rfl) (.slice (some ⟨gj, offj, none⟩) nj cj) ?he ?_
                    case he => (first | rfl | (go_simp; (try with_reducible rfl)))
                    (try simp only [Act.put, sA, sB, sC])
                    refine wpList_q (by rfl) (.int .i64 (k : Int)) ?he ?_
                    case he => (first | rfl | (go_simp; (try with_reducible rfl)))
                    (try simp only [Act.put, sA, sB, sC])
                    refine wpList_q (by rfl) (.pointer (some ⟨gj, (offj + k * 1), none⟩)) ?he ?_
                    case he => exact exec_index (i := k) (s := 1) 22 5 _ _ rfl rfl rfl rfl HKE.out Try.underlying22 (by kernel_rfl)
                    (try simp only [Act.put, sA, sB, sC])
                    refine wpList_q (by rfl) (.int .u8 (js.getD k 0)) ?he ?_
                    case he => exact exec_at 5 _ _ (by rw [Nat.mul_one]; exact keep_cell HS101.out (bv_at HJ.out k HKE.out rfl)) rfl rfl Try.underlying5 rfl
                    (try simp only [Act.put, sA, sB, sC])
                    refine wpList_wp (by rfl) (fun K hK => ?_)
                    refine wp_new (fun b => .slice (some ⟨b, 0, none⟩) 1 1) 5 #[.int .u8 (js.getD k 0)] (by rintro b rfl; first | rfl | kernel_rfl) ?_
                    intro bn64 w102 hge hB hb
                    refine hK.out _ _ ?_
                    clear hK K
                    (try simp only [Act.put, sA, sB, sC])
                    have HGn64 := Lib.hid (show w.heap.size ≤ bn64 by have := Since.size HS101.out; omega)
                    have HIn64_a := Lib.hid (own_far HFa101.out hge)
                    have HS102 := Lib.hid (Since.trans HS101.out hb)
                    have HFa102 := Lib.hid (keep_own hb HFa101.out)
                    clear HS101 HFa101
                    clear hb hge
                    have HBn64102 := Lib.hid hB
                    clear hB
                    refine wpList_wp (by rfl) (fun K hK => ?_)
                    refine wp_append_row (.tmp 59) (.tmp 64) 22 rfl w.heap.size 5 (Value.int .u8 0) 1 1 Try.underlying22 (by kernel_rfl) rfl (by decide) (by decide) A2 ys2.length c2 (cells ys2) rfl HFa102.out _ (some ⟨bn64, 0, none⟩) 1 1 (cells [js.getD k 0]) rfl (reads_blk (cs := cells [js.getD k 0]) HBn64102.out rfl) (Byt.cells_one _) (by have := HL2.out; have := HK.out; have := HJ2.out; omega) (Since.size HS102.out) ((ys2 ++ [js.getD k 0]).length) (cells (ys2 ++ [js.getD k 0])) (by simp) (cells_app _ _) ?_
                    intro A_3 c_3 w103 hown hupd hfar
                    refine hK.out _ _ ?_
                    clear hK K
                    (try simp only [Act.put, sA, sB, sC])
                    have HS103 := Lib.hid (Since.upd HS102.out hupd (own_low HFa102.out))
                    have HBn64103 := Lib.hid (Upd.blk hupd HBn64102.out HIn64_a.out)
                    have HIn64_a_103 := Lib.hid (nin_next hfar HIn64_a.out (Blk.lt HBn64102.out))
                    have HFa103 := Lib.hid hown
                    clear hupd hown hfar HS102 HBn64102 HFa102
                    refine wpList_q (by rfl) (.slice A_3 ((ys2 ++ [js.getD k 0]).length) c_3) ?he ?_
                    case he => (first | rfl | (go_simp; (try with_reducible rfl)))
                    (try simp only [Act.put, sA, sB, sC])
                    refine wpList_nil ?_
                    go_upto_region 9 with fail
                    refine wp_region_lit ?_
                    refine wpList_q (by rfl) (.int .i64 (k : Int)) ?he ?_
                    case he => (first | rfl | (go_simp; (try with_reducible rfl)))
                    (try simp only [Act.put, sA, sB, sC])
                    refine wpList_q (by rfl) (.int .i64 ((k : Int) + 1)) ?he ?_
                    case he => (go_simp; (first | done | (refine wr64 _ ?_ ?_ <;> (have q0 := HKE.out; have q1 := HJ2.out; omega)) | (have q0 := HKE.out; have q1 := HJ2.out; omega) | (have q0 := HKE.out; have q1 := HJ2.out; split <;> omega) | (have q0 := HKE.out; have q1 := HJ2.out; intro hh; omega)))
                    (try simp only [Act.put, sA, sB, sC])
                    refine wpList_q (by rfl) (.int .i64 ((k : Int) + 1)) ?he ?_
                    case he => (first | rfl | (go_simp; (try with_reducible rfl)))
                    (try simp only [Act.put, sA, sB, sC])
                    refine wpList_nil ?_
                    go_wp2_with fail
                    go_roundw
                    case rel => exact ⟨k + 1, A_3, c_3, (ys2 ++ [js.getD k 0]), by have := HKE.out; omega, rfl, by go_num, Lib.hid ⟨(by rw [jk_ne HKJ.out HE.out, HY2.out, List.append_assoc]), (by have := HL2.out; simp; omega), HS103.out, HFa103.out⟩⟩
                    case measure => have := HKE.out; simp [intOf]; omega
                  · have HE := Lib.hid hcs; clear hcs
                    go_upto_region 10 with fail
                    refine wp_region_lit ?_
                    refine wpList_q (by rfl) (.slice (some ⟨gj, offj, none⟩) nj cj) ?he ?_
                    case he => (first | rfl | (go_simp; (try with_reducible rfl)))
                    (try simp only [Act.put, sA, sB, sC])
                    refine wpList_q (by rfl) (.int .i64 (k : Int)) ?he ?_
                    case he => (first | rfl | (go_simp; (try with_reducible rfl)))
                    (try simp only [Act.put, sA, sB, sC])
                    refine wpList_q (by rfl) (.pointer (some ⟨gj, (offj + k * 1), none⟩)) ?he ?_
                    case he => exact exec_index (i := k) (s := 1) 22 5 _ _ rfl rfl rfl rfl HKE.out Try.underlying22 (by kernel_rfl)
                    (try simp only [Act.put, sA, sB, sC])
                    refine wpList_q (by rfl) (.int .u8 (js.getD k 0)) ?he ?_
                    case he => exact exec_at 5 _ _ (by rw [Nat.mul_one]; exact keep_cell HS101.out (bv_at HJ.out k HKE.out rfl)) rfl rfl Try.underlying5 rfl
                    (try simp only [Act.put, sA, sB, sC])
                    refine wpList_q (by rfl) (.bool false) ?he ?_
                    case he => (have q := HE.out; go_simp; (first | done | exact q | (simp only [List.getD] at q; simp [q]; done) | (simp [q]; done)))
                    (try simp only [Act.put, sA, sB, sC])
                    refine wpList_nil ?_
                    go_upto_region 9 with fail
                    refine wp_region_lit ?_
                    refine wpList_q (by rfl) (.int .i64 (k : Int)) ?he ?_
                    case he => (first | rfl | (go_simp; (try with_reducible rfl)))
                    (try simp only [Act.put, sA, sB, sC])
                    refine wpList_q (by rfl) (.int .i64 ((k : Int) + 1)) ?he ?_
                    case he => (go_simp; (first | done | (refine wr64 _ ?_ ?_ <;> (have q0 := HKE.out; have q1 := HJ2.out; omega)) | (have q0 := HKE.out; have q1 := HJ2.out; omega) | (have q0 := HKE.out; have q1 := HJ2.out; split <;> omega) | (have q0 := HKE.out; have q1 := HJ2.out; intro hh; omega)))
                    (try simp only [Act.put, sA, sB, sC])
                    refine wpList_q (by rfl) (.int .i64 ((k : Int) + 1)) ?he ?_
                    case he => (first | rfl | (go_simp; (try with_reducible rfl)))
                    (try simp only [Act.put, sA, sB, sC])
                    refine wpList_nil ?_
                    go_wp2_with fail
                    go_roundw
                    case rel => exact ⟨k + 1, A2, c2, ys2, by have := HKE.out; omega, rfl, by go_num, Lib.hid ⟨(by rw [jk_eq HKJ.out HE.out]; exact HY2.out), (by have := HL2.out; omega), HS101.out, HFa101.out⟩⟩
                    case measure => have := HKE.out; simp [intOf]; omega
            · have HJ2 := Lib.hid hcs; clear hcs
              go_upto_region 5 with fail
              refine wp_region_lit ?_
              refine wpList_q (by rfl) (.slice (some ⟨gl, offl, none⟩) nl cl) ?he ?_
              case he => (first | rfl | (go_simp; (try with_reducible rfl)))
              (try simp only [Act.put, sA, sB, sC])
              refine wpList_q (by rfl) (.int .i64 (nl : Int)) ?he ?_
              case he => (first | rfl | (go_simp; (try with_reducible rfl)))
              (try simp only [Act.put, sA, sB, sC])
              refine wpList_q (by rfl) (.bool false) ?he ?_
              case he => (have q0 := H20.out; go_simp; (first | done | rfl | omega))
              (try simp only [Act.put, sA, sB, sC])
              refine wpList_q (by rfl) (.bool false) ?he ?_
              case he => (first | rfl | (go_simp; (try with_reducible rfl)))
              (try simp only [Act.put, sA, sB, sC])
              refine wpList_q (by rfl) (.slice (some ⟨gl, offl, none⟩) nl cl) ?he ?_
              case he => (first | rfl | (go_simp; (try with_reducible rfl)))
              (try simp only [Act.put, sA, sB, sC])
              refine wpList_q (by rfl) (.int .i64 (i : Int)) ?he ?_
              case he => (first | rfl | (go_simp; (try with_reducible rfl)))
              (try simp only [Act.put, sA, sB, sC])
              refine wpList_q (by rfl) (.pointer (some ⟨gl, (offl + i * 1), none⟩)) ?he ?_
              case he => exact exec_index (i := i) (s := 1) 37 22 _ _ rfl rfl rfl rfl HLT.out Try.underlying37 (by kernel_rfl)
              (try simp only [Act.put, sA, sB, sC])
              refine wpList_q (by rfl) (.slice (ps i).A (ps i).n (ps i).c) ?he ?_
              case he => exact exec_at 22 _ _ (by rw [Nat.mul_one]; exact keep_cell HS51.out HCE.out) rfl rfl Try.underlying22 rfl
              (try simp only [Act.put, sA, sB, sC])
              refine wpList_q (by rfl) (.int .i64 ((ps i).n : Int)) ?he ?_
              case he => (first | rfl | (go_simp; (try with_reducible rfl)))
              (try simp only [Act.put, sA, sB, sC])
              refine wpList_q (by rfl) (.bool false) ?he ?_
              case he => (have q0 := H1.out; go_simp; (first | done | rfl | omega))
              (try simp only [Act.put, sA, sB, sC])
              refine wpList_q (by rfl) (.bool false) ?he ?_
              case he => (first | rfl | (go_simp; (try with_reducible rfl)))
              (try simp only [Act.put, sA, sB, sC])
              refine wpList_q (by rfl) (.bool false) ?he ?_
              case he => (first | rfl | (go_simp; (try with_reducible rfl)))
              (try simp only [Act.put, sA, sB, sC])
              refine wpList_q (by rfl) (.slice (some ⟨gl, offl, none⟩) nl cl) ?he ?_
              case he => (first | rfl | (go_simp; (try with_reducible rfl)))
              (try simp only [Act.put, sA, sB, sC])
              refine wpList_q (by rfl) (.int .i64 (i : Int)) ?he ?_
              case he => (first | rfl | (go_simp; (try with_reducible rfl)))
              (try simp only [Act.put, sA, sB, sC])
              refine wpList_q (by rfl) (.pointer (some ⟨gl, (offl + i * 1), none⟩)) ?he ?_
              case he => exact exec_index (i := i) (s := 1) 37 22 _ _ rfl rfl rfl rfl HLT.out Try.underlying37 (by kernel_rfl)
              (try simp only [Act.put, sA, sB, sC])
              refine wpList_q (by rfl) (.slice (ps i).A (ps i).n (ps i).c) ?he ?_
              case he => exact exec_at 22 _ _ (by rw [Nat.mul_one]; exact keep_cell HS51.out HCE.out) rfl rfl Try.underlying22 rfl
              (try simp only [Act.put, sA, sB, sC])
              refine wpList_q (by rfl) (.int .i64 ((ps i).n : Int)) ?he ?_
              case he => (first | rfl | (go_simp; (try with_reducible rfl)))
              (try simp only [Act.put, sA, sB, sC])
              refine wpList_q (by rfl) (.bool false) ?he ?_
              case he => (have q0 := H64.out; go_simp; (first | done | rfl | omega))
              (try simp only [Act.put, sA, sB, sC])
              refine wpList_q (by rfl) (.bool false) ?he ?_
              case he => (first | rfl | (go_simp; (try with_reducible rfl)))
              (try simp only [Act.put, sA, sB, sC])
              refine wpList_q (by rfl) (.bool false) ?he ?_
              case he => (first | rfl | (go_simp; (try with_reducible rfl)))
              (try simp only [Act.put, sA, sB, sC])
              refine wpList_q (by rfl) (.slice Aj nj cj) ?he ?_
              case he => (first | rfl | (go_simp; (try with_reducible rfl)))
              (try simp only [Act.put, sA, sB, sC])
              refine wpList_q (by rfl) (.int .i64 (nj : Int)) ?he ?_
              case he => (first | rfl | (go_simp; (try with_reducible rfl)))
              (try simp only [Act.put, sA, sB, sC])
              refine wpList_q (by rfl) (.bool true) ?he ?_
              case he => (have q0 := HJ2.out; go_simp; (first | done | rfl | omega))
              (try simp only [Act.put, sA, sB, sC])
              refine wpList_q (by rfl) (.bool true) ?he ?_
              case he => (first | rfl | (go_simp; (try with_reducible rfl)))
              (try simp only [Act.put, sA, sB, sC])
              refine wpList_nil ?_
              go_upto_region 6 with fail
              refine wp_region_lit ?_
              refine wpList_wp (by rfl) (fun K hK => ?_)
              (try go_simp)
              refine (ans _).mono ?_
              rintro e w52 ⟨rfl, hb⟩
              (try go_wp2_with fail)
              refine hK.out _ _ ?_
              clear hK K
              (try simp only [Act.put, sA, sB, sC])
              have HS52 := Lib.hid (Since.trans HS51.out hb)
              have HFa52 := Lib.hid (keep_own hb HFa51.out)
              clear HS51 HFa51
              clear hb
              refine wpList_q (by rfl) (.bool true) ?he ?_
              case he => (first | rfl | (go_simp; (try with_reducible rfl)))
              (try simp only [Act.put, sA, sB, sC])
              refine wpList_nil ?_
              (try go_wp2_with fail)
              go_ret
              exact ⟨rfl, HS52.out⟩
          · have H64 := Lib.hid hcs; clear hcs
            go_upto_region 5 with fail
            refine wp_region_lit ?_
            refine wpList_q (by rfl) (.slice (some ⟨gl, offl, none⟩) nl cl) ?he ?_
            case he => (first | rfl | (go_simp; (try with_reducible rfl)))
            (try simp only [Act.put, sA, sB, sC])
            refine wpList_q (by rfl) (.int .i64 (nl : Int)) ?he ?_
            case he => (first | rfl | (go_simp; (try with_reducible rfl)))
            (try simp only [Act.put, sA, sB, sC])
            refine wpList_q (by rfl) (.bool false) ?he ?_
            case he => (have q0 := H20.out; go_simp; (first | done | rfl | omega))
            (try simp only [Act.put, sA, sB, sC])
            refine wpList_q (by rfl) (.bool false) ?he ?_
            case he => (first | rfl | (go_simp; (try with_reducible rfl)))
            (try simp only [Act.put, sA, sB, sC])
            refine wpList_q (by rfl) (.slice (some ⟨gl, offl, none⟩) nl cl) ?he ?_
            case he => (first | rfl | (go_simp; (try with_reducible rfl)))
            (try simp only [Act.put, sA, sB, sC])
            refine wpList_q (by rfl) (.int .i64 (i : Int)) ?he ?_
            case he => (first | rfl | (go_simp; (try with_reducible rfl)))
            (try simp only [Act.put, sA, sB, sC])
            refine wpList_q (by rfl) (.pointer (some ⟨gl, (offl + i * 1), none⟩)) ?he ?_
            case he => exact exec_index (i := i) (s := 1) 37 22 _ _ rfl rfl rfl rfl HLT.out Try.underlying37 (by kernel_rfl)
            (try simp only [Act.put, sA, sB, sC])
            refine wpList_q (by rfl) (.slice (ps i).A (ps i).n (ps i).c) ?he ?_
            case he => exact exec_at 22 _ _ (by rw [Nat.mul_one]; exact keep_cell HS51.out HCE.out) rfl rfl Try.underlying22 rfl
            (try simp only [Act.put, sA, sB, sC])
            refine wpList_q (by rfl) (.int .i64 ((ps i).n : Int)) ?he ?_
            case he => (first | rfl | (go_simp; (try with_reducible rfl)))
            (try simp only [Act.put, sA, sB, sC])
            refine wpList_q (by rfl) (.bool false) ?he ?_
            case he => (have q0 := H1.out; go_simp; (first | done | rfl | omega))
            (try simp only [Act.put, sA, sB, sC])
            refine wpList_q (by rfl) (.bool false) ?he ?_
            case he => (first | rfl | (go_simp; (try with_reducible rfl)))
            (try simp only [Act.put, sA, sB, sC])
            refine wpList_q (by rfl) (.bool false) ?he ?_
            case he => (first | rfl | (go_simp; (try with_reducible rfl)))
            (try simp only [Act.put, sA, sB, sC])
            refine wpList_q (by rfl) (.slice (some ⟨gl, offl, none⟩) nl cl) ?he ?_
            case he => (first | rfl | (go_simp; (try with_reducible rfl)))
            (try simp only [Act.put, sA, sB, sC])
            refine wpList_q (by rfl) (.int .i64 (i : Int)) ?he ?_
            case he => (first | rfl | (go_simp; (try with_reducible rfl)))
            (try simp only [Act.put, sA, sB, sC])
            refine wpList_q (by rfl) (.pointer (some ⟨gl, (offl + i * 1), none⟩)) ?he ?_
            case he => exact exec_index (i := i) (s := 1) 37 22 _ _ rfl rfl rfl rfl HLT.out Try.underlying37 (by kernel_rfl)
            (try simp only [Act.put, sA, sB, sC])
            refine wpList_q (by rfl) (.slice (ps i).A (ps i).n (ps i).c) ?he ?_
            case he => exact exec_at 22 _ _ (by rw [Nat.mul_one]; exact keep_cell HS51.out HCE.out) rfl rfl Try.underlying22 rfl
            (try simp only [Act.put, sA, sB, sC])
            refine wpList_q (by rfl) (.int .i64 ((ps i).n : Int)) ?he ?_
            case he => (first | rfl | (go_simp; (try with_reducible rfl)))
            (try simp only [Act.put, sA, sB, sC])
            refine wpList_q (by rfl) (.bool true) ?he ?_
            case he => (have q0 := H64.out; go_simp; (first | done | rfl | omega))
            (try simp only [Act.put, sA, sB, sC])
            refine wpList_q (by rfl) (.bool true) ?he ?_
            case he => (first | rfl | (go_simp; (try with_reducible rfl)))
            (try simp only [Act.put, sA, sB, sC])
            refine wpList_q (by rfl) (.bool true) ?he ?_
            case he => (first | rfl | (go_simp; (try with_reducible rfl)))
            (try simp only [Act.put, sA, sB, sC])
            refine wpList_no (by rfl) ?_
            (try simp only [Act.put, sA, sB, sC])
            refine wpList_no (by rfl) ?_
            (try simp only [Act.put, sA, sB, sC])
            refine wpList_no (by rfl) ?_
            (try simp only [Act.put, sA, sB, sC])
            refine wpList_q (by rfl) (.bool true) ?he ?_
            case he => (first | rfl | (go_simp; (try with_reducible rfl)))
            (try simp only [Act.put, sA, sB, sC])
            refine wpList_nil ?_
            go_upto_region 6 with fail
            refine wp_region_lit ?_
            refine wpList_wp (by rfl) (fun K hK => ?_)
            (try go_simp)
            refine (ans _).mono ?_
            rintro e w52 ⟨rfl, hb⟩
            (try go_wp2_with fail)
            refine hK.out _ _ ?_
            clear hK K
            (try simp only [Act.put, sA, sB, sC])
            have HS52 := Lib.hid (Since.trans HS51.out hb)
            have HFa52 := Lib.hid (keep_own hb HFa51.out)
            clear HS51 HFa51
            clear hb
            refine wpList_q (by rfl) (.bool true) ?he ?_
            case he => (first | rfl | (go_simp; (try with_reducible rfl)))
            (try simp only [Act.put, sA, sB, sC])
            refine wpList_nil ?_
            (try go_wp2_with fail)
            go_ret
            exact ⟨rfl, HS52.out⟩
        · have H1 := Lib.hid hcs; clear hcs
          go_upto_region 5 with fail
          refine wp_region_lit ?_
          refine wpList_q (by rfl) (.slice (some ⟨gl, offl, none⟩) nl cl) ?he ?_
          case he => (first | rfl | (go_simp; (try with_reducible rfl)))
          (try simp only [Act.put, sA, sB, sC])
          refine wpList_q (by rfl) (.int .i64 (nl : Int)) ?he ?_
          case he => (first | rfl | (go_simp; (try with_reducible rfl)))
          (try simp only [Act.put, sA, sB, sC])
          refine wpList_q (by rfl) (.bool false) ?he ?_
          case he => (have q0 := H20.out; go_simp; (first | done | rfl | omega))
          (try simp only [Act.put, sA, sB, sC])
          refine wpList_q (by rfl) (.bool false) ?he ?_
          case he => (first | rfl | (go_simp; (try with_reducible rfl)))
          (try simp only [Act.put, sA, sB, sC])
          refine wpList_q (by rfl) (.slice (some ⟨gl, offl, none⟩) nl cl) ?he ?_
          case he => (first | rfl | (go_simp; (try with_reducible rfl)))
          (try simp only [Act.put, sA, sB, sC])
          refine wpList_q (by rfl) (.int .i64 (i : Int)) ?he ?_
          case he => (first | rfl | (go_simp; (try with_reducible rfl)))
          (try simp only [Act.put, sA, sB, sC])
          refine wpList_q (by rfl) (.pointer (some ⟨gl, (offl + i * 1), none⟩)) ?he ?_
          case he => exact exec_index (i := i) (s := 1) 37 22 _ _ rfl rfl rfl rfl HLT.out Try.underlying37 (by kernel_rfl)
          (try simp only [Act.put, sA, sB, sC])
          refine wpList_q (by rfl) (.slice (ps i).A (ps i).n (ps i).c) ?he ?_
          case he => exact exec_at 22 _ _ (by rw [Nat.mul_one]; exact keep_cell HS51.out HCE.out) rfl rfl Try.underlying22 rfl
          (try simp only [Act.put, sA, sB, sC])
          refine wpList_q (by rfl) (.int .i64 ((ps i).n : Int)) ?he ?_
          case he => (first | rfl | (go_simp; (try with_reducible rfl)))
          (try simp only [Act.put, sA, sB, sC])
          refine wpList_q (by rfl) (.bool true) ?he ?_
          case he => (have q0 := H1.out; go_simp; (first | done | rfl | omega))
          (try simp only [Act.put, sA, sB, sC])
          refine wpList_q (by rfl) (.bool true) ?he ?_
          case he => (first | rfl | (go_simp; (try with_reducible rfl)))
          (try simp only [Act.put, sA, sB, sC])
          refine wpList_q (by rfl) (.bool true) ?he ?_
          case he => (first | rfl | (go_simp; (try with_reducible rfl)))
          (try simp only [Act.put, sA, sB, sC])
          refine wpList_no (by rfl) ?_
          (try simp only [Act.put, sA, sB, sC])
          refine wpList_no (by rfl) ?_
          (try simp only [Act.put, sA, sB, sC])
          refine wpList_no (by rfl) ?_
          (try simp only [Act.put, sA, sB, sC])
          refine wpList_no (by rfl) ?_
          (try simp only [Act.put, sA, sB, sC])
          refine wpList_no (by rfl) ?_
          (try simp only [Act.put, sA, sB, sC])
          refine wpList_no (by rfl) ?_
          (try simp only [Act.put, sA, sB, sC])
          refine wpList_q (by rfl) (.bool true) ?he ?_
          case he => (first | rfl | (go_simp; (try with_reducible rfl)))
          (try simp only [Act.put, sA, sB, sC])
          refine wpList_q (by rfl) (.bool true) ?he ?_
          case he => (first | rfl | (go_simp; (try with_reducible rfl)))
          (try simp only [Act.put, sA, sB, sC])
          refine wpList_no (by rfl) ?_
          (try simp only [Act.put, sA, sB, sC])
          refine wpList_no (by rfl) ?_
          (try simp only [Act.put, sA, sB, sC])
          refine wpList_no (by rfl) ?_
          (try simp only [Act.put, sA, sB, sC])
          refine wpList_q (by rfl) (.bool true) ?he ?_
          case he => (first | rfl | (go_simp; (try with_reducible rfl)))
          (try simp only [Act.put, sA, sB, sC])
          refine wpList_nil ?_
          go_upto_region 6 with fail
          refine wp_region_lit ?_
          refine wpList_wp (by rfl) (fun K hK => ?_)
          (try go_simp)
          refine (ans _).mono ?_
          rintro e w52 ⟨rfl, hb⟩
          (try go_wp2_with fail)
          refine hK.out _ _ ?_
          clear hK K
          (try simp only [Act.put, sA, sB, sC])
          have HS52 := Lib.hid (Since.trans HS51.out hb)
          have HFa52 := Lib.hid (keep_own hb HFa51.out)
          clear HS51 HFa51
          clear hb
          refine wpList_q (by rfl) (.bool true) ?he ?_
          case he => (first | rfl | (go_simp; (try with_reducible rfl)))
          (try simp only [Act.put, sA, sB, sC])
          refine wpList_nil ?_
          (try go_wp2_with fail)
          go_ret
          exact ⟨rfl, HS52.out⟩
      · have H20 := Lib.hid hcs; clear hcs
        go_upto_region 5 with fail
        refine wp_region_lit ?_
        refine wpList_q (by rfl) (.slice Al nl cl) ?he ?_
        case he => (first | rfl | (go_simp; (try with_reducible rfl)))
        (try simp only [Act.put, sA, sB, sC])
        refine wpList_q (by rfl) (.int .i64 (nl : Int)) ?he ?_
        case he => (first | rfl | (go_simp; (try with_reducible rfl)))
        (try simp only [Act.put, sA, sB, sC])
        refine wpList_q (by rfl) (.bool true) ?he ?_
        case he => (have q0 := H20.out; go_simp; (first | done | rfl | omega))
        (try simp only [Act.put, sA, sB, sC])
        refine wpList_q (by rfl) (.bool true) ?he ?_
        case he => (first | rfl | (go_simp; (try with_reducible rfl)))
        (try simp only [Act.put, sA, sB, sC])
        refine wpList_no (by rfl) ?_
        (try simp only [Act.put, sA, sB, sC])
        refine wpList_no (by rfl) ?_
        (try simp only [Act.put, sA, sB, sC])
        refine wpList_no (by rfl) ?_
        (try simp only [Act.put, sA, sB, sC])
        refine wpList_no (by rfl) ?_
        (try simp only [Act.put, sA, sB, sC])
        refine wpList_no (by rfl) ?_
        (try simp only [Act.put, sA, sB, sC])
        refine wpList_no (by rfl) ?_
        (try simp only [Act.put, sA, sB, sC])
        refine wpList_q (by rfl) (.bool true) ?he ?_
        case he => (first | rfl | (go_simp; (try with_reducible rfl)))
        (try simp only [Act.put, sA, sB, sC])
        refine wpList_q (by rfl) (.bool true) ?he ?_
        case he => (first | rfl | (go_simp; (try with_reducible rfl)))
        (try simp only [Act.put, sA, sB, sC])
        refine wpList_no (by rfl) ?_
        (try simp only [Act.put, sA, sB, sC])
        refine wpList_no (by rfl) ?_
        (try simp only [Act.put, sA, sB, sC])
        refine wpList_no (by rfl) ?_
        (try simp only [Act.put, sA, sB, sC])
        refine wpList_no (by rfl) ?_
        (try simp only [Act.put, sA, sB, sC])
        refine wpList_no (by rfl) ?_
        (try simp only [Act.put, sA, sB, sC])
        refine wpList_no (by rfl) ?_
        (try simp only [Act.put, sA, sB, sC])
        refine wpList_q (by rfl) (.bool true) ?he ?_
        case he => (first | rfl | (go_simp; (try with_reducible rfl)))
        (try simp only [Act.put, sA, sB, sC])
        refine wpList_q (by rfl) (.bool true) ?he ?_
        case he => (first | rfl | (go_simp; (try with_reducible rfl)))
        (try simp only [Act.put, sA, sB, sC])
        refine wpList_no (by rfl) ?_
        (try simp only [Act.put, sA, sB, sC])
        refine wpList_no (by rfl) ?_
        (try simp only [Act.put, sA, sB, sC])
        refine wpList_no (by rfl) ?_
        (try simp only [Act.put, sA, sB, sC])
        refine wpList_q (by rfl) (.bool true) ?he ?_
        case he => (first | rfl | (go_simp; (try with_reducible rfl)))
        (try simp only [Act.put, sA, sB, sC])
        refine wpList_nil ?_
        go_upto_region 6 with fail
        refine wp_region_lit ?_
        refine wpList_wp (by rfl) (fun K hK => ?_)
        (try go_simp)
        refine (ans _).mono ?_
        rintro e w52 ⟨rfl, hb⟩
        (try go_wp2_with fail)
        refine hK.out _ _ ?_
        clear hK K
        (try simp only [Act.put, sA, sB, sC])
        have HS52 := Lib.hid (Since.trans HS51.out hb)
        have HFa52 := Lib.hid (keep_own hb HFa51.out)
        clear HS51 HFa51
        clear hb
        refine wpList_q (by rfl) (.bool true) ?he ?_
        case he => (first | rfl | (go_simp; (try with_reducible rfl)))
        (try simp only [Act.put, sA, sB, sC])
        refine wpList_nil ?_
        (try go_wp2_with fail)
        go_ret
        exact ⟨rfl, HS52.out⟩
end Go.Proofs.Ytfggnchfkoifeaa.Fq
