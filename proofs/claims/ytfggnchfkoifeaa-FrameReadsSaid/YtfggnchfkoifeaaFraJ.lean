/-
  FrameReads: walked.
  Conditions: what stands ahead of each.
-/
import Derived.Test.YtfggnchfkoifeaaProg
import Derived.Test.YtfggnchfkoifeaaFraG
import Derived.Test.YtfggnchfkoifeaaPart
import Derived.Test.YtfggnchfkoifeaaFrs2
namespace Go.Proofs.Ytfggnchfkoifeaa.Fq
set_option linter.unusedVariables false
set_option linter.unusedSimpArgs false
open Go.RowKit Go.Proofs.Ytfggnchfkoifeaa.Ba Go.Proofs.Ytfggnchfkoifeaa.Mem Go.Proofs.Ytfggnchfkoifeaa.Cm Go.Proofs.Ytfggnchfkoifeaa.Fm
open Go.Proofs.Ytfggnchfkoifeaa.Byt (BV isB cells)
set_option maxRecDepth 100000
attribute [local irreducible] Go.wpList
open Go.Proofs.Ytfggnchfkoifeaa.Pa (Parts PartV)
open Go.Proofs.Ytfggnchfkoifeaa.F2 (Each framesR FsOut)
theorem bv_upd {T : List Nat} {w w' : World} {L : Option Addr} {m : Nat} {xs : List Int} (k : Upd T w w') (h : BV w L m xs) (hd : m = 0 ∨ ∀ g ∈ blkOf L, g ∉ T) : BV w' L m xs := by
  refine ⟨h.1, h.2.1, h.2.2.1, ?_⟩
  rcases h.2.2.2 with h0 | ⟨b, off, rfl, hb, hc⟩
  · exact .inl h0
  · rcases hd with h0 | hd
    · exact .inl h0
    · have hk := k.block b hb (hd b (by simp [blkOf]))
      exact .inr ⟨b, off, rfl, Nat.lt_of_lt_of_le hb k.size, fun j hj => (World.cell?_of_block hk).trans (hc j hj)⟩
theorem dis_bv {S S' : List Nat} {w : World} {L : Option Addr} {m : Nat} {xs : List Int} (hf : ∀ g ∈ S', g ∈ S ∨ w.heap.size ≤ g) (hd : m = 0 ∨ ∀ g ∈ blkOf L, g ∉ S) (h : BV w L m xs) : m = 0 ∨ ∀ g ∈ blkOf L, g ∉ S' := by
  rcases hd with h0 | hd
  · exact .inl h0
  · rcases h.2.2.2 with h0 | ⟨b, off, rfl, hb, _⟩
    · exact .inl h0
    · refine .inr fun g hg hs => ?_
      rcases hf g hs with h1 | h1
      · exact hd g hg h1
      · simp [blkOf] at hg; omega
theorem bv_far2 {w : World} {L : Option Addr} {m b : Nat} {xs : List Int} (h : BV w L m xs) (hb : w.heap.size ≤ b) : m = 0 ∨ ∀ g ∈ blkOf L, g ∉ [b] := by
  rcases h.2.2.2 with h0 | ⟨g0, off, rfl, hg0, _⟩
  · exact .inl h0
  · refine .inr fun g hg hs => ?_
    simp [blkOf] at hg
    simp at hs
    omega
def vb (vs : List Value) : List Nat := vs.flatMap fun v => match v with | .slice A _ _ => blkOf A | _ => []
theorem each_keep {w w' : World} {b : Nat} {vs : List Value} {ps : List (List Int)} (k : Since w w') (h : Each w b vs ps) : Each w' b vs ps := Each.below k h
theorem each_low {w : World} {b : Nat} : ∀ {vs : List Value} {ps : List (List Int)}, Each w b vs ps → ∀ g ∈ vb vs, b ≤ g
  | [], [], _, g, hg => by simp [vb] at hg
  | v :: vs, p :: ps, h, g, hg => by
    obtain ⟨⟨A, c, rfl, ho⟩, h2⟩ := h
    simp only [vb, List.flatMap_cons] at hg
    rcases List.mem_append.1 hg with hg | hg
    · exact own_low ho g hg
    · exact each_low h2 g hg
theorem each_lt {w : World} {b : Nat} : ∀ {vs : List Value} {ps : List (List Int)}, Each w b vs ps → ∀ g ∈ vb vs, g < w.heap.size
  | [], [], _, g, hg => by simp [vb] at hg
  | v :: vs, p :: ps, h, g, hg => by
    obtain ⟨⟨A, c, rfl, ho⟩, h2⟩ := h
    simp only [vb, List.flatMap_cons] at hg
    rcases List.mem_append.1 hg with hg | hg
    · exact own_lt ho g hg
    · exact each_lt h2 g hg
theorem each_upd {w w' : World} {b : Nat} {T : List Nat} (k : Upd T w w') : ∀ {vs : List Value} {ps : List (List Int)}, Each w b vs ps → (∀ g ∈ vb vs, g ∉ T) → Each w' b vs ps
  | [], [], _, _ => trivial
  | v :: vs, p :: ps, h, hd => by
    obtain ⟨⟨A, c, rfl, ho⟩, h2⟩ := h
    exact ⟨⟨A, c, rfl, k.own ho fun g hg => hd g (by simp only [vb, List.flatMap_cons]; exact List.mem_append_left _ hg)⟩, each_upd k h2 fun g hg => hd g (by simp only [vb, List.flatMap_cons]; exact List.mem_append_right _ hg)⟩
theorem each_get {w : World} {b : Nat} : ∀ {vs : List Value} {ps : List (List Int)}, Each w b vs ps → ∀ k (hk : k < ps.length), ∃ A c, vs[k]? = some (.slice A (ps[k]).length c) ∧ w.ownsRow b 5 1 (.slice A (ps[k]).length c) (ps[k]).length (cells ps[k])
  | [], [], _, k, hk => by simp at hk
  | v :: vs, p :: ps, h, 0, hk => by
    obtain ⟨⟨A, c, rfl, ho⟩, h2⟩ := h
    exact ⟨A, c, rfl, ho⟩
  | v :: vs, p :: ps, h, k + 1, hk => by
    obtain ⟨A, c, e, ho⟩ := each_get h.2 k (by simpa using hk)
    exact ⟨A, c, by simpa using e, by simpa using ho⟩
theorem framesV (A : Option Addr) (n c : Nat) (zs : List Int) (w : World) (h : BV w A n zs) (hn : n ≤ 30000) (hc : n ≤ c) (W : List (List Int)) (rest : List Int) (hf : frames zs = (W, rest)) :
    Calls Try.prog 19 #[.slice A n c] w fun e w' => ∃ V cv L m cl vs, e = .returned (.tuple #[.slice V W.length cv, .slice L m cl]) ∧ w'.ownsRow w.heap.size 22 1 (.slice V W.length cv) W.length vs ∧ Each w' w.heap.size vs W ∧ BV w' L m rest ∧ (m = 0 ∨ ∀ g ∈ blkOf L, g ∈ blkOf A) ∧ Since w w' := by
  refine (framesR A n c zs w h hn hc).mono ?_
  rintro e w1 ⟨v, vs, L, m, cl, rfl, ho, he, hb, hbel, hin⟩
  rw [hf] at ho he hb
  obtain ⟨V, cv, rfl⟩ := Byt.own_form w1 ho
  exact ⟨V, cv, L, m, cl, vs, rfl, ho, he, hb, hin, hbel⟩
theorem frames_next {l p : List Int} {qs : List (List Int)} {rest : List Int} (h : frames l = (p :: qs, rest)) : ∃ l', nextF l = (some p, l') ∧ frames l' = (qs, rest) := by
  match e : nextF l with
  | (none, r) => rw [frames_none _ _ e] at h; simp at h
  | (some p', r) =>
    rw [frames_some _ _ _ e] at h
    simp only [Prod.mk.injEq, List.cons.injEq] at h
    obtain ⟨⟨rfl, h2⟩, h3⟩ := h
    exact ⟨r, rfl, Prod.ext h2 h3⟩
theorem frames_end {l : List Int} {rest : List Int} (h : frames l = ([], rest)) : nextF l = (none, rest) := by
  match e : nextF l with
  | (none, r) => rw [frames_none _ _ e] at h; simp at h; rw [h]
  | (some p', r) => rw [frames_some _ _ _ e] at h; simp at h
theorem own_cellV {w : World} {lo g n c i : Nat} {e : TypeId} {vs : List Value} {v : Value} (h : w.ownsRow lo e 1 (.slice (some ⟨g, 0, none⟩) n c) n vs) (hv : vs[i]? = some v) : w.cell? ⟨g, i, none⟩ = some v := by
  have := own_rng h (i := 0) (m := vs.length) (l := vs) (by rw [List.drop_zero]; exact List.take_of_length_le (Nat.le_refl _)) i v hv
  simpa using this
theorem keep_bv2 {w w' : World} {L : Option Addr} {m : Nat} {xs : List Int} (k : Since w w') (h : BV w L m xs) : BV w' L m xs := keep_bv k h
theorem eachX_keep {w w' : World} {vs : List Value} {ps : List (List Int)} (k : Since w w') (h : ∃ b, Each w b vs ps) : ∃ b, Each w' b vs ps := by obtain ⟨b, h⟩ := h; exact ⟨b, each_keep k h⟩
theorem eachX_upd {w w' : World} {T : List Nat} {vs : List Value} {ps : List (List Int)} (k : Upd T w w') (h : ∃ b, Each w b vs ps) (hd : ∀ g ∈ vb vs, g ∉ T) : ∃ b, Each w' b vs ps := by obtain ⟨b, h⟩ := h; exact ⟨b, each_upd k h hd⟩
theorem eachX_lt {w : World} {vs : List Value} {ps : List (List Int)} (h : ∃ b, Each w b vs ps) : ∀ g ∈ vb vs, g < w.heap.size := by obtain ⟨b, h⟩ := h; exact each_lt h
theorem SO.isB {w : World} {lo s N : Nat} {xs : List Int} {S : List Nat} (h : SO lo s N xs S w) : ∀ z ∈ xs, Byt.isB z := by
  obtain ⟨h0, A, n, c, tk, zs, rfl, B, O, r1, r2, r3, r4⟩ := h
  intro z hz
  rw [← r3] at hz
  exact r1 z (List.mem_of_mem_drop hz)
theorem frames_len : ∀ (n : Nat) (l : List Int), l.length ≤ n → (frames l).1.length ≤ l.length
  | n, l, hn => by
    match e : nextF l with
    | (none, r) => rw [frames_none _ _ e]; simp
    | (some p, r) =>
      have h1 := nextF_less l p r e
      rw [frames_some _ _ _ e]
      match n with
      | 0 => omega
      | n + 1 =>
        have := frames_len n r (by omega)
        simp
        omega
set_option maxHeartbeats 4000000 in
theorem reads (Al : Option Addr) (nl clp : Nat) (ps : Nat → PartV) (w : World) (hpl : Parts w Al nl ps) (hnl : nl ≤ 9223372036854775807) : Calls Try.prog 7 #[.slice Al nl clp] w fun e w' => e = .returned (.bool true) ∧ Since w w' := by
  have HPL := Lib.hid hpl
  clear hpl
  have HNL := Lib.hid hnl
  clear hnl
  go_enter Try.func7, Try.ntmps7
  go_upto_region 1 with fail
  have HS1 := Lib.hid (Since.refl w)
  refine wp_region_lit ?_
  refine wpList_wp (by rfl) (fun K hK => ?_)
  refine wp_new (fun b => .pointer (some ⟨b, 0, none⟩)) 40 #[.slice none 0 0, .int .i64 0] (by rintro b rfl; first | rfl | kernel_rfl) ?_
  intro bn13 w2 hge hB hb
  refine hK.out _ _ ?_
  clear hK K
  (try simp only [Act.put, sA, sB, sC])
  have HGn13 := Lib.hid (show w.heap.size ≤ bn13 by have := Since.size HS1.out; omega)
  have HS2 := Lib.hid (Since.trans HS1.out hb)
  clear HS1 
  clear hb hge
  have HBn132 := Lib.hid hB
  clear hB
  refine wpList_q (by rfl) (.pointer (some ⟨bn13, 0, none⟩)) ?he ?_
  case he => (first | rfl | (go_simp; (try with_reducible rfl)))
  (try simp only [Act.put, sA, sB, sC])
  refine wpList_nil ?_
  have HFs := Lib.hid (SO.new HBn132.out HGn13.out)
  clear HBn132
  go_upto_region 2 with fail
  refine wp_region_lit ?_
  refine wpList_q (by rfl) (.slice none 0 0) ?he ?_
  case he => (first | rfl | (go_simp; (try with_reducible rfl)))
  (try simp only [Act.put, sA, sB, sC])
  refine wpList_nil ?_
  go_upto_region 3 with fail
  refine wp_region_lit ?_
  refine wpList_q (by rfl) (.int .i64 0) ?he ?_
  case he => (first | rfl | (go_simp; (try with_reducible rfl)))
  (try simp only [Act.put, sA, sB, sC])
  refine wpList_nil ?_
  go_wp2_with fail
  have HW0 := Lib.hid (BV.nil w2 none)
  go_loopw [4, 5] (fun s4 s5 wr => ∃ (k : Nat) (L : Option Addr) (m cl : Nat) (xs : List Int) (Ss : List Nat), k ≤ nl ∧ s4 = .slice L m cl ∧ s5 = .int .i64 (k : Int) ∧ Hid ((m = 0 ∨ ∀ g ∈ blkOf L, g ∉ Ss) ∧ (k = 0 ∨ nl ≤ 40) ∧ Since w wr ∧ SO w.heap.size bn13 (500 * k) xs Ss wr ∧ BV wr L m xs)) (fun s4 s5 wq => ((nl : Int) - intOf s5).toNat)
  case atStart => exact ⟨0, none, 0, 0, [], [bn13], Nat.zero_le _, rfl, rfl, Lib.hid ⟨(.inl rfl), (.inl rfl), HS2.out, HFs.out, HW0.out⟩⟩
  case round =>
    obtain ⟨k, L, m, cl, xs, Ss, hk, rfl, rfl, HO⟩ := hrel
    obtain ⟨e0, e1, g0, g1, g2⟩ := HO.out
    clear HO HS2 HFs HW0
    have HDW := Lib.hid e0
    have HN40 := Lib.hid e1
    have HS52 := Lib.hid g0
    have HFs52 := Lib.hid g1
    have HFwt52 := Lib.hid g2
    clear e0 e1 g0 g1 g2
    have HK := Lib.hid hk; clear hk
    by_cases hcs : k < nl
    rotate_left
    · have HLT := Lib.hid hcs; clear hcs
      go_upto_region 4 with fail
      refine wp_region_lit ?_
      refine wpList_q (by rfl) (.int .i64 (k : Int)) ?he ?_
      case he => (first | rfl | (go_simp; (try with_reducible rfl)))
      (try simp only [Act.put, sA, sB, sC])
      refine wpList_q (by rfl) (.slice Al nl clp) ?he ?_
      case he => (first | rfl | (go_simp; (try with_reducible rfl)))
      (try simp only [Act.put, sA, sB, sC])
      refine wpList_q (by rfl) (.int .i64 (nl : Int)) ?he ?_
      case he => (first | rfl | (go_simp; (try with_reducible rfl)))
      (try simp only [Act.put, sA, sB, sC])
      refine wpList_q (by rfl) (.bool false) ?he ?_
      case he => (have q0 := HLT.out; go_simp; (first | done | rfl | omega))
      (try simp only [Act.put, sA, sB, sC])
      refine wpList_nil ?_
      go_upto_region 20 with fail
      refine wp_region_lit ?_
      refine wpList_wp (by rfl) (fun K hK => ?_)
      (try go_simp)
      refine (ans _).mono ?_
      rintro e w53 ⟨rfl, hb⟩
      (try go_wp2_with fail)
      refine hK.out _ _ ?_
      clear hK K
      (try simp only [Act.put, sA, sB, sC])
      have HS53 := Lib.hid (Since.trans HS52.out hb)
      have HFs53 := Lib.hid (SO.keep hb HFs52.out)
      have HFwt53 := Lib.hid (keep_bv2 hb HFwt52.out)
      clear HS52 HFs52 HFwt52
      clear hb
      refine wpList_q (by rfl) (.bool true) ?he ?_
      case he => (first | rfl | (go_simp; (try with_reducible rfl)))
      (try simp only [Act.put, sA, sB, sC])
      refine wpList_nil ?_
      (try go_wp2_with fail)
      go_ret
      exact ⟨rfl, HS53.out⟩
    · have HLT := Lib.hid hcs; clear hcs
      go_upto_region 4 with fail
      refine wp_region_lit ?_
      refine wpList_q (by rfl) (.int .i64 (k : Int)) ?he ?_
      case he => (first | rfl | (go_simp; (try with_reducible rfl)))
      (try simp only [Act.put, sA, sB, sC])
      refine wpList_q (by rfl) (.slice Al nl clp) ?he ?_
      case he => (first | rfl | (go_simp; (try with_reducible rfl)))
      (try simp only [Act.put, sA, sB, sC])
      refine wpList_q (by rfl) (.int .i64 (nl : Int)) ?he ?_
      case he => (first | rfl | (go_simp; (try with_reducible rfl)))
      (try simp only [Act.put, sA, sB, sC])
      refine wpList_q (by rfl) (.bool true) ?he ?_
      case he => (have q0 := HLT.out; go_simp; (first | done | rfl | omega))
      (try simp only [Act.put, sA, sB, sC])
      refine wpList_nil ?_
      obtain ⟨gl, offl, hAl, hcl⟩ := Parts.at_ HPL.out HLT.out
      have hci := hcl k HLT.out; clear hcl
      subst hAl
      have HCE := Lib.hid hci.1; have HBI := Lib.hid hci.2.1; have HCI := Lib.hid hci.2.2; clear hci
      by_cases hcs : 500 < (ps k).n
      rotate_left
      · have H500 := Lib.hid hcs; clear hcs
        by_cases hcs : 40 < nl
        rotate_left
        · have H40 := Lib.hid hcs; clear hcs
          go_upto_region 6 with fail
          refine wp_region_lit ?_
          refine wpList_q (by rfl) (.slice (some ⟨gl, offl, none⟩) nl clp) ?he ?_
          case he => (first | rfl | (go_simp; (try with_reducible rfl)))
          (try simp only [Act.put, sA, sB, sC])
          refine wpList_q (by rfl) (.int .i64 (k : Int)) ?he ?_
          case he => (first | rfl | (go_simp; (try with_reducible rfl)))
          (try simp only [Act.put, sA, sB, sC])
          refine wpList_q (by rfl) (.pointer (some ⟨gl, (offl + k * 1), none⟩)) ?he ?_
          case he => exact exec_index (i := k) (s := 1) 37 22 _ _ rfl rfl rfl rfl HLT.out Try.underlying37 (by kernel_rfl)
          (try simp only [Act.put, sA, sB, sC])
          refine wpList_q (by rfl) (.slice (ps k).A (ps k).n (ps k).c) ?he ?_
          case he => exact exec_at 22 _ _ (by rw [Nat.mul_one]; exact keep_cell HS52.out HCE.out) rfl rfl Try.underlying22 rfl
          (try simp only [Act.put, sA, sB, sC])
          refine wpList_q (by rfl) (.int .i64 ((ps k).n : Int)) ?he ?_
          case he => (first | rfl | (go_simp; (try with_reducible rfl)))
          (try simp only [Act.put, sA, sB, sC])
          refine wpList_q (by rfl) (.bool false) ?he ?_
          case he => (have q0 := H500.out; go_simp; (first | done | rfl | omega))
          (try simp only [Act.put, sA, sB, sC])
          refine wpList_q (by rfl) (.bool false) ?he ?_
          case he => (first | rfl | (go_simp; (try with_reducible rfl)))
          (try simp only [Act.put, sA, sB, sC])
          refine wpList_q (by rfl) (.slice (some ⟨gl, offl, none⟩) nl clp) ?he ?_
          case he => (first | rfl | (go_simp; (try with_reducible rfl)))
          (try simp only [Act.put, sA, sB, sC])
          refine wpList_q (by rfl) (.int .i64 (nl : Int)) ?he ?_
          case he => (first | rfl | (go_simp; (try with_reducible rfl)))
          (try simp only [Act.put, sA, sB, sC])
          refine wpList_q (by rfl) (.bool false) ?he ?_
          case he => (have q0 := H40.out; go_simp; (first | done | rfl | omega))
          (try simp only [Act.put, sA, sB, sC])
          refine wpList_q (by rfl) (.bool false) ?he ?_
          case he => (first | rfl | (go_simp; (try with_reducible rfl)))
          (try simp only [Act.put, sA, sB, sC])
          refine wpList_nil ?_
          have HXL := Lib.hid (show xs.length ≤ 500 * k from SO.len HFs52.out)
          go_upto_region 8 with fail
          refine wp_region_lit ?_
          refine wpList_q (by rfl) (.pointer (some ⟨bn13, 0, none⟩)) ?he ?_
          case he => (first | rfl | (go_simp; (try with_reducible rfl)))
          (try simp only [Act.put, sA, sB, sC])
          refine wpList_wp (by rfl) (fun K hK => ?_)
          refine wp_new (fun b => .slice (some ⟨b, 0, none⟩) 0 0) 5 #[] (by rintro b rfl; first | rfl | kernel_rfl) ?_
          intro bn33 w53 hge hB hb
          refine hK.out _ _ ?_
          clear hK K
          (try simp only [Act.put, sA, sB, sC])
          have HGn33 := Lib.hid (show w.heap.size ≤ bn33 by have := Since.size HS52.out; omega)
          have HIn33_s := Lib.hid (SO.far HFs52.out hge)
          have HIn33_wt := Lib.hid (bv_far2 HFwt52.out hge)
          have HS53 := Lib.hid (Since.trans HS52.out hb)
          have HFs53 := Lib.hid (SO.keep hb HFs52.out)
          have HFwt53 := Lib.hid (keep_bv2 hb HFwt52.out)
          clear HS52 HFs52 HFwt52
          clear hb hge
          have HBn3353 := Lib.hid hB
          clear hB
          refine wpList_q (by rfl) (.slice (some ⟨gl, offl, none⟩) nl clp) ?he ?_
          case he => (first | rfl | (go_simp; (try with_reducible rfl)))
          (try simp only [Act.put, sA, sB, sC])
          refine wpList_q (by rfl) (.int .i64 (k : Int)) ?he ?_
          case he => (first | rfl | (go_simp; (try with_reducible rfl)))
          (try simp only [Act.put, sA, sB, sC])
          refine wpList_q (by rfl) (.pointer (some ⟨gl, (offl + k * 1), none⟩)) ?he ?_
          case he => exact exec_index (i := k) (s := 1) 37 22 _ _ rfl rfl rfl rfl HLT.out Try.underlying37 (by kernel_rfl)
          (try simp only [Act.put, sA, sB, sC])
          refine wpList_q (by rfl) (.slice (ps k).A (ps k).n (ps k).c) ?he ?_
          case he => exact exec_at 22 _ _ (by rw [Nat.mul_one]; exact keep_cell HS53.out HCE.out) rfl rfl Try.underlying22 rfl
          (try simp only [Act.put, sA, sB, sC])
          refine wpList_wp (by rfl) (fun K hK => ?_)
          have HOE := Lib.hid (own_empty (e := 5) (size := 1) HBn3353.out HGn33.out)
          clear HBn3353
          refine wp_append_row (.tmp 33) (.tmp 37) 22 rfl w.heap.size 5 (Value.int .u8 0) 1 1 Try.underlying22 (by kernel_rfl) rfl (by decide) (by decide) (some ⟨bn33, 0, none⟩) 0 0 ([]) rfl HOE.out _ ((ps k).A) ((ps k).n) ((ps k).c) (cells (ps k).zs) rfl (bv_reads (keep_bv HS53.out HBI.out)) (Byt.cells_one _) (by have := H500.out; omega) (Since.size HS53.out) ((ps k).n) (cells (ps k).zs) (Nat.zero_add _) rfl ?_
          intro A_1 c_1 w54 hown hupd hfar
          refine hK.out _ _ ?_
          clear hK K
          (try simp only [Act.put, sA, sB, sC])
          have HS54 := Lib.hid (Since.upd HS53.out hupd (own_low HOE.out))
          have HFs54 := Lib.hid (SO.upd hupd HFs53.out (fun g hg h => HIn33_s.out (by simp [blkOf] at h; rw [← h]; exact hg)))
          have HDDs_r_54 := Lib.hid (dis_next hfar (fun g hg h => HIn33_s.out (by simp [blkOf] at h; rw [← h]; exact hg)) (SO.lt HFs53.out))
          have HFwt54 := Lib.hid (bv_upd hupd HFwt53.out HIn33_wt.out)
          have HDDwt_r_54 := Lib.hid (dis_bv hfar HIn33_wt.out HFwt53.out)
          have HFr54 := Lib.hid hown
          clear hupd hown hfar HS53 HFs53 HFwt53 HOE
          refine wpList_wp (by rfl) (fun K hK => ?_)
          (try go_simp)
          refine (feedV w.heap.size bn13 (500 * k) xs Ss A_1 (ps k).n c_1 (ps k).zs _ HFs54.out (BV.of_own HFr54.out HBI.out.2.2.1) (by have := H500.out; have := H40.out; have := HLT.out; omega) (500 * k + (ps k).n) (xs ++ (ps k).zs) rfl rfl).mono ?_
          rintro e w55 ⟨Ss_2, rfl, hobj, hupd, hfar⟩
          (try go_wp2_with fail)
          refine hK.out _ _ ?_
          clear hK K
          (try simp only [Act.put, sA, sB, sC])
          have HS55 := Lib.hid (Since.upd HS54.out hupd (SO.low HFs54.out))
          have HFwt55 := Lib.hid (bv_upd hupd HFwt54.out HDW.out)
          have HDDwt_s_55 := Lib.hid (dis_bv hfar HDW.out HFwt54.out)
          have HFr55 := Lib.hid (Upd.own hupd HFr54.out (fun g hg h => HDDs_r_54.out g h hg))
          have HDDr_s_55 := Lib.hid (dis_next hfar (fun g hg h => HDDs_r_54.out g h hg) (own_lt HFr54.out))
          have HFs55 := Lib.hid hobj
          clear hupd hobj hfar HS54 HFs54 HFwt54 HFr54
          refine wpList_nil ?_
          obtain ⟨Wp, rest, hfr⟩ : ∃ Wp rest, frames (xs ++ (ps k).zs) = (Wp, rest) := ⟨_, _, rfl⟩
          have HFR := Lib.hid hfr; clear hfr
          have HML := Lib.hid (show m = xs.length from HFwt55.out.1.symm)
          have HXB := Lib.hid (show ∀ z ∈ xs, isB z from HFwt55.out.2.2.1)
          go_upto_region 9 with fail
          have hrK : ∀ W W' : World, Since W W' → (Since w W ∧ SO w.heap.size bn13 (500 * k + (ps k).n) (xs ++ (ps k).zs) Ss_2 W ∧ BV W L m xs) → (Since w W' ∧ SO w.heap.size bn13 (500 * k + (ps k).n) (xs ++ (ps k).zs) Ss_2 W' ∧ BV W' L m xs) := fun W W' k ⟨h, h0, h1⟩ => ⟨h.trans k, SO.keep k h0, keep_bv2 k h1⟩
          have hrS : (fun W : World => Since w W ∧ SO w.heap.size bn13 (500 * k + (ps k).n) (xs ++ (ps k).zs) Ss_2 W ∧ BV W L m xs) w55 := ⟨HS55.out, HFs55.out, HFwt55.out⟩
          have HRK := Lib.hid hrK
          have HRD := Lib.hid (show (fun W : World => Since w W ∧ SO w.heap.size bn13 (500 * k + (ps k).n) (xs ++ (ps k).zs) Ss_2 W ∧ BV W L m xs) (World.drew w55) from hrK _ _ ((Since.refl w55).drew) hrS)
          clear hrK hrS
          refine wp_region_held_drew (S := fun W : World => Since w W ∧ SO w.heap.size bn13 (500 * k + (ps k).n) (xs ++ (ps k).zs) Ss_2 W ∧ BV W L m xs) (by kernel_rfl) HRD.out (fun hHeld => ?_)
          refine wpAnyH_take (i := 1) (oi := ?o9__1) (v := .slice L m cl) ?h9__1 (by kernel_rfl) (by kernel_rfl) (by kernel_rfl) ?q9__1 ?y9__1 (by assumption) ?_
          case h9__1 => (first | (simp only [gA, gB, gC]; done) | (simp only [gA, gB, gC]; exact rfl))
          case q9__1 => exact fun _ _ _ h => h
          case y9__1 => (refine Or.inl ⟨rfl, ?_⟩; intro w hSw; (first | rfl | (go_simp; (try with_reducible rfl))))
          (try simp only [Act.put, sA, sB, sC])
          refine wpAnyH_take (i := 3) (oi := ?o9__3) (v := .slice (some ⟨gl, offl, none⟩) nl clp) ?h9__3 (by kernel_rfl) (by kernel_rfl) (by kernel_rfl) ?q9__3 ?y9__3 (by assumption) ?_
          case h9__3 => (first | (simp only [gA, gB, gC]; done) | (simp only [gA, gB, gC]; exact rfl))
          case q9__3 => exact fun _ _ _ h => h
          case y9__3 => (refine Or.inl ⟨rfl, ?_⟩; intro w hSw; (first | rfl | (go_simp; (try with_reducible rfl))))
          (try simp only [Act.put, sA, sB, sC])
          refine wpAnyH_take (i := 4) (oi := ?o9__4) (v := .int .i64 (k : Int)) ?h9__4 (by kernel_rfl) (by kernel_rfl) (by kernel_rfl) ?q9__4 ?y9__4 (by assumption) ?_
          case h9__4 => (first | (simp only [gA, gB, gC]; done) | (simp only [gA, gB, gC]; exact rfl))
          case q9__4 => exact fun _ _ _ h => h
          case y9__4 => (refine Or.inl ⟨rfl, ?_⟩; intro w hSw; (first | rfl | (go_simp; (try with_reducible rfl))))
          (try simp only [Act.put, sA, sB, sC])
          refine wpAnyH_take (i := 5) (oi := ?o9__5) (v := .pointer (some ⟨gl, (offl + k * 1), none⟩)) ?h9__5 (by kernel_rfl) (by kernel_rfl) (by kernel_rfl) ?q9__5 ?y9__5 (by assumption) ?_
          case h9__5 => (first | (simp only [gA, gB, gC]; done) | (simp only [gA, gB, gC]; exact rfl))
          case q9__5 => exact fun _ _ _ h => h
          case y9__5 => (refine Or.inl ⟨rfl, ?_⟩; intro w hSw; exact exec_index (i := k) (s := 1) 37 22 _ _ rfl rfl rfl rfl HLT.out Try.underlying37 (by kernel_rfl))
          (try simp only [Act.put, sA, sB, sC])
          refine wpAnyH_take (i := 6) (oi := ?o9__6) (v := .slice (ps k).A (ps k).n (ps k).c) ?h9__6 (by kernel_rfl) (by kernel_rfl) (by kernel_rfl) ?q9__6 ?y9__6 (by assumption) ?_
          case h9__6 => (first | (simp only [gA, gB, gC]; done) | (simp only [gA, gB, gC]; exact rfl))
          case q9__6 => exact fun _ _ _ h => h
          case y9__6 => (refine Or.inl ⟨rfl, ?_⟩; intro w hSw; exact exec_at 22 _ _ (by rw [Nat.mul_one]; exact keep_cell hSw.1 HCE.out) rfl rfl Try.underlying22 rfl)
          (try simp only [Act.put, sA, sB, sC])
          refine wpAnyH_ready (rs := [0]) (by kernel_rfl) (by simp) ?_
          refine AllReadyH.cons (o := ?o9__0) ?h9__0 (fun K hK => ?_) AllReadyH.nil
          case h9__0 => (first | (simp only [gA, gB, gC]; done) | (simp only [gA, gB, gC]; exact rfl))
          rw [if_pos (by rfl)]
          refine wp_new (fun b => .slice (some ⟨b, 0, none⟩) 0 0) 5 #[] (by rintro b rfl; first | rfl | kernel_rfl) ?_
          intro bn41 w56 hge hB hb
          refine hK.out _ _ (by (apply HRK.out; exact hb; exact hHeld)) (fun hHeld2 => ?_)
          have HIn41_s := Lib.hid (SO.far (hHeld.2.1) hge)
          have HIn41_wt := Lib.hid (bv_far2 (hHeld.2.2) hge)
          have HGn41 := Lib.hid (show w.heap.size ≤ bn41 by have := Since.size hHeld.1; (try simp at this); (try simp at hge); omega)
          have HXn41 := Lib.hid hB
          clear hB
          clear hge
          clear hK K hHeld hb
          have hHeld := hHeld2
          clear hHeld2
          (try simp only [Act.put, sA, sB, sC])
          have HOE2 := Lib.hid (own_empty (e := 5) (size := 1) HXn41.out HGn41.out)
          clear HXn41
          refine wpAnyH_ready (rs := [2]) (by kernel_rfl) (by simp) ?_
          refine AllReadyH.cons (o := ?o9__2) ?h9__2 (fun K hK => ?_) AllReadyH.nil
          case h9__2 => (first | (simp only [gA, gB, gC]; done) | (simp only [gA, gB, gC]; exact rfl))
          rw [if_pos (by rfl)]
          refine wp_append_row (.tmp 41) (.tmp 42) 22 rfl w.heap.size 5 (Value.int .u8 0) 1 1 Try.underlying22 (by kernel_rfl) rfl (by decide) (by decide) (some ⟨bn41, 0, none⟩) 0 0 ([]) rfl HOE2.out _ L m cl (cells xs) rfl (bv_reads (hHeld.2.2)) (Byt.cells_one _) (by have := HML.out; have := HXL.out; have := H40.out; have := HLT.out; omega) (Since.size hHeld.1) m (cells xs) (Nat.zero_add _) rfl ?_
          intro A_3 c_3 w57 hown hupd hfar
          have hHeld3 : (fun W : World => Since w W ∧ SO w.heap.size bn13 (500 * k + (ps k).n) (xs ++ (ps k).zs) Ss_2 W ∧ BV W L m xs) w57 := ⟨Since.upd hHeld.1 hupd (own_low HOE2.out), SO.upd hupd (hHeld.2.1) (fun g hg h => HIn41_s.out (by simp [blkOf] at h; rw [← h]; exact hg)), bv_upd hupd (hHeld.2.2) HIn41_wt.out⟩
          have HDEs_3 := Lib.hid (dis_next hfar (fun g hg h => HIn41_s.out (by simp [blkOf] at h; rw [← h]; exact hg)) (SO.lt (hHeld.2.1)))
          have HDEwt_3 := Lib.hid (dis_bv hfar HIn41_wt.out (hHeld.2.2))
          have HOW_w57 := Lib.hid hown
          refine hK.out _ _ hHeld3 (fun hHeld2 => ?_)
          clear hK K hHeld hHeld3 hupd hown hfar HOE2 
          have hHeld := hHeld2
          clear hHeld2
          (try simp only [Act.put, sA, sB, sC])
          refine wpAnyH_ready (rs := [7]) (by kernel_rfl) (by simp) ?_
          refine AllReadyH.cons (o := ?o9__7) ?h9__7 (fun K hK => ?_) AllReadyH.nil
          case h9__7 => (first | (simp only [gA, gB, gC]; done) | (simp only [gA, gB, gC]; exact rfl))
          rw [if_pos (by rfl)]
          refine wp_append_row (.tmp 43) (.tmp 47) 22 rfl w.heap.size 5 (Value.int .u8 0) 1 1 Try.underlying22 (by kernel_rfl) rfl (by decide) (by decide) A_3 m c_3 (cells xs) rfl HOW_w57.out _ ((ps k).A) ((ps k).n) ((ps k).c) (cells (ps k).zs) rfl (bv_reads (keep_bv hHeld.1 HBI.out)) (Byt.cells_one _) (by have := HML.out; have := HXL.out; have := H40.out; have := HLT.out; have := H500.out; omega) (Since.size hHeld.1) (m + (ps k).n) (cells (xs ++ (ps k).zs)) rfl (cells_app _ _) ?_
          intro A_4 c_4 w58 hown hupd hfar
          have hHeld3 : (fun W : World => Since w W ∧ SO w.heap.size bn13 (500 * k + (ps k).n) (xs ++ (ps k).zs) Ss_2 W ∧ BV W L m xs) w58 := ⟨Since.upd hHeld.1 hupd (own_low HOW_w57.out), SO.upd hupd (hHeld.2.1) HDEs_3.out, bv_upd hupd (hHeld.2.2) HDEwt_3.out⟩
          have HDEs_4 := Lib.hid (dis_next hfar HDEs_3.out (SO.lt (hHeld.2.1)))
          have HDEwt_4 := Lib.hid (dis_bv hfar HDEwt_3.out (hHeld.2.2))
          have HOW_w58 := Lib.hid hown
          refine hK.out _ _ hHeld3 (fun hHeld2 => ?_)
          clear hK K hHeld hHeld3 hupd hown hfar HOW_w57 
          have hHeld := hHeld2
          clear hHeld2
          (try simp only [Act.put, sA, sB, sC])
          refine wpAnyH_ready (rs := [8]) (by kernel_rfl) (by simp) ?_
          refine AllReadyH.cons (o := ?o9__8) ?h9__8 (fun K hK => ?_) AllReadyH.nil
          case h9__8 => (first | (simp only [gA, gB, gC]; done) | (simp only [gA, gB, gC]; exact rfl))
          (try go_simp)
          refine (framesV A_4 (m + (ps k).n) c_4 (xs ++ (ps k).zs) _ (BV.of_own HOW_w58.out (fun z hz => (List.mem_append.1 hz).elim (HXB.out z) (HBI.out.2.2.1 z))) (by have := HML.out; have := HXL.out; have := H40.out; have := HLT.out; have := H500.out; omega) (own_cap2 HOW_w58.out) Wp rest HFR.out).mono ?_
          rintro e w59 ⟨V, cv, L2, m2, cl2, vs, rfl, hV, hE, hL, hblk, hb⟩
          (try go_wp2_with fail)
          have hold := hHeld
          have HDVs := Lib.hid (show ∀ g ∈ blkOf V, g ∉ Ss_2 from fun g hg h => by have q1 := own_low hV g hg; have q2 := SO.lt (hHeld.2.1) g h; omega)
          have HDEs := Lib.hid (show ∀ g ∈ vb vs, g ∉ Ss_2 from fun g hg h => by have q1 := each_low hE g hg; have q2 := SO.lt (hHeld.2.1) g h; omega)
          have HDLs := Lib.hid (show m2 = 0 ∨ ∀ g ∈ blkOf L2, g ∉ Ss_2 from hblk.imp id (fun q g hg h => HDEs_4.out g h (q g hg)))
          have HVl := Lib.hid (own_base (lo' := w.heap.size) hV (by have q := Since.size hHeld.1; (try simp at q); omega))
          have HEl := Lib.hid hE; have HLl := Lib.hid hL; clear hold hV hE hL hblk
          refine hK.out _ _ (by (apply HRK.out; exact hb; exact hHeld)) (fun hHeld2 => ?_)
          have HOW_w58k := Lib.hid (keep_own hb HOW_w58.out)
          clear HOW_w58
          clear hK K hHeld hb
          have hHeld := hHeld2
          clear hHeld2
          (try simp only [Act.put, sA, sB, sC])
          have HEx : Hid (∃ b, Each w59 b vs Wp) := Lib.hid ⟨_, HEl.out⟩
          clear HEl
          refine wpAnyH_take (i := 9) (oi := ?o9__9) (v := .tuple #[.slice V Wp.length cv, .slice L2 m2 cl2]) ?h9__9 (by kernel_rfl) (by kernel_rfl) (by kernel_rfl) ?q9__9 ?y9__9 (by assumption) ?_
          case h9__9 => (first | (simp only [gA, gB, gC]; done) | (simp only [gA, gB, gC]; exact rfl))
          case q9__9 => exact fun _ _ _ h => h
          case y9__9 => (refine Or.inl ⟨rfl, ?_⟩; intro w hSw; (first | rfl | (go_simp; (try with_reducible rfl))))
          (try simp only [Act.put, sA, sB, sC])
          refine wpAnyH_take (i := 10) (oi := ?o9__10) (v := .slice V Wp.length cv) ?h9__10 (by kernel_rfl) (by kernel_rfl) (by kernel_rfl) ?q9__10 ?y9__10 (by assumption) ?_
          case h9__10 => (first | (simp only [gA, gB, gC]; done) | (simp only [gA, gB, gC]; exact rfl))
          case q9__10 => exact fun _ _ _ h => h
          case y9__10 => (refine Or.inl ⟨rfl, ?_⟩; intro w hSw; (first | rfl | (go_simp; (try with_reducible rfl))))
          (try simp only [Act.put, sA, sB, sC])
          refine wpAnyH_take (i := 11) (oi := ?o9__11) (v := .slice L2 m2 cl2) ?h9__11 (by kernel_rfl) (by kernel_rfl) (by kernel_rfl) ?q9__11 ?y9__11 (by assumption) ?_
          case h9__11 => (first | (simp only [gA, gB, gC]; done) | (simp only [gA, gB, gC]; exact rfl))
          case q9__11 => exact fun _ _ _ h => h
          case y9__11 => (refine Or.inl ⟨rfl, ?_⟩; intro w hSw; (first | rfl | (go_simp; (try with_reducible rfl))))
          (try simp only [Act.put, sA, sB, sC])
          refine wpAnyH_take (i := 12) (oi := ?o9__12) (v := .slice V Wp.length cv) ?h9__12 (by kernel_rfl) (by kernel_rfl) (by kernel_rfl) ?q9__12 ?y9__12 (by assumption) ?_
          case h9__12 => (first | (simp only [gA, gB, gC]; done) | (simp only [gA, gB, gC]; exact rfl))
          case q9__12 => exact fun _ _ _ h => h
          case y9__12 => (refine Or.inl ⟨rfl, ?_⟩; intro w hSw; (first | rfl | (go_simp; (try with_reducible rfl))))
          (try simp only [Act.put, sA, sB, sC])
          refine wpAnyH_take (i := 13) (oi := ?o9__13) (v := .slice L2 m2 cl2) ?h9__13 (by kernel_rfl) (by kernel_rfl) (by kernel_rfl) ?q9__13 ?y9__13 (by assumption) ?_
          case h9__13 => (first | (simp only [gA, gB, gC]; done) | (simp only [gA, gB, gC]; exact rfl))
          case q9__13 => exact fun _ _ _ h => h
          case y9__13 => (refine Or.inl ⟨rfl, ?_⟩; intro w hSw; (first | rfl | (go_simp; (try with_reducible rfl))))
          (try simp only [Act.put, sA, sB, sC])
          refine wpAnyH_done (by kernel_rfl) ?_ _
          have HSd9 := Lib.hid hHeld.1
          have HFsd9 := Lib.hid (hHeld.2.1)
          have HFwtd9 := Lib.hid (hHeld.2.2)
          clear hHeld HRK HRD HS55 HFs55 HFwt55
          have HFed9 := Lib.hid HOW_w58k.out
          clear HOW_w58k
          have HFVd9 := Lib.hid HVl.out
          clear HVl
          have HFEd9 := Lib.hid HEx.out
          clear HEx
          have HFwt2d9 := Lib.hid HLl.out
          clear HLl
          go_upto_region 10 with fail
          refine wp_region_lit ?_
          refine wpList_q (by rfl) (.slice L2 m2 cl2) ?he ?_
          case he => (first | rfl | (go_simp; (try with_reducible rfl)))
          (try simp only [Act.put, sA, sB, sC])
          refine wpList_q (by rfl) (.slice L2 m2 cl2) ?he ?_
          case he => (first | rfl | (go_simp; (try with_reducible rfl)))
          (try simp only [Act.put, sA, sB, sC])
          refine wpList_nil ?_
          go_upto_region 11 with fail
          refine wp_region_lit ?_
          refine wpList_q (by rfl) (.int .i64 0) ?he ?_
          case he => (first | rfl | (go_simp; (try with_reducible rfl)))
          (try simp only [Act.put, sA, sB, sC])
          refine wpList_nil ?_
          go_wp2_with fail
          go_loopw [8] (fun s8 wr => ∃ (k2 : Nat) (xs2 : List Int) (S2 : List Nat), k2 ≤ Wp.length ∧ s8 = .int .i64 (k2 : Int) ∧ Hid (frames xs2 = (Wp.drop k2, rest) ∧ (∀ g ∈ blkOf V, g ∉ S2) ∧ (∀ g ∈ vb vs, g ∉ S2) ∧ (m2 = 0 ∨ ∀ g ∈ blkOf L2, g ∉ S2) ∧ Since w wr ∧ SO w.heap.size bn13 (500 * k + (ps k).n) xs2 S2 wr ∧ (wr).ownsRow w.heap.size 22 1 (.slice V Wp.length cv) Wp.length (vs) ∧ (∃ b, Each wr b vs Wp) ∧ BV wr L2 m2 rest)) (fun s8 wq => ((Wp.length : Int) - intOf s8).toNat)
          case atStart => exact ⟨0, (xs ++ (ps k).zs), Ss_2, Nat.zero_le _, rfl, Lib.hid ⟨HFR.out, HDVs.out, HDEs.out, HDLs.out, HSd9.out, HFsd9.out, HFVd9.out, HFEd9.out, HFwt2d9.out⟩⟩
          case round =>
            obtain ⟨k2, xs2, S2, hk2, rfl, HO⟩ := hrel
            obtain ⟨e0, e1, e2, e3, g0, g1, g2, g3, g4⟩ := HO.out
            clear HO HSd9 HFsd9 HFVd9 HFEd9 HFwt2d9
            have HF2 := Lib.hid e0
            have HDV2 := Lib.hid e1
            have HDE2 := Lib.hid e2
            have HDL2 := Lib.hid e3
            have HS109 := Lib.hid g0
            have HFs109 := Lib.hid g1
            have HFV109 := Lib.hid g2
            have HFE109 := Lib.hid g3
            have HFwt2109 := Lib.hid g4
            clear e0 e1 e2 e3 g0 g1 g2 g3 g4
            have HK2 := Lib.hid hk2; clear hk2
            have HWL := Lib.hid (show Wp.length ≤ 1000000 by have q := frames_len _ (xs ++ (ps k).zs) (Nat.le_refl _); rw [HFR.out, List.length_append, HBI.out.1] at q; have := HXL.out; have := H500.out; have := H40.out; have := HLT.out; simp at q; omega)
            by_cases hcs : k2 < Wp.length
            rotate_left
            · have HL2 := Lib.hid hcs; clear hcs
              go_upto_region 12 with fail
              refine wp_region_lit ?_
              refine wpList_q (by rfl) (.int .i64 (k2 : Int)) ?he ?_
              case he => (first | rfl | (go_simp; (try with_reducible rfl)))
              (try simp only [Act.put, sA, sB, sC])
              refine wpList_q (by rfl) (.slice V Wp.length cv) ?he ?_
              case he => (first | rfl | (go_simp; (try with_reducible rfl)))
              (try simp only [Act.put, sA, sB, sC])
              refine wpList_q (by rfl) (.int .i64 (Wp.length : Int)) ?he ?_
              case he => (first | rfl | (go_simp; (try with_reducible rfl)))
              (try simp only [Act.put, sA, sB, sC])
              refine wpList_q (by rfl) (.bool false) ?he ?_
              case he => (have q0 := HL2.out; go_simp; (first | done | rfl | omega))
              (try simp only [Act.put, sA, sB, sC])
              refine wpList_nil ?_
              have HNX := Lib.hid (frames_end (by have q := HF2.out; rw [List.drop_eq_nil_of_le (by have := HL2.out; omega)] at q; exact q))
              go_upto_region 17 with fail
              refine wp_region_lit ?_
              refine wpList_q (by rfl) (.pointer (some ⟨bn13, 0, none⟩)) ?he ?_
              case he => (first | rfl | (go_simp; (try with_reducible rfl)))
              (try simp only [Act.put, sA, sB, sC])
              refine wpList_wp (by rfl) (fun K hK => ?_)
              (try go_simp)
              refine (nextN w.heap.size bn13 (500 * k + (ps k).n) xs2 rest S2 _ HFs109.out (by have := H500.out; have := H40.out; have := HLT.out; omega) HNX.out).mono ?_
              rintro e w110 ⟨Ss_5, rfl, hobj, hupd, hfar⟩
              (try go_wp2_with fail)
              refine hK.out _ _ ?_
              clear hK K
              (try simp only [Act.put, sA, sB, sC])
              have HS110 := Lib.hid (Since.upd HS109.out hupd (SO.low HFs109.out))
              have HFV110 := Lib.hid (Upd.own hupd HFV109.out HDV2.out)
              have HDDV_s_110 := Lib.hid (dis_next hfar HDV2.out (own_lt HFV109.out))
              have HFE110 := Lib.hid (eachX_upd hupd HFE109.out HDE2.out)
              have HDDE_s_110 := Lib.hid (dis_next hfar HDE2.out (eachX_lt HFE109.out))
              have HFwt2110 := Lib.hid (bv_upd hupd HFwt2109.out HDL2.out)
              have HDDwt2_s_110 := Lib.hid (dis_bv hfar HDL2.out HFwt2109.out)
              have HFs110 := Lib.hid hobj
              clear hupd hobj hfar HS109 HFs109 HFV109 HFE109 HFwt2109
              refine wpList_q (by rfl) (.tuple #[.slice none 0 0, .bool false]) ?he ?_
              case he => (first | rfl | (go_simp; (try with_reducible rfl)))
              (try simp only [Act.put, sA, sB, sC])
              refine wpList_q (by rfl) (.slice none 0 0) ?he ?_
              case he => (first | rfl | (go_simp; (try with_reducible rfl)))
              (try simp only [Act.put, sA, sB, sC])
              refine wpList_q (by rfl) (.bool false) ?he ?_
              case he => (first | rfl | (go_simp; (try with_reducible rfl)))
              (try simp only [Act.put, sA, sB, sC])
              refine wpList_q (by rfl) (.slice none 0 0) ?he ?_
              case he => (first | rfl | (go_simp; (try with_reducible rfl)))
              (try simp only [Act.put, sA, sB, sC])
              refine wpList_q (by rfl) (.bool false) ?he ?_
              case he => (first | rfl | (go_simp; (try with_reducible rfl)))
              (try simp only [Act.put, sA, sB, sC])
              refine wpList_nil ?_
              have HRM := Lib.hid (show rest.length = m2 from HFwt2110.out.1)
              go_upto_region 18 with fail
              refine wp_region_lit ?_
              refine wpList_q (by rfl) (.bool false) ?he ?_
              case he => (first | rfl | (go_simp; (try with_reducible rfl)))
              (try simp only [Act.put, sA, sB, sC])
              refine wpList_q (by rfl) (.bool false) ?he ?_
              case he => (first | rfl | (go_simp; (try with_reducible rfl)))
              (try simp only [Act.put, sA, sB, sC])
              refine wpList_q (by rfl) (.pointer (some ⟨bn13, 0, none⟩)) ?he ?_
              case he => (first | rfl | (go_simp; (try with_reducible rfl)))
              (try simp only [Act.put, sA, sB, sC])
              refine wpList_wp (by rfl) (fun K hK => ?_)
              (try go_simp)
              refine (heldV w.heap.size bn13 (500 * k + (ps k).n) rest Ss_5 _ HFs110.out (by have := H500.out; have := H40.out; have := HLT.out; omega) rest.length rfl).mono ?_
              rintro e w111 ⟨rfl, hb⟩
              (try go_wp2_with fail)
              refine hK.out _ _ ?_
              clear hK K
              (try simp only [Act.put, sA, sB, sC])
              have HS111 := Lib.hid (Since.trans HS110.out hb)
              have HFs111 := Lib.hid (SO.keep hb HFs110.out)
              have HFV111 := Lib.hid (keep_own hb HFV110.out)
              have HFE111 := Lib.hid (eachX_keep hb HFE110.out)
              have HFwt2111 := Lib.hid (keep_bv2 hb HFwt2110.out)
              clear HS110 HFs110 HFV110 HFE110 HFwt2110
              clear hb
              refine wpList_q (by rfl) (.slice L2 m2 cl2) ?he ?_
              case he => (first | rfl | (go_simp; (try with_reducible rfl)))
              (try simp only [Act.put, sA, sB, sC])
              refine wpList_q (by rfl) (.int .i64 (m2 : Int)) ?he ?_
              case he => (first | rfl | (go_simp; (try with_reducible rfl)))
              (try simp only [Act.put, sA, sB, sC])
              refine wpList_q (by rfl) (.bool false) ?he ?_
              case he => (have q := HRM.out; go_simp; (first | done | omega | (simp [q]; done)))
              (try simp only [Act.put, sA, sB, sC])
              refine wpList_q (by rfl) (.bool false) ?he ?_
              case he => (first | rfl | (go_simp; (try with_reducible rfl)))
              (try simp only [Act.put, sA, sB, sC])
              refine wpList_nil ?_
              go_upto_region 5 with fail
              refine wp_region_lit ?_
              refine wpList_q (by rfl) (.int .i64 (k : Int)) ?he ?_
              case he => (first | rfl | (go_simp; (try with_reducible rfl)))
              (try simp only [Act.put, sA, sB, sC])
              refine wpList_q (by rfl) (.int .i64 ((k : Int) + 1)) ?he ?_
              case he => (go_simp; (first | done | (refine wr64 _ ?_ ?_ <;> (have q0 := HLT.out; have q1 := HNL.out; omega)) | (have q0 := HLT.out; have q1 := HNL.out; omega) | (have q0 := HLT.out; have q1 := HNL.out; split <;> omega) | (have q0 := HLT.out; have q1 := HNL.out; intro hh; omega)))
              (try simp only [Act.put, sA, sB, sC])
              refine wpList_q (by rfl) (.int .i64 ((k : Int) + 1)) ?he ?_
              case he => (first | rfl | (go_simp; (try with_reducible rfl)))
              (try simp only [Act.put, sA, sB, sC])
              refine wpList_nil ?_
              go_wp2_with fail
              go_roundw
              case rel => exact ⟨k + 1, L2, m2, cl2, rest, Ss_5, by have := HLT.out; omega, rfl, by go_num, Lib.hid ⟨HDDwt2_s_110.out, .inr (by have := H40.out; omega), HS111.out, SO.more HFs111.out (by have := H500.out; omega), HFwt2111.out⟩⟩
              case measure => have := HLT.out; simp [intOf]; omega
            · have HL2 := Lib.hid hcs; clear hcs
              go_upto_region 12 with fail
              refine wp_region_lit ?_
              refine wpList_q (by rfl) (.int .i64 (k2 : Int)) ?he ?_
              case he => (first | rfl | (go_simp; (try with_reducible rfl)))
              (try simp only [Act.put, sA, sB, sC])
              refine wpList_q (by rfl) (.slice V Wp.length cv) ?he ?_
              case he => (first | rfl | (go_simp; (try with_reducible rfl)))
              (try simp only [Act.put, sA, sB, sC])
              refine wpList_q (by rfl) (.int .i64 (Wp.length : Int)) ?he ?_
              case he => (first | rfl | (go_simp; (try with_reducible rfl)))
              (try simp only [Act.put, sA, sB, sC])
              refine wpList_q (by rfl) (.bool true) ?he ?_
              case he => (have q0 := HL2.out; go_simp; (first | done | rfl | omega))
              (try simp only [Act.put, sA, sB, sC])
              refine wpList_nil ?_
              have hdr : Wp.drop k2 = Wp[k2]'HL2.out :: Wp.drop (k2 + 1) := List.drop_eq_getElem_cons HL2.out
              obtain ⟨xs3, hn3, hf3⟩ := frames_next (HF2.out.trans (by rw [hdr]))
              have HNX := Lib.hid hn3; have HF3 := Lib.hid hf3; clear hn3 hf3 hdr
              have HPB := Lib.hid (show ∀ z ∈ (Wp[k2]'HL2.out), isB z from by obtain ⟨bE, hE⟩ := HFE109.out; obtain ⟨Ak, ck, _, hok⟩ := each_get hE k2 HL2.out; exact nextF_isB HNX.out (SO.isB HFs109.out))
              go_upto_region 14 with fail
              refine wp_region_lit ?_
              refine wpList_q (by rfl) (.pointer (some ⟨bn13, 0, none⟩)) ?he ?_
              case he => (first | rfl | (go_simp; (try with_reducible rfl)))
              (try simp only [Act.put, sA, sB, sC])
              refine wpList_wp (by rfl) (fun K hK => ?_)
              (try go_simp)
              refine (nextS w.heap.size bn13 (500 * k + (ps k).n) xs2 (Wp[k2]'HL2.out) xs3 S2 _ HFs109.out (by have := H500.out; have := H40.out; have := HLT.out; omega) ((Wp[k2]'HL2.out).length) rfl HPB.out HNX.out).mono ?_
              rintro e w110 ⟨Ss_5, Ap, cp, rfl, hobj, hupd, hfar, hbvp, hcp⟩
              (try go_wp2_with fail)
              refine hK.out _ _ ?_
              clear hK K
              (try simp only [Act.put, sA, sB, sC])
              have HS110 := Lib.hid (Since.upd HS109.out hupd (SO.low HFs109.out))
              have HFV110 := Lib.hid (Upd.own hupd HFV109.out HDV2.out)
              have HDDV_s_110 := Lib.hid (dis_next hfar HDV2.out (own_lt HFV109.out))
              have HFE110 := Lib.hid (eachX_upd hupd HFE109.out HDE2.out)
              have HDDE_s_110 := Lib.hid (dis_next hfar HDE2.out (eachX_lt HFE109.out))
              have HFwt2110 := Lib.hid (bv_upd hupd HFwt2109.out HDL2.out)
              have HDDwt2_s_110 := Lib.hid (dis_bv hfar HDL2.out HFwt2109.out)
              have HFs110 := Lib.hid hobj
              clear hupd hobj hfar HS109 HFs109 HFV109 HFE109 HFwt2109
              have HBVP := Lib.hid hbvp; have HCPP := Lib.hid hcp; clear hbvp hcp
              refine wpList_q (by rfl) (.tuple #[.slice Ap ((Wp[k2]'HL2.out).length) cp, .bool true]) ?he ?_
              case he => (first | rfl | (go_simp; (try with_reducible rfl)))
              (try simp only [Act.put, sA, sB, sC])
              refine wpList_q (by rfl) (.slice Ap ((Wp[k2]'HL2.out).length) cp) ?he ?_
              case he => (first | rfl | (go_simp; (try with_reducible rfl)))
              (try simp only [Act.put, sA, sB, sC])
              refine wpList_q (by rfl) (.bool true) ?he ?_
              case he => (first | rfl | (go_simp; (try with_reducible rfl)))
              (try simp only [Act.put, sA, sB, sC])
              refine wpList_q (by rfl) (.slice Ap ((Wp[k2]'HL2.out).length) cp) ?he ?_
              case he => (first | rfl | (go_simp; (try with_reducible rfl)))
              (try simp only [Act.put, sA, sB, sC])
              refine wpList_q (by rfl) (.bool true) ?he ?_
              case he => (first | rfl | (go_simp; (try with_reducible rfl)))
              (try simp only [Act.put, sA, sB, sC])
              refine wpList_nil ?_
              obtain ⟨Ak, ck, hvk, hok⟩ : ∃ Ak ck, vs[k2]? = some (.slice Ak (Wp[k2]'HL2.out).length ck) ∧ BV w110 Ak (Wp[k2]'HL2.out).length (Wp[k2]'HL2.out) := by obtain ⟨bE, hE⟩ := HFE110.out; obtain ⟨Ak, ck, h1, h2⟩ := each_get hE k2 HL2.out; exact ⟨Ak, ck, h1, BV.of_own h2 HPB.out⟩
              have HVK := Lib.hid hvk; have HOK := Lib.hid hok; clear hvk hok
              obtain ⟨gv, hgv⟩ := own_addr HFV110.out (by have := HL2.out; omega)
              subst hgv
              go_upto_region 15 with fail
              have hrK : ∀ W W' : World, Since W W' → (Since w W ∧ SO w.heap.size bn13 (500 * k + (ps k).n) xs3 Ss_5 W ∧ (W).ownsRow w.heap.size 22 1 (.slice (some ⟨gv, 0, none⟩) Wp.length cv) Wp.length (vs) ∧ (∃ b, Each W b vs Wp) ∧ BV W L2 m2 rest ∧ BV W Ap (Wp[k2]'HL2.out).length (Wp[k2]'HL2.out) ∧ BV W Ak (Wp[k2]'HL2.out).length (Wp[k2]'HL2.out)) → (Since w W' ∧ SO w.heap.size bn13 (500 * k + (ps k).n) xs3 Ss_5 W' ∧ (W').ownsRow w.heap.size 22 1 (.slice (some ⟨gv, 0, none⟩) Wp.length cv) Wp.length (vs) ∧ (∃ b, Each W' b vs Wp) ∧ BV W' L2 m2 rest ∧ BV W' Ap (Wp[k2]'HL2.out).length (Wp[k2]'HL2.out) ∧ BV W' Ak (Wp[k2]'HL2.out).length (Wp[k2]'HL2.out)) := fun W W' k ⟨h, h0, h1, h2, h3, h4, h5⟩ => ⟨h.trans k, SO.keep k h0, keep_own k h1, eachX_keep k h2, keep_bv2 k h3, keep_bv k h4, keep_bv k h5⟩
              have hrS : (fun W : World => Since w W ∧ SO w.heap.size bn13 (500 * k + (ps k).n) xs3 Ss_5 W ∧ (W).ownsRow w.heap.size 22 1 (.slice (some ⟨gv, 0, none⟩) Wp.length cv) Wp.length (vs) ∧ (∃ b, Each W b vs Wp) ∧ BV W L2 m2 rest ∧ BV W Ap (Wp[k2]'HL2.out).length (Wp[k2]'HL2.out) ∧ BV W Ak (Wp[k2]'HL2.out).length (Wp[k2]'HL2.out)) w110 := ⟨HS110.out, HFs110.out, HFV110.out, HFE110.out, HFwt2110.out, HBVP.out, HOK.out⟩
              have HRK := Lib.hid hrK
              have HRD := Lib.hid (show (fun W : World => Since w W ∧ SO w.heap.size bn13 (500 * k + (ps k).n) xs3 Ss_5 W ∧ (W).ownsRow w.heap.size 22 1 (.slice (some ⟨gv, 0, none⟩) Wp.length cv) Wp.length (vs) ∧ (∃ b, Each W b vs Wp) ∧ BV W L2 m2 rest ∧ BV W Ap (Wp[k2]'HL2.out).length (Wp[k2]'HL2.out) ∧ BV W Ak (Wp[k2]'HL2.out).length (Wp[k2]'HL2.out)) (World.drew w110) from hrK _ _ ((Since.refl w110).drew) hrS)
              clear hrK hrS
              refine wp_region_held_drew (S := fun W : World => Since w W ∧ SO w.heap.size bn13 (500 * k + (ps k).n) xs3 Ss_5 W ∧ (W).ownsRow w.heap.size 22 1 (.slice (some ⟨gv, 0, none⟩) Wp.length cv) Wp.length (vs) ∧ (∃ b, Each W b vs Wp) ∧ BV W L2 m2 rest ∧ BV W Ap (Wp[k2]'HL2.out).length (Wp[k2]'HL2.out) ∧ BV W Ak (Wp[k2]'HL2.out).length (Wp[k2]'HL2.out)) (by kernel_rfl) HRD.out (fun hHeld => ?_)
              refine wpAnyH_take (i := 0) (oi := ?o15__0) (v := .bool true) ?h15__0 (by kernel_rfl) (by kernel_rfl) (by kernel_rfl) ?q15__0 ?y15__0 (by assumption) ?_
              case h15__0 => (first | (simp only [gA, gB, gC]; done) | (simp only [gA, gB, gC]; exact rfl))
              case q15__0 => exact fun _ _ _ h => h
              case y15__0 => (refine Or.inl ⟨rfl, ?_⟩; intro w hSw; (first | rfl | (go_simp; (try with_reducible rfl))))
              (try simp only [Act.put, sA, sB, sC])
              refine wpAnyH_take (i := 1) (oi := ?o15__1) (v := .bool false) ?h15__1 (by kernel_rfl) (by kernel_rfl) (by kernel_rfl) ?q15__1 ?y15__1 (by assumption) ?_
              case h15__1 => (first | (simp only [gA, gB, gC]; done) | (simp only [gA, gB, gC]; exact rfl))
              case q15__1 => exact fun _ _ _ h => h
              case y15__1 => (refine Or.inl ⟨rfl, ?_⟩; intro w hSw; (go_simp; (try with_reducible rfl)))
              (try simp only [Act.put, sA, sB, sC])
              refine wpAnyH_take (i := 2) (oi := ?o15__2) (v := .bool false) ?h15__2 (by kernel_rfl) (by kernel_rfl) (by kernel_rfl) ?q15__2 ?y15__2 (by assumption) ?_
              case h15__2 => (first | (simp only [gA, gB, gC]; done) | (simp only [gA, gB, gC]; exact rfl))
              case q15__2 => exact fun _ _ _ h => h
              case y15__2 => (refine Or.inl ⟨rfl, ?_⟩; intro w hSw; (first | rfl | (go_simp; (try with_reducible rfl))))
              (try simp only [Act.put, sA, sB, sC])
              refine wpAnyH_take (i := 3) (oi := ?o15__3) (v := .slice Ap ((Wp[k2]'HL2.out).length) cp) ?h15__3 (by kernel_rfl) (by kernel_rfl) (by kernel_rfl) ?q15__3 ?y15__3 (by assumption) ?_
              case h15__3 => (first | (simp only [gA, gB, gC]; done) | (simp only [gA, gB, gC]; exact rfl))
              case q15__3 => exact fun _ _ _ h => h
              case y15__3 => (refine Or.inl ⟨rfl, ?_⟩; intro w hSw; (first | rfl | (go_simp; (try with_reducible rfl))))
              (try simp only [Act.put, sA, sB, sC])
              refine wpAnyH_take (i := 4) (oi := ?o15__4) (v := .string (strOfNums (Wp[k2]'HL2.out))) ?h15__4 (by kernel_rfl) (by kernel_rfl) (by kernel_rfl) ?q15__4 ?y15__4 (by assumption) ?_
              case h15__4 => (first | (simp only [gA, gB, gC]; done) | (simp only [gA, gB, gC]; exact rfl))
              case q15__4 => exact fun _ _ _ h => h
              case y15__4 => (refine Or.inl ⟨rfl, ?_⟩; intro w hSw; exact exec_str 22 5 9 _ hSw.2.2.2.2.2.1 rfl rfl Try.underlying22 Try.underlying5 Try.underlying9)
              (try simp only [Act.put, sA, sB, sC])
              refine wpAnyH_take (i := 5) (oi := ?o15__5) (v := .slice (some ⟨gv, 0, none⟩) Wp.length cv) ?h15__5 (by kernel_rfl) (by kernel_rfl) (by kernel_rfl) ?q15__5 ?y15__5 (by assumption) ?_
              case h15__5 => (first | (simp only [gA, gB, gC]; done) | (simp only [gA, gB, gC]; exact rfl))
              case q15__5 => exact fun _ _ _ h => h
              case y15__5 => (refine Or.inl ⟨rfl, ?_⟩; intro w hSw; (first | rfl | (go_simp; (try with_reducible rfl))))
              (try simp only [Act.put, sA, sB, sC])
              refine wpAnyH_take (i := 6) (oi := ?o15__6) (v := .int .i64 (k2 : Int)) ?h15__6 (by kernel_rfl) (by kernel_rfl) (by kernel_rfl) ?q15__6 ?y15__6 (by assumption) ?_
              case h15__6 => (first | (simp only [gA, gB, gC]; done) | (simp only [gA, gB, gC]; exact rfl))
              case q15__6 => exact fun _ _ _ h => h
              case y15__6 => (refine Or.inl ⟨rfl, ?_⟩; intro w hSw; (first | rfl | (go_simp; (try with_reducible rfl))))
              (try simp only [Act.put, sA, sB, sC])
              refine wpAnyH_take (i := 7) (oi := ?o15__7) (v := .pointer (some ⟨gv, k2, none⟩)) ?h15__7 (by kernel_rfl) (by kernel_rfl) (by kernel_rfl) ?q15__7 ?y15__7 (by assumption) ?_
              case h15__7 => (first | (simp only [gA, gB, gC]; done) | (simp only [gA, gB, gC]; exact rfl))
              case q15__7 => exact fun _ _ _ h => h
              case y15__7 => (refine Or.inl ⟨rfl, ?_⟩; intro w hSw; (refine (exec_index (i := k2) (s := 1) (off := 0) 37 22 _ _ rfl rfl rfl rfl HL2.out Try.underlying37 (by kernel_rfl)).trans ?_; rw [Nat.zero_add, Nat.mul_one]))
              (try simp only [Act.put, sA, sB, sC])
              refine wpAnyH_take (i := 8) (oi := ?o15__8) (v := .slice Ak (Wp[k2]'HL2.out).length ck) ?h15__8 (by kernel_rfl) (by kernel_rfl) (by kernel_rfl) ?q15__8 ?y15__8 (by assumption) ?_
              case h15__8 => (first | (simp only [gA, gB, gC]; done) | (simp only [gA, gB, gC]; exact rfl))
              case q15__8 => exact fun _ _ _ h => h
              case y15__8 => (refine Or.inl ⟨rfl, ?_⟩; intro w hSw; exact exec_at 22 _ _ (own_cellV hSw.2.2.1 HVK.out) rfl rfl Try.underlying22 rfl)
              (try simp only [Act.put, sA, sB, sC])
              refine wpAnyH_take (i := 9) (oi := ?o15__9) (v := .string (strOfNums (Wp[k2]'HL2.out))) ?h15__9 (by kernel_rfl) (by kernel_rfl) (by kernel_rfl) ?q15__9 ?y15__9 (by assumption) ?_
              case h15__9 => (first | (simp only [gA, gB, gC]; done) | (simp only [gA, gB, gC]; exact rfl))
              case q15__9 => exact fun _ _ _ h => h
              case y15__9 => (refine Or.inl ⟨rfl, ?_⟩; intro w hSw; exact exec_str 22 5 9 _ hSw.2.2.2.2.2.2 rfl rfl Try.underlying22 Try.underlying5 Try.underlying9)
              (try simp only [Act.put, sA, sB, sC])
              refine wpAnyH_take (i := 10) (oi := ?o15__10) (v := .bool false) ?h15__10 (by kernel_rfl) (by kernel_rfl) (by kernel_rfl) ?q15__10 ?y15__10 (by assumption) ?_
              case h15__10 => (first | (simp only [gA, gB, gC]; done) | (simp only [gA, gB, gC]; exact rfl))
              case q15__10 => exact fun _ _ _ h => h
              case y15__10 => (refine Or.inl ⟨rfl, ?_⟩; intro w hSw; (go_simp; (first | done | rfl | simp)))
              (try simp only [Act.put, sA, sB, sC])
              refine wpAnyH_take (i := 11) (oi := ?o15__11) (v := .bool false) ?h15__11 (by kernel_rfl) (by kernel_rfl) (by kernel_rfl) ?q15__11 ?y15__11 (by assumption) ?_
              case h15__11 => (first | (simp only [gA, gB, gC]; done) | (simp only [gA, gB, gC]; exact rfl))
              case q15__11 => exact fun _ _ _ h => h
              case y15__11 => (refine Or.inl ⟨rfl, ?_⟩; intro w hSw; (first | rfl | (go_simp; (try with_reducible rfl))))
              (try simp only [Act.put, sA, sB, sC])
              refine wpAnyH_done (by kernel_rfl) ?_ _
              have HSd15 := Lib.hid hHeld.1
              have HFsd15 := Lib.hid (hHeld.2.1)
              have HFVd15 := Lib.hid (hHeld.2.2.1)
              have HFEd15 := Lib.hid (hHeld.2.2.2.1)
              have HFwt2d15 := Lib.hid (hHeld.2.2.2.2.1)
              have HFbpd15 := Lib.hid (hHeld.2.2.2.2.2.1)
              have HFbkd15 := Lib.hid (hHeld.2.2.2.2.2.2)
              clear hHeld HRK HRD HS110 HFs110 HFV110 HFE110 HFwt2110 HBVP HOK
              go_upto_region 13 with fail
              refine wp_region_lit ?_
              refine wpList_q (by rfl) (.int .i64 (k2 : Int)) ?he ?_
              case he => (first | rfl | (go_simp; (try with_reducible rfl)))
              (try simp only [Act.put, sA, sB, sC])
              refine wpList_q (by rfl) (.int .i64 ((k2 : Int) + 1)) ?he ?_
              case he => (go_simp; (first | done | (have q := HL2.out; have q1 := HWL.out; exact wr64 _ (by omega) (by omega))))
              (try simp only [Act.put, sA, sB, sC])
              refine wpList_q (by rfl) (.int .i64 ((k2 : Int) + 1)) ?he ?_
              case he => (first | rfl | (go_simp; (try with_reducible rfl)))
              (try simp only [Act.put, sA, sB, sC])
              refine wpList_nil ?_
              go_wp2_with fail
              go_roundw
              case rel => exact ⟨k2 + 1, xs3, Ss_5, by have := HL2.out; omega, by go_num, Lib.hid ⟨HF3.out, HDDV_s_110.out, HDDE_s_110.out, HDDwt2_s_110.out, HSd15.out, HFsd15.out, HFVd15.out, HFEd15.out, HFwt2d15.out⟩⟩
              case measure => have := HL2.out; simp [intOf]; omega
        · have H40 := Lib.hid hcs; clear hcs
          go_upto_region 6 with fail
          refine wp_region_lit ?_
          refine wpList_q (by rfl) (.slice (some ⟨gl, offl, none⟩) nl clp) ?he ?_
          case he => (first | rfl | (go_simp; (try with_reducible rfl)))
          (try simp only [Act.put, sA, sB, sC])
          refine wpList_q (by rfl) (.int .i64 (k : Int)) ?he ?_
          case he => (first | rfl | (go_simp; (try with_reducible rfl)))
          (try simp only [Act.put, sA, sB, sC])
          refine wpList_q (by rfl) (.pointer (some ⟨gl, (offl + k * 1), none⟩)) ?he ?_
          case he => exact exec_index (i := k) (s := 1) 37 22 _ _ rfl rfl rfl rfl HLT.out Try.underlying37 (by kernel_rfl)
          (try simp only [Act.put, sA, sB, sC])
          refine wpList_q (by rfl) (.slice (ps k).A (ps k).n (ps k).c) ?he ?_
          case he => exact exec_at 22 _ _ (by rw [Nat.mul_one]; exact keep_cell HS52.out HCE.out) rfl rfl Try.underlying22 rfl
          (try simp only [Act.put, sA, sB, sC])
          refine wpList_q (by rfl) (.int .i64 ((ps k).n : Int)) ?he ?_
          case he => (first | rfl | (go_simp; (try with_reducible rfl)))
          (try simp only [Act.put, sA, sB, sC])
          refine wpList_q (by rfl) (.bool false) ?he ?_
          case he => (have q0 := H500.out; go_simp; (first | done | rfl | omega))
          (try simp only [Act.put, sA, sB, sC])
          refine wpList_q (by rfl) (.bool false) ?he ?_
          case he => (first | rfl | (go_simp; (try with_reducible rfl)))
          (try simp only [Act.put, sA, sB, sC])
          refine wpList_q (by rfl) (.slice (some ⟨gl, offl, none⟩) nl clp) ?he ?_
          case he => (first | rfl | (go_simp; (try with_reducible rfl)))
          (try simp only [Act.put, sA, sB, sC])
          refine wpList_q (by rfl) (.int .i64 (nl : Int)) ?he ?_
          case he => (first | rfl | (go_simp; (try with_reducible rfl)))
          (try simp only [Act.put, sA, sB, sC])
          refine wpList_q (by rfl) (.bool true) ?he ?_
          case he => (have q0 := H40.out; go_simp; (first | done | rfl | omega))
          (try simp only [Act.put, sA, sB, sC])
          refine wpList_q (by rfl) (.bool true) ?he ?_
          case he => (first | rfl | (go_simp; (try with_reducible rfl)))
          (try simp only [Act.put, sA, sB, sC])
          refine wpList_nil ?_
          go_upto_region 7 with fail
          refine wp_region_lit ?_
          refine wpList_wp (by rfl) (fun K hK => ?_)
          (try go_simp)
          refine (ans _).mono ?_
          rintro e w53 ⟨rfl, hb⟩
          (try go_wp2_with fail)
          refine hK.out _ _ ?_
          clear hK K
          (try simp only [Act.put, sA, sB, sC])
          have HS53 := Lib.hid (Since.trans HS52.out hb)
          have HFs53 := Lib.hid (SO.keep hb HFs52.out)
          have HFwt53 := Lib.hid (keep_bv2 hb HFwt52.out)
          clear HS52 HFs52 HFwt52
          clear hb
          refine wpList_q (by rfl) (.bool true) ?he ?_
          case he => (first | rfl | (go_simp; (try with_reducible rfl)))
          (try simp only [Act.put, sA, sB, sC])
          refine wpList_nil ?_
          (try go_wp2_with fail)
          go_ret
          exact ⟨rfl, HS53.out⟩
      · have H500 := Lib.hid hcs; clear hcs
        go_upto_region 6 with fail
        refine wp_region_lit ?_
        refine wpList_q (by rfl) (.slice (some ⟨gl, offl, none⟩) nl clp) ?he ?_
        case he => (first | rfl | (go_simp; (try with_reducible rfl)))
        (try simp only [Act.put, sA, sB, sC])
        refine wpList_q (by rfl) (.int .i64 (k : Int)) ?he ?_
        case he => (first | rfl | (go_simp; (try with_reducible rfl)))
        (try simp only [Act.put, sA, sB, sC])
        refine wpList_q (by rfl) (.pointer (some ⟨gl, (offl + k * 1), none⟩)) ?he ?_
        case he => exact exec_index (i := k) (s := 1) 37 22 _ _ rfl rfl rfl rfl HLT.out Try.underlying37 (by kernel_rfl)
        (try simp only [Act.put, sA, sB, sC])
        refine wpList_q (by rfl) (.slice (ps k).A (ps k).n (ps k).c) ?he ?_
        case he => exact exec_at 22 _ _ (by rw [Nat.mul_one]; exact keep_cell HS52.out HCE.out) rfl rfl Try.underlying22 rfl
        (try simp only [Act.put, sA, sB, sC])
        refine wpList_q (by rfl) (.int .i64 ((ps k).n : Int)) ?he ?_
        case he => (first | rfl | (go_simp; (try with_reducible rfl)))
        (try simp only [Act.put, sA, sB, sC])
        refine wpList_q (by rfl) (.bool true) ?he ?_
        case he => (have q0 := H500.out; go_simp; (first | done | rfl | omega))
        (try simp only [Act.put, sA, sB, sC])
        refine wpList_q (by rfl) (.bool true) ?he ?_
        case he => (first | rfl | (go_simp; (try with_reducible rfl)))
        (try simp only [Act.put, sA, sB, sC])
        refine wpList_no (by rfl) ?_
        (try simp only [Act.put, sA, sB, sC])
        refine wpList_no (by rfl) ?_
        (try simp only [Act.put, sA, sB, sC])
        refine wpList_no (by rfl) ?_
        (try simp only [Act.put, sA, sB, sC])
        refine wpList_q (by rfl) (.bool true) ?he ?_
        case he => (first | rfl | (go_simp; (try with_reducible rfl)))
        (try simp only [Act.put, sA, sB, sC])
        refine wpList_nil ?_
        go_upto_region 7 with fail
        refine wp_region_lit ?_
        refine wpList_wp (by rfl) (fun K hK => ?_)
        (try go_simp)
        refine (ans _).mono ?_
        rintro e w53 ⟨rfl, hb⟩
        (try go_wp2_with fail)
        refine hK.out _ _ ?_
        clear hK K
        (try simp only [Act.put, sA, sB, sC])
        have HS53 := Lib.hid (Since.trans HS52.out hb)
        have HFs53 := Lib.hid (SO.keep hb HFs52.out)
        have HFwt53 := Lib.hid (keep_bv2 hb HFwt52.out)
        clear HS52 HFs52 HFwt52
        clear hb
        refine wpList_q (by rfl) (.bool true) ?he ?_
        case he => (first | rfl | (go_simp; (try with_reducible rfl)))
        (try simp only [Act.put, sA, sB, sC])
        refine wpList_nil ?_
        (try go_wp2_with fail)
        go_ret
        exact ⟨rfl, HS53.out⟩
theorem readsF {H : Type} {enc : TypeId × Value → H} {x : DataW H × List MemPlace} (Al : Option Addr) (nl cl : Nat) (w : World) (h0 : ∃ m, DataW.trod enc Try.prog w 0 (fun _ => true) true m 37 (Value.cells (.slice Al nl cl)).toList = some x) :
    Calls Try.prog 7 #[.slice Al nl cl] w fun e w' => e = .returned (.bool true) ∧ Since w w' := by
  obtain ⟨m, hm⟩ := h0
  obtain ⟨ps, hps, hl⟩ := Pa.Parts.open_ hm
  exact reads Al nl cl ps w hps hl
end Go.Proofs.Ytfggnchfkoifeaa.Fq
