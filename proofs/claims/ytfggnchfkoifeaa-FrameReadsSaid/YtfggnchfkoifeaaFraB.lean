/-
  a stream as an object; first, Held, Feed, forget: walked.
  Conditions: what stands ahead of each.
-/
import Derived.Defers
import Derived.Test.YtfggnchfkoifeaaProg
import Derived.Test.YtfggnchfkoifeaaFraA
namespace Go.Proofs.Ytfggnchfkoifeaa.Fq
set_option linter.unusedVariables false
set_option linter.unusedSimpArgs false
open Go.RowKit Go.Proofs.Ytfggnchfkoifeaa.Ba Go.Proofs.Ytfggnchfkoifeaa.Mem Go.Proofs.Ytfggnchfkoifeaa.Cm Go.Proofs.Ytfggnchfkoifeaa.Fm
open Go.Proofs.Ytfggnchfkoifeaa.Byt (BV isB cells)
set_option maxRecDepth 100000
attribute [local irreducible] Go.wpList
/-- The stream s of world w: xs waits; N: no more than so many bytes are kept; S: its blocks, all from lo on. -/
def SO (lo s N : Nat) (xs : List Int) (S : List Nat) (w : World) : Prop :=
  lo ≤ s ∧ ∃ A n c tk zs, S = s :: blkOf A ∧ Blk w s 40 #[.slice A n c, .int .i64 ((tk : Nat) : Int)] ∧ w.ownsRow lo 5 1 (.slice A n c) n (cells zs) ∧ (∀ z ∈ zs, isB z) ∧ tk ≤ n ∧ zs.drop tk = xs ∧ n ≤ N
section
variable {w w' : World} {lo s b N : Nat} {xs : List Int} {S T : List Nat}
theorem SO.keep (k : Since w w') (h : SO lo s N xs S w) : SO lo s N xs S w' := by
  obtain ⟨h0, A, n, c, tk, zs, rfl, B, O, r⟩ := h
  exact ⟨h0, A, n, c, tk, zs, rfl, keep_blk k B, keep_own k O, r⟩
theorem SO.upd (k : Upd T w w') (h : SO lo s N xs S w) (hT : ∀ g ∈ S, g ∉ T) : SO lo s N xs S w' := by
  obtain ⟨h0, A, n, c, tk, zs, rfl, B, O, r⟩ := h
  exact ⟨h0, A, n, c, tk, zs, rfl, k.blk B (hT _ (by simp)), k.own O (fun g hg => hT g (by simp [hg])), r⟩
theorem SO.low (h : SO lo s N xs S w) : ∀ g ∈ S, lo ≤ g := by
  obtain ⟨h0, A, n, c, tk, zs, rfl, B, O, r⟩ := h
  intro g hg
  rcases List.mem_cons.1 hg with rfl | hg
  · exact h0
  · exact own_low O g hg
theorem SO.lt (h : SO lo s N xs S w) : ∀ g ∈ S, g < w.heap.size := by
  obtain ⟨h0, A, n, c, tk, zs, rfl, B, O, r⟩ := h
  intro g hg
  rcases List.mem_cons.1 hg with rfl | hg
  · exact B.lt
  · exact own_lt O g hg
theorem SO.far (h : SO lo s N xs S w) (hb : w.heap.size ≤ b) : b ∉ S := fun hm => by have := h.lt b hm; omega
theorem SO.row_far (h : SO lo s N xs S w) (hb : b ∉ S) (cs : Array Value) : SO lo s N xs S (w.setRow b cs) :=
  h.upd (T := [b]) ((Upd.refl _ w).setRow (.inl (by simp)) cs) (fun g hg hgb => hb (by simpa using (List.mem_singleton.1 hgb) ▸ hg))
theorem SO.base {lo' : Nat} (h : SO lo s N xs S w) (hb : lo' ≤ lo) : SO lo' s N xs S w := by
  obtain ⟨h0, A, n, c, tk, zs, rfl, B, O, r⟩ := h
  exact ⟨by omega, A, n, c, tk, zs, rfl, B, own_base O hb, r⟩
theorem SO.more {N' : Nat} (h : SO lo s N xs S w) (hb : N ≤ N') : SO lo s N' xs S w := by
  obtain ⟨h0, A, n, c, tk, zs, rfl, B, O, r1, r2, r3, r4⟩ := h
  exact ⟨h0, A, n, c, tk, zs, rfl, B, O, r1, r2, r3, by omega⟩
theorem SO.len (h : SO lo s N xs S w) : xs.length ≤ N := by
  obtain ⟨h0, A, n, c, tk, zs, rfl, B, O, r1, r2, r3, r4⟩ := h
  have hl : zs.length = n := by have := O.1; simpa [cells] using this
  rw [← r3, List.length_drop]; omega
theorem SO.new (h : Blk w s 40 #[.slice none 0 0, .int .i64 0]) (hs : lo ≤ s) : SO lo s 0 [] [s] w :=
  ⟨hs, none, 0, 0, 0, [], rfl, h, World.ownsRow_nil _ _ _ _, by simp, Nat.le_refl _, rfl, Nat.le_refl _⟩
end
/-- What is left of bytes behind the first ones. -/
theorem bv_drop {w : World} {A : Option Addr} {n k c : Nat} {zs : List Int} (h : BV w A n zs) (hk : k ≤ n) (hc : n ≤ c) : BV w (cutA c k A 1) (n - k) (zs.drop k) := by
  obtain ⟨h1, h2, h3, h4⟩ := h
  refine ⟨by rw [List.length_drop]; omega, by omega, fun z hz => h3 z (List.mem_of_mem_drop hz), ?_⟩
  rcases Nat.lt_or_ge k n with hlt | hge
  · rcases h4 with h4 | ⟨b, off, rfl, hb, hcell⟩
    · omega
    · refine .inr ⟨b, off + k, ?_, hb, fun j hj => ?_⟩
      · unfold cutA
        rw [if_neg (by omega)]
        simp [Go.WideShapes.add_plain]
      · rw [Nat.add_assoc, hcell (k + j) (by omega)]
        simp [List.getD]
  · exact .inl (by omega)
theorem cutA_some {c k off g : Nat} (h : k < c) : cutA c k (some ⟨g, off, none⟩) 1 = some ⟨g, off + k, none⟩ := by
  unfold cutA
  rw [if_neg (by omega)]
  simp [Go.WideShapes.add_plain]
theorem bv_at {w : World} {g off n : Nat} {zs : List Int} (h : BV w (some ⟨g, off, none⟩) n zs) (j : Nat) (hj : j < n) {v : Int} (hv : zs.getD j 0 = v) : w.cell? ⟨g, off + j, none⟩ = some (.int .u8 v) := by
  obtain ⟨b, o, e, _, hc⟩ := h.addr (by omega)
  simp only [Option.some.injEq, Addr.mk.injEq, and_true] at e
  obtain ⟨rfl, rfl⟩ := e
  rw [hc j hj, hv]
theorem getD_isB {zs : List Int} (h : ∀ z ∈ zs, isB z) (j : Nat) : isB (zs.getD j 0) := by
  by_cases hj : j < zs.length
  · rw [show zs.getD j 0 = zs[j] by simp [List.getD, hj]]; exact h _ (List.getElem_mem hj)
  · rw [show zs.getD j 0 = 0 by simp [List.getD, hj]]; unfold isB; omega
theorem seal_isB {zs : List Int} (h : ∀ z ∈ zs, isB z) : ∀ z ∈ zs ++ be4 (crcN zs), isB z := by
  intro z hz
  rcases List.mem_append.1 hz with h1 | h1
  · exact h z h1
  · exact be4_isB _ z h1
set_option maxHeartbeats 4000000 in
theorem firstF1 (g off n c : Nat) (x : Int) (r : List Int) (w : World) (hb : BV w (some ⟨g, off, none⟩) n (x :: r)) (hc : n ≤ c) (hn : n ≤ 1000000) (h1 : x ≠ 165) : Calls Try.prog 26 #[.slice (some ⟨g, off, none⟩) n c] w fun e w' => e = .returned (.tuple #[.slice none 0 0, .bool true]) ∧ Since w w' := by
  have HB := Lib.hid hb
  clear hb
  have HC := Lib.hid hc
  clear hc
  have HN := Lib.hid hn
  clear hn
  have H1 := Lib.hid h1
  clear h1
  go_enter Try.func26, Try.ntmps26
  go_upto_region 1 with fail
  have HS1 := Lib.hid (Since.refl w)
  have HL := Lib.hid (show r.length + 1 = n from HB.out.1)
  refine wp_region_lit ?_
  refine wpList_q (by rfl) (.slice (some ⟨g, off, none⟩) n c) ?he ?_
  case he => (first | rfl | (go_simp; (try with_reducible rfl)))
  (try simp only [Act.put, sA, sB, sC])
  refine wpList_q (by rfl) (.pointer (some ⟨g, (off + 0), none⟩)) ?he ?_
  case he => exact exec_index (i := 0) (s := 1) (off := off) 22 5 _ _ rfl rfl rfl rfl (by have := HL.out; omega) Try.underlying22 (by kernel_rfl)
  (try simp only [Act.put, sA, sB, sC])
  refine wpList_q (by rfl) (.int .u8 x) ?he ?_
  case he => exact exec_at 5 _ _ (keep_cell HS1.out (show w.cell? ⟨g, off + 0, none⟩ = some (.int .u8 x) from bv_at HB.out 0 (by have := HL.out; omega) rfl)) rfl rfl Try.underlying5 rfl
  (try simp only [Act.put, sA, sB, sC])
  refine wpList_q (by rfl) (.bool true) ?he ?_
  case he => (have q := H1.out; go_simp; (first | done | exact q | (simp [q]; done)))
  (try simp only [Act.put, sA, sB, sC])
  refine wpList_nil ?_
  go_upto_region 2 with fail
  refine wp_region_lit ?_
  refine wpList_q (by rfl) (.slice none 0 0) ?he ?_
  case he => (first | rfl | (go_simp; (try with_reducible rfl)))
  (try simp only [Act.put, sA, sB, sC])
  refine wpList_q (by rfl) (.bool true) ?he ?_
  case he => (first | rfl | (go_simp; (try with_reducible rfl)))
  (try simp only [Act.put, sA, sB, sC])
  refine wpList_nil ?_
  (try go_wp2_with fail)
  go_ret2
  exact ⟨rfl, HS1.out⟩
set_option maxHeartbeats 4000000 in
theorem firstF2 (g off n c : Nat) (x : Int) (r : List Int) (w : World) (hb : BV w (some ⟨g, off, none⟩) n (x :: r)) (hc : n ≤ c) (hn : n ≤ 1000000) (h1 : x = 165) (h2 : n < 2) : Calls Try.prog 26 #[.slice (some ⟨g, off, none⟩) n c] w fun e w' => e = .returned (.tuple #[.slice none 0 0, .bool false]) ∧ Since w w' := by
  have HB := Lib.hid hb
  clear hb
  have HC := Lib.hid hc
  clear hc
  have HN := Lib.hid hn
  clear hn
  have H1 := Lib.hid h1
  clear h1
  have H2 := Lib.hid h2
  clear h2
  go_enter Try.func26, Try.ntmps26
  go_upto_region 1 with fail
  have HS1 := Lib.hid (Since.refl w)
  have HL := Lib.hid (show r.length + 1 = n from HB.out.1)
  refine wp_region_lit ?_
  refine wpList_q (by rfl) (.slice (some ⟨g, off, none⟩) n c) ?he ?_
  case he => (first | rfl | (go_simp; (try with_reducible rfl)))
  (try simp only [Act.put, sA, sB, sC])
  refine wpList_q (by rfl) (.pointer (some ⟨g, (off + 0), none⟩)) ?he ?_
  case he => exact exec_index (i := 0) (s := 1) (off := off) 22 5 _ _ rfl rfl rfl rfl (by have := HL.out; omega) Try.underlying22 (by kernel_rfl)
  (try simp only [Act.put, sA, sB, sC])
  refine wpList_q (by rfl) (.int .u8 x) ?he ?_
  case he => exact exec_at 5 _ _ (keep_cell HS1.out (show w.cell? ⟨g, off + 0, none⟩ = some (.int .u8 x) from bv_at HB.out 0 (by have := HL.out; omega) rfl)) rfl rfl Try.underlying5 rfl
  (try simp only [Act.put, sA, sB, sC])
  refine wpList_q (by rfl) (.bool false) ?he ?_
  case he => (have q := H1.out; go_simp; (first | done | exact q | (simp [q]; done)))
  (try simp only [Act.put, sA, sB, sC])
  refine wpList_nil ?_
  go_upto_region 3 with fail
  refine wp_region_lit ?_
  refine wpList_q (by rfl) (.slice (some ⟨g, off, none⟩) n c) ?he ?_
  case he => (first | rfl | (go_simp; (try with_reducible rfl)))
  (try simp only [Act.put, sA, sB, sC])
  refine wpList_q (by rfl) (.int .i64 (n : Int)) ?he ?_
  case he => (first | rfl | (go_simp; (try with_reducible rfl)))
  (try simp only [Act.put, sA, sB, sC])
  refine wpList_q (by rfl) (.bool true) ?he ?_
  case he => (have q0 := H2.out; go_simp; (first | done | rfl | omega))
  (try simp only [Act.put, sA, sB, sC])
  refine wpList_nil ?_
  go_upto_region 4 with fail
  refine wp_region_lit ?_
  refine wpList_q (by rfl) (.slice none 0 0) ?he ?_
  case he => (first | rfl | (go_simp; (try with_reducible rfl)))
  (try simp only [Act.put, sA, sB, sC])
  refine wpList_q (by rfl) (.bool false) ?he ?_
  case he => (first | rfl | (go_simp; (try with_reducible rfl)))
  (try simp only [Act.put, sA, sB, sC])
  refine wpList_nil ?_
  (try go_wp2_with fail)
  go_ret2
  exact ⟨rfl, HS1.out⟩
set_option maxHeartbeats 4000000 in
theorem firstF3 (g off n c : Nat) (x : Int) (r : List Int) (w : World) (hb : BV w (some ⟨g, off, none⟩) n (x :: r)) (hc : n ≤ c) (hn : n ≤ 1000000) (h1 : x = 165) (h2 : ¬ n < 2) (h3 : okN (r.getD 0 0) = false) : Calls Try.prog 26 #[.slice (some ⟨g, off, none⟩) n c] w fun e w' => e = .returned (.tuple #[.slice none 0 0, .bool true]) ∧ Since w w' := by
  have HB := Lib.hid hb
  clear hb
  have HC := Lib.hid hc
  clear hc
  have HN := Lib.hid hn
  clear hn
  have H1 := Lib.hid h1
  clear h1
  have H2 := Lib.hid h2
  clear h2
  have H3 := Lib.hid h3
  clear h3
  go_enter Try.func26, Try.ntmps26
  go_upto_region 1 with fail
  have HS1 := Lib.hid (Since.refl w)
  have HL := Lib.hid (show r.length + 1 = n from HB.out.1)
  refine wp_region_lit ?_
  refine wpList_q (by rfl) (.slice (some ⟨g, off, none⟩) n c) ?he ?_
  case he => (first | rfl | (go_simp; (try with_reducible rfl)))
  (try simp only [Act.put, sA, sB, sC])
  refine wpList_q (by rfl) (.pointer (some ⟨g, (off + 0), none⟩)) ?he ?_
  case he => exact exec_index (i := 0) (s := 1) (off := off) 22 5 _ _ rfl rfl rfl rfl (by have := HL.out; omega) Try.underlying22 (by kernel_rfl)
  (try simp only [Act.put, sA, sB, sC])
  refine wpList_q (by rfl) (.int .u8 x) ?he ?_
  case he => exact exec_at 5 _ _ (keep_cell HS1.out (show w.cell? ⟨g, off + 0, none⟩ = some (.int .u8 x) from bv_at HB.out 0 (by have := HL.out; omega) rfl)) rfl rfl Try.underlying5 rfl
  (try simp only [Act.put, sA, sB, sC])
  refine wpList_q (by rfl) (.bool false) ?he ?_
  case he => (have q := H1.out; go_simp; (first | done | exact q | (simp [q]; done)))
  (try simp only [Act.put, sA, sB, sC])
  refine wpList_nil ?_
  go_upto_region 3 with fail
  refine wp_region_lit ?_
  refine wpList_q (by rfl) (.slice (some ⟨g, off, none⟩) n c) ?he ?_
  case he => (first | rfl | (go_simp; (try with_reducible rfl)))
  (try simp only [Act.put, sA, sB, sC])
  refine wpList_q (by rfl) (.int .i64 (n : Int)) ?he ?_
  case he => (first | rfl | (go_simp; (try with_reducible rfl)))
  (try simp only [Act.put, sA, sB, sC])
  refine wpList_q (by rfl) (.bool false) ?he ?_
  case he => (have q0 := H2.out; go_simp; (first | done | rfl | omega))
  (try simp only [Act.put, sA, sB, sC])
  refine wpList_nil ?_
  have HKB := Lib.hid (show -9223372036854775808 ≤ r[0]?.getD 0 ∧ r[0]?.getD 0 < 256 by have q := getD_isB (zs := r) (fun z hz => HB.out.2.2.1 z (List.mem_cons_of_mem _ hz)) 0; unfold isB at q; simp only [List.getD] at q; omega)
  go_upto_region 5 with fail
  refine wp_region_lit ?_
  refine wpList_q (by rfl) (.slice (some ⟨g, off, none⟩) n c) ?he ?_
  case he => (first | rfl | (go_simp; (try with_reducible rfl)))
  (try simp only [Act.put, sA, sB, sC])
  refine wpList_q (by rfl) (.pointer (some ⟨g, (off + 1), none⟩)) ?he ?_
  case he => exact exec_index (i := 1) (s := 1) (off := off) 22 5 _ _ rfl rfl rfl rfl (by have := HL.out; have := H2.out; omega) Try.underlying22 (by kernel_rfl)
  (try simp only [Act.put, sA, sB, sC])
  refine wpList_q (by rfl) (.int .u8 (r.getD 0 0)) ?he ?_
  case he => exact exec_at 5 _ _ (keep_cell HS1.out (show w.cell? ⟨g, off + 1, none⟩ = some (.int .u8 (r.getD 0 0)) from bv_at HB.out 1 (by have := HL.out; have := H2.out; omega) (by first | rfl | exact HK.out | (simp only [List.getD_cons_succ]; exact HK.out)))) rfl rfl Try.underlying5 rfl
  (try simp only [Act.put, sA, sB, sC])
  refine wpList_q (by rfl) (.int .i64 (r.getD 0 0)) ?he ?_
  case he => (go_simp; (first | done | (have q := HKB.out; exact wr64 _ q.1 (by omega)) | (have q := HK1.out; exact wr64 _ (by omega) (by omega))))
  (try simp only [Act.put, sA, sB, sC])
  refine wpList_q (by rfl) (.int .i64 (r.getD 0 0)) ?he ?_
  case he => (first | rfl | (go_simp; (try with_reducible rfl)))
  (try simp only [Act.put, sA, sB, sC])
  refine wpList_nil ?_
  go_upto_region 6 with fail
  refine wp_region_lit ?_
  refine wpList_q (by rfl) (.int .i64 (r.getD 0 0)) ?he ?_
  case he => (first | rfl | (go_simp; (try with_reducible rfl)))
  (try simp only [Act.put, sA, sB, sC])
  refine wpList_wp (by rfl) (fun K hK => ?_)
  (try go_simp)
  refine (countedV (r.getD 0 0) false _ H3.out).mono ?_
  rintro e w2 ⟨rfl, hb⟩
  (try go_wp2_with fail)
  refine hK.out _ _ ?_
  clear hK K
  (try simp only [Act.put, sA, sB, sC])
  have HS2 := Lib.hid (Since.trans HS1.out hb)
  clear HS1 
  clear hb
  refine wpList_q (by rfl) (.bool true) ?he ?_
  case he => (go_simp; (try with_reducible rfl))
  (try simp only [Act.put, sA, sB, sC])
  refine wpList_nil ?_
  go_upto_region 7 with fail
  refine wp_region_lit ?_
  refine wpList_q (by rfl) (.slice none 0 0) ?he ?_
  case he => (first | rfl | (go_simp; (try with_reducible rfl)))
  (try simp only [Act.put, sA, sB, sC])
  refine wpList_q (by rfl) (.bool true) ?he ?_
  case he => (first | rfl | (go_simp; (try with_reducible rfl)))
  (try simp only [Act.put, sA, sB, sC])
  refine wpList_nil ?_
  (try go_wp2_with fail)
  go_ret2
  exact ⟨rfl, HS2.out⟩
set_option maxHeartbeats 4000000 in
theorem firstF4 (g off n c k : Nat) (x : Int) (r : List Int) (w : World) (hb : BV w (some ⟨g, off, none⟩) n (x :: r)) (hc : n ≤ c) (hn : n ≤ 1000000) (h1 : x = 165) (h2 : ¬ n < 2) (h3 : okN (k : Int) = true) (hk : r.getD 0 0 = (k : Int)) (h4 : n < k + 6) : Calls Try.prog 26 #[.slice (some ⟨g, off, none⟩) n c] w fun e w' => e = .returned (.tuple #[.slice none 0 0, .bool false]) ∧ Since w w' := by
  have HB := Lib.hid hb
  clear hb
  have HC := Lib.hid hc
  clear hc
  have HN := Lib.hid hn
  clear hn
  have H1 := Lib.hid h1
  clear h1
  have H2 := Lib.hid h2
  clear h2
  have H3 := Lib.hid h3
  clear h3
  have HK := Lib.hid hk
  clear hk
  have H4 := Lib.hid h4
  clear h4
  go_enter Try.func26, Try.ntmps26
  go_upto_region 1 with fail
  have HS1 := Lib.hid (Since.refl w)
  have HL := Lib.hid (show r.length + 1 = n from HB.out.1)
  have HK1 := Lib.hid (show 1 ≤ k ∧ k ≤ 64 by have q := H3.out; unfold okN at q; have := of_decide_eq_true q; omega)
  refine wp_region_lit ?_
  refine wpList_q (by rfl) (.slice (some ⟨g, off, none⟩) n c) ?he ?_
  case he => (first | rfl | (go_simp; (try with_reducible rfl)))
  (try simp only [Act.put, sA, sB, sC])
  refine wpList_q (by rfl) (.pointer (some ⟨g, (off + 0), none⟩)) ?he ?_
  case he => exact exec_index (i := 0) (s := 1) (off := off) 22 5 _ _ rfl rfl rfl rfl (by have := HL.out; omega) Try.underlying22 (by kernel_rfl)
  (try simp only [Act.put, sA, sB, sC])
  refine wpList_q (by rfl) (.int .u8 x) ?he ?_
  case he => exact exec_at 5 _ _ (keep_cell HS1.out (show w.cell? ⟨g, off + 0, none⟩ = some (.int .u8 x) from bv_at HB.out 0 (by have := HL.out; omega) rfl)) rfl rfl Try.underlying5 rfl
  (try simp only [Act.put, sA, sB, sC])
  refine wpList_q (by rfl) (.bool false) ?he ?_
  case he => (have q := H1.out; go_simp; (first | done | exact q | (simp [q]; done)))
  (try simp only [Act.put, sA, sB, sC])
  refine wpList_nil ?_
  go_upto_region 3 with fail
  refine wp_region_lit ?_
  refine wpList_q (by rfl) (.slice (some ⟨g, off, none⟩) n c) ?he ?_
  case he => (first | rfl | (go_simp; (try with_reducible rfl)))
  (try simp only [Act.put, sA, sB, sC])
  refine wpList_q (by rfl) (.int .i64 (n : Int)) ?he ?_
  case he => (first | rfl | (go_simp; (try with_reducible rfl)))
  (try simp only [Act.put, sA, sB, sC])
  refine wpList_q (by rfl) (.bool false) ?he ?_
  case he => (have q0 := H2.out; go_simp; (first | done | rfl | omega))
  (try simp only [Act.put, sA, sB, sC])
  refine wpList_nil ?_
  go_upto_region 5 with fail
  refine wp_region_lit ?_
  refine wpList_q (by rfl) (.slice (some ⟨g, off, none⟩) n c) ?he ?_
  case he => (first | rfl | (go_simp; (try with_reducible rfl)))
  (try simp only [Act.put, sA, sB, sC])
  refine wpList_q (by rfl) (.pointer (some ⟨g, (off + 1), none⟩)) ?he ?_
  case he => exact exec_index (i := 1) (s := 1) (off := off) 22 5 _ _ rfl rfl rfl rfl (by have := HL.out; have := H2.out; omega) Try.underlying22 (by kernel_rfl)
  (try simp only [Act.put, sA, sB, sC])
  refine wpList_q (by rfl) (.int .u8 (k : Int)) ?he ?_
  case he => exact exec_at 5 _ _ (keep_cell HS1.out (show w.cell? ⟨g, off + 1, none⟩ = some (.int .u8 (k : Int)) from bv_at HB.out 1 (by have := HL.out; have := H2.out; omega) (by first | rfl | exact HK.out | (simp only [List.getD_cons_succ]; exact HK.out)))) rfl rfl Try.underlying5 rfl
  (try simp only [Act.put, sA, sB, sC])
  refine wpList_q (by rfl) (.int .i64 (k : Int)) ?he ?_
  case he => (go_simp; (first | done | (have q := HKB.out; exact wr64 _ q.1 (by omega)) | (have q := HK1.out; exact wr64 _ (by omega) (by omega))))
  (try simp only [Act.put, sA, sB, sC])
  refine wpList_q (by rfl) (.int .i64 (k : Int)) ?he ?_
  case he => (first | rfl | (go_simp; (try with_reducible rfl)))
  (try simp only [Act.put, sA, sB, sC])
  refine wpList_nil ?_
  go_upto_region 6 with fail
  refine wp_region_lit ?_
  refine wpList_q (by rfl) (.int .i64 (k : Int)) ?he ?_
  case he => (first | rfl | (go_simp; (try with_reducible rfl)))
  (try simp only [Act.put, sA, sB, sC])
  refine wpList_wp (by rfl) (fun K hK => ?_)
  (try go_simp)
  refine (countedV (k : Int) true _ H3.out).mono ?_
  rintro e w2 ⟨rfl, hb⟩
  (try go_wp2_with fail)
  refine hK.out _ _ ?_
  clear hK K
  (try simp only [Act.put, sA, sB, sC])
  have HS2 := Lib.hid (Since.trans HS1.out hb)
  clear HS1 
  clear hb
  refine wpList_q (by rfl) (.bool false) ?he ?_
  case he => (go_simp; (try with_reducible rfl))
  (try simp only [Act.put, sA, sB, sC])
  refine wpList_nil ?_
  go_upto_region 8 with fail
  refine wp_region_lit ?_
  refine wpList_q (by rfl) (.slice (some ⟨g, off, none⟩) n c) ?he ?_
  case he => (first | rfl | (go_simp; (try with_reducible rfl)))
  (try simp only [Act.put, sA, sB, sC])
  refine wpList_q (by rfl) (.int .i64 (n : Int)) ?he ?_
  case he => (first | rfl | (go_simp; (try with_reducible rfl)))
  (try simp only [Act.put, sA, sB, sC])
  refine wpList_q (by rfl) (.int .i64 (k : Int)) ?he ?_
  case he => (first | rfl | (go_simp; (try with_reducible rfl)))
  (try simp only [Act.put, sA, sB, sC])
  refine wpList_q (by rfl) (.int .i64 (2 + (k : Int))) ?he ?_
  case he => (go_simp; (first | done | (have q := HK1.out; exact wr64 _ (by omega) (by omega)) | (have q := HK1.out; rw [wr64 _ (by omega) (by omega)]; omega)))
  (try simp only [Act.put, sA, sB, sC])
  refine wpList_q (by rfl) (.int .i64 (2 + (k : Int) + 4)) ?he ?_
  case he => (go_simp; (first | done | (have q := HK1.out; exact wr64 _ (by omega) (by omega)) | (have q := HK1.out; rw [wr64 _ (by omega) (by omega)]; omega)))
  (try simp only [Act.put, sA, sB, sC])
  refine wpList_q (by rfl) (.bool true) ?he ?_
  case he => (have q := H4.out; have q1 := HK1.out; go_simp; (first | done | omega))
  (try simp only [Act.put, sA, sB, sC])
  refine wpList_nil ?_
  go_upto_region 9 with fail
  refine wp_region_lit ?_
  refine wpList_q (by rfl) (.slice none 0 0) ?he ?_
  case he => (first | rfl | (go_simp; (try with_reducible rfl)))
  (try simp only [Act.put, sA, sB, sC])
  refine wpList_q (by rfl) (.bool false) ?he ?_
  case he => (first | rfl | (go_simp; (try with_reducible rfl)))
  (try simp only [Act.put, sA, sB, sC])
  refine wpList_nil ?_
  (try go_wp2_with fail)
  go_ret2
  exact ⟨rfl, HS2.out⟩
set_option maxHeartbeats 4000000 in
theorem firstF5 (g off n c k : Nat) (x : Int) (r : List Int) (w : World) (hb : BV w (some ⟨g, off, none⟩) n (x :: r)) (hc : n ≤ c) (hn : n ≤ 1000000) (h1 : x = 165) (h2 : ¬ n < 2) (h3 : okN (k : Int) = true) (hk : r.getD 0 0 = (k : Int)) (h4 : ¬ n < k + 6) (h5 : (x :: r).take (k + 2) ++ be4 (crcN ((x :: r).take (k + 2))) ≠ (x :: r).take (k + 6)) : Calls Try.prog 26 #[.slice (some ⟨g, off, none⟩) n c] w fun e w' => e = .returned (.tuple #[.slice none 0 0, .bool true]) ∧ Since w w' := by
  have HB := Lib.hid hb
  clear hb
  have HC := Lib.hid hc
  clear hc
  have HN := Lib.hid hn
  clear hn
  have H1 := Lib.hid h1
  clear h1
  have H2 := Lib.hid h2
  clear h2
  have H3 := Lib.hid h3
  clear h3
  have HK := Lib.hid hk
  clear hk
  have H4 := Lib.hid h4
  clear h4
  have H5 := Lib.hid h5
  clear h5
  go_enter Try.func26, Try.ntmps26
  go_upto_region 1 with fail
  have HS1 := Lib.hid (Since.refl w)
  have HL := Lib.hid (show r.length + 1 = n from HB.out.1)
  have HK1 := Lib.hid (show 1 ≤ k ∧ k ≤ 64 by have q := H3.out; unfold okN at q; have := of_decide_eq_true q; omega)
  refine wp_region_lit ?_
  refine wpList_q (by rfl) (.slice (some ⟨g, off, none⟩) n c) ?he ?_
  case he => (first | rfl | (go_simp; (try with_reducible rfl)))
  (try simp only [Act.put, sA, sB, sC])
  refine wpList_q (by rfl) (.pointer (some ⟨g, (off + 0), none⟩)) ?he ?_
  case he => exact exec_index (i := 0) (s := 1) (off := off) 22 5 _ _ rfl rfl rfl rfl (by have := HL.out; omega) Try.underlying22 (by kernel_rfl)
  (try simp only [Act.put, sA, sB, sC])
  refine wpList_q (by rfl) (.int .u8 x) ?he ?_
  case he => exact exec_at 5 _ _ (keep_cell HS1.out (show w.cell? ⟨g, off + 0, none⟩ = some (.int .u8 x) from bv_at HB.out 0 (by have := HL.out; omega) rfl)) rfl rfl Try.underlying5 rfl
  (try simp only [Act.put, sA, sB, sC])
  refine wpList_q (by rfl) (.bool false) ?he ?_
  case he => (have q := H1.out; go_simp; (first | done | exact q | (simp [q]; done)))
  (try simp only [Act.put, sA, sB, sC])
  refine wpList_nil ?_
  go_upto_region 3 with fail
  refine wp_region_lit ?_
  refine wpList_q (by rfl) (.slice (some ⟨g, off, none⟩) n c) ?he ?_
  case he => (first | rfl | (go_simp; (try with_reducible rfl)))
  (try simp only [Act.put, sA, sB, sC])
  refine wpList_q (by rfl) (.int .i64 (n : Int)) ?he ?_
  case he => (first | rfl | (go_simp; (try with_reducible rfl)))
  (try simp only [Act.put, sA, sB, sC])
  refine wpList_q (by rfl) (.bool false) ?he ?_
  case he => (have q0 := H2.out; go_simp; (first | done | rfl | omega))
  (try simp only [Act.put, sA, sB, sC])
  refine wpList_nil ?_
  go_upto_region 5 with fail
  refine wp_region_lit ?_
  refine wpList_q (by rfl) (.slice (some ⟨g, off, none⟩) n c) ?he ?_
  case he => (first | rfl | (go_simp; (try with_reducible rfl)))
  (try simp only [Act.put, sA, sB, sC])
  refine wpList_q (by rfl) (.pointer (some ⟨g, (off + 1), none⟩)) ?he ?_
  case he => exact exec_index (i := 1) (s := 1) (off := off) 22 5 _ _ rfl rfl rfl rfl (by have := HL.out; have := H2.out; omega) Try.underlying22 (by kernel_rfl)
  (try simp only [Act.put, sA, sB, sC])
  refine wpList_q (by rfl) (.int .u8 (k : Int)) ?he ?_
  case he => exact exec_at 5 _ _ (keep_cell HS1.out (show w.cell? ⟨g, off + 1, none⟩ = some (.int .u8 (k : Int)) from bv_at HB.out 1 (by have := HL.out; have := H2.out; omega) (by first | rfl | exact HK.out | (simp only [List.getD_cons_succ]; exact HK.out)))) rfl rfl Try.underlying5 rfl
  (try simp only [Act.put, sA, sB, sC])
  refine wpList_q (by rfl) (.int .i64 (k : Int)) ?he ?_
  case he => (go_simp; (first | done | (have q := HKB.out; exact wr64 _ q.1 (by omega)) | (have q := HK1.out; exact wr64 _ (by omega) (by omega))))
  (try simp only [Act.put, sA, sB, sC])
  refine wpList_q (by rfl) (.int .i64 (k : Int)) ?he ?_
  case he => (first | rfl | (go_simp; (try with_reducible rfl)))
  (try simp only [Act.put, sA, sB, sC])
  refine wpList_nil ?_
  go_upto_region 6 with fail
  refine wp_region_lit ?_
  refine wpList_q (by rfl) (.int .i64 (k : Int)) ?he ?_
  case he => (first | rfl | (go_simp; (try with_reducible rfl)))
  (try simp only [Act.put, sA, sB, sC])
  refine wpList_wp (by rfl) (fun K hK => ?_)
  (try go_simp)
  refine (countedV (k : Int) true _ H3.out).mono ?_
  rintro e w2 ⟨rfl, hb⟩
  (try go_wp2_with fail)
  refine hK.out _ _ ?_
  clear hK K
  (try simp only [Act.put, sA, sB, sC])
  have HS2 := Lib.hid (Since.trans HS1.out hb)
  clear HS1 
  clear hb
  refine wpList_q (by rfl) (.bool false) ?he ?_
  case he => (go_simp; (try with_reducible rfl))
  (try simp only [Act.put, sA, sB, sC])
  refine wpList_nil ?_
  go_upto_region 8 with fail
  refine wp_region_lit ?_
  refine wpList_q (by rfl) (.slice (some ⟨g, off, none⟩) n c) ?he ?_
  case he => (first | rfl | (go_simp; (try with_reducible rfl)))
  (try simp only [Act.put, sA, sB, sC])
  refine wpList_q (by rfl) (.int .i64 (n : Int)) ?he ?_
  case he => (first | rfl | (go_simp; (try with_reducible rfl)))
  (try simp only [Act.put, sA, sB, sC])
  refine wpList_q (by rfl) (.int .i64 (k : Int)) ?he ?_
  case he => (first | rfl | (go_simp; (try with_reducible rfl)))
  (try simp only [Act.put, sA, sB, sC])
  refine wpList_q (by rfl) (.int .i64 (2 + (k : Int))) ?he ?_
  case he => (go_simp; (first | done | (have q := HK1.out; exact wr64 _ (by omega) (by omega)) | (have q := HK1.out; rw [wr64 _ (by omega) (by omega)]; omega)))
  (try simp only [Act.put, sA, sB, sC])
  refine wpList_q (by rfl) (.int .i64 (2 + (k : Int) + 4)) ?he ?_
  case he => (go_simp; (first | done | (have q := HK1.out; exact wr64 _ (by omega) (by omega)) | (have q := HK1.out; rw [wr64 _ (by omega) (by omega)]; omega)))
  (try simp only [Act.put, sA, sB, sC])
  refine wpList_q (by rfl) (.bool false) ?he ?_
  case he => (have q := H4.out; have q1 := HK1.out; go_simp; (first | done | omega))
  (try simp only [Act.put, sA, sB, sC])
  refine wpList_nil ?_
  go_upto_region 10 with fail
  refine wp_region_lit ?_
  refine wpList_q (by rfl) (.slice (some ⟨g, off, none⟩) n c) ?he ?_
  case he => (first | rfl | (go_simp; (try with_reducible rfl)))
  (try simp only [Act.put, sA, sB, sC])
  refine wpList_q (by rfl) (.int .i64 (k : Int)) ?he ?_
  case he => (first | rfl | (go_simp; (try with_reducible rfl)))
  (try simp only [Act.put, sA, sB, sC])
  refine wpList_q (by rfl) (.int .i64 (2 + (k : Int))) ?he ?_
  case he => (go_simp; (first | done | (have q := HK1.out; exact wr64 _ (by omega) (by omega)) | (have q := HK1.out; rw [wr64 _ (by omega) (by omega)]; omega)))
  (try simp only [Act.put, sA, sB, sC])
  refine wpList_q (by rfl) (.slice (some ⟨g, off, none⟩) (k + 2) c) ?he ?_
  case he => exact exec_slice (s := 1) 22 5 _ _ _ _ rfl rfl Try.underlying22 (by kernel_rfl) (sb_h _ _ (h := k + 2) (by push_cast; omega) (by have := H4.out; have := HC.out; omega)) (by split <;> simp [Addr.add]) rfl rfl
  (try simp only [Act.put, sA, sB, sC])
  refine wpList_q (by rfl) (.slice (some ⟨g, off, none⟩) (k + 2) c) ?he ?_
  case he => (first | rfl | (go_simp; (try with_reducible rfl)))
  (try simp only [Act.put, sA, sB, sC])
  refine wpList_nil ?_
  have HF := Lib.hid (BV.cut HB.out (show k + 2 ≤ n by have := H4.out; omega))
  have HG := Lib.hid (BV.cut HB.out (show k + 6 ≤ n by have := H4.out; omega))
  go_upto_region 11 with fail
  have hrK : ∀ W W' : World, Since W W' → (Since w W) → (Since w W') := fun W W' k h => h.trans k
  have hrS : (fun W : World => Since w W) w2 := HS2.out
  have HRK := Lib.hid hrK
  have HRD := Lib.hid (show (fun W : World => Since w W) (World.drew w2) from Since.drew hrS)
  clear hrK hrS
  refine wp_region_held_drew (S := fun W : World => Since w W) (by kernel_rfl) HRD.out (fun hHeld => ?_)
  refine wpAnyH_take (i := 0) (oi := ?o11__0) (v := .slice (some ⟨g, off, none⟩) (k + 2) c) ?h11__0 (by kernel_rfl) (by kernel_rfl) (by kernel_rfl) ?q11__0 ?y11__0 (by assumption) ?_
  case h11__0 => (first | (simp only [gA, gB, gC]; done) | (simp only [gA, gB, gC]; exact rfl))
  case q11__0 => exact fun _ _ _ h => h
  case y11__0 => (refine Or.inl ⟨rfl, ?_⟩; intro w hSw; (first | rfl | (go_simp; (try with_reducible rfl))))
  (try simp only [Act.put, sA, sB, sC])
  refine wpAnyH_take (i := 2) (oi := ?o11__2) (v := .slice (some ⟨g, off, none⟩) n c) ?h11__2 (by kernel_rfl) (by kernel_rfl) (by kernel_rfl) ?q11__2 ?y11__2 (by assumption) ?_
  case h11__2 => (first | (simp only [gA, gB, gC]; done) | (simp only [gA, gB, gC]; exact rfl))
  case q11__2 => exact fun _ _ _ h => h
  case y11__2 => (refine Or.inl ⟨rfl, ?_⟩; intro w hSw; (first | rfl | (go_simp; (try with_reducible rfl))))
  (try simp only [Act.put, sA, sB, sC])
  refine wpAnyH_take (i := 3) (oi := ?o11__3) (v := .int .i64 (k : Int)) ?h11__3 (by kernel_rfl) (by kernel_rfl) (by kernel_rfl) ?q11__3 ?y11__3 (by assumption) ?_
  case h11__3 => (first | (simp only [gA, gB, gC]; done) | (simp only [gA, gB, gC]; exact rfl))
  case q11__3 => exact fun _ _ _ h => h
  case y11__3 => (refine Or.inl ⟨rfl, ?_⟩; intro w hSw; (first | rfl | (go_simp; (try with_reducible rfl))))
  (try simp only [Act.put, sA, sB, sC])
  refine wpAnyH_take (i := 4) (oi := ?o11__4) (v := .int .i64 (2 + (k : Int))) ?h11__4 (by kernel_rfl) (by kernel_rfl) (by kernel_rfl) ?q11__4 ?y11__4 (by assumption) ?_
  case h11__4 => (first | (simp only [gA, gB, gC]; done) | (simp only [gA, gB, gC]; exact rfl))
  case q11__4 => exact fun _ _ _ h => h
  case y11__4 => (refine Or.inl ⟨rfl, ?_⟩; intro w hSw; (go_simp; (first | done | (have q := HK1.out; exact wr64 _ (by omega) (by omega)) | (have q := HK1.out; rw [wr64 _ (by omega) (by omega)]; omega))))
  (try simp only [Act.put, sA, sB, sC])
  refine wpAnyH_take (i := 5) (oi := ?o11__5) (v := .int .i64 (2 + (k : Int) + 4)) ?h11__5 (by kernel_rfl) (by kernel_rfl) (by kernel_rfl) ?q11__5 ?y11__5 (by assumption) ?_
  case h11__5 => (first | (simp only [gA, gB, gC]; done) | (simp only [gA, gB, gC]; exact rfl))
  case q11__5 => exact fun _ _ _ h => h
  case y11__5 => (refine Or.inl ⟨rfl, ?_⟩; intro w hSw; (go_simp; (first | done | (have q := HK1.out; exact wr64 _ (by omega) (by omega)) | (have q := HK1.out; rw [wr64 _ (by omega) (by omega)]; omega))))
  (try simp only [Act.put, sA, sB, sC])
  refine wpAnyH_take (i := 6) (oi := ?o11__6) (v := .slice (some ⟨g, off, none⟩) (k + 6) c) ?h11__6 (by kernel_rfl) (by kernel_rfl) (by kernel_rfl) ?q11__6 ?y11__6 (by assumption) ?_
  case h11__6 => (first | (simp only [gA, gB, gC]; done) | (simp only [gA, gB, gC]; exact rfl))
  case q11__6 => exact fun _ _ _ h => h
  case y11__6 => (refine Or.inl ⟨rfl, ?_⟩; intro w hSw; exact exec_slice (s := 1) 22 5 _ _ _ _ rfl rfl Try.underlying22 (by kernel_rfl) (sb_h _ _ (h := k + 6) (by push_cast; omega) (by have := H4.out; have := HC.out; omega)) (by split <;> simp [Addr.add]) rfl rfl)
  (try simp only [Act.put, sA, sB, sC])
  refine wpAnyH_ready (rs := [1]) (by kernel_rfl) (by simp) ?_
  refine AllReadyH.cons (o := ?o11__1) ?h11__1 (fun K hK => ?_) AllReadyH.nil
  case h11__1 => (first | (simp only [gA, gB, gC]; done) | (simp only [gA, gB, gC]; exact rfl))
  (try go_simp)
  refine (sealedT ⟨g, off, none⟩ (k + 2) c ((x :: r).take (k + 2)) _ (keep_bv hHeld HF.out) (by omega) (by have := HK1.out; omega) (by have := H4.out; have := HC.out; omega)).mono ?_
  rintro e w3 ⟨A3, c3, rfl, hown, hb⟩
  (try go_wp2_with fail)
  refine hK.out _ _ (by (apply HRK.out; exact hb; exact hHeld)) (fun hHeld2 => ?_)
  have HOZ := Lib.hid (BV.of_own hown (seal_isB HF.out.2.2.1))
  clear hown
  clear hK K hHeld hb
  have hHeld := hHeld2
  clear hHeld2
  (try simp only [Act.put, sA, sB, sC])
  refine wpAnyH_ready (rs := [7]) (by kernel_rfl) (by simp) ?_
  refine AllReadyH.cons (o := ?o11__7) ?h11__7 (fun K hK => ?_) AllReadyH.nil
  case h11__7 => (first | (simp only [gA, gB, gC]; done) | (simp only [gA, gB, gC]; exact rfl))
  (try go_simp)
  refine (equalNo A3 (k + 2 + 4) c3 (some ⟨g, off, none⟩) (k + 6) c _ _ _ HOZ.out (keep_bv hHeld HG.out) H5.out).mono ?_
  rintro e w4 ⟨rfl, hb⟩
  (try go_wp2_with fail)
  refine hK.out _ _ (by (apply HRK.out; exact hb; exact hHeld)) (fun hHeld2 => ?_)
  clear hK K hHeld hb
  have hHeld := hHeld2
  clear hHeld2
  (try simp only [Act.put, sA, sB, sC])
  refine wpAnyH_take (i := 8) (oi := ?o11__8) (v := .bool true) ?h11__8 (by kernel_rfl) (by kernel_rfl) (by kernel_rfl) ?q11__8 ?y11__8 (by assumption) ?_
  case h11__8 => (first | (simp only [gA, gB, gC]; done) | (simp only [gA, gB, gC]; exact rfl))
  case q11__8 => exact fun _ _ _ h => h
  case y11__8 => (refine Or.inl ⟨rfl, ?_⟩; intro w hSw; (go_simp; (try with_reducible rfl)))
  (try simp only [Act.put, sA, sB, sC])
  refine wpAnyH_done (by kernel_rfl) ?_ _
  have HSd11 := Lib.hid hHeld
  clear hHeld HRK HRD HS2 
  go_upto_region 12 with fail
  refine wp_region_lit ?_
  refine wpList_q (by rfl) (.slice none 0 0) ?he ?_
  case he => (first | rfl | (go_simp; (try with_reducible rfl)))
  (try simp only [Act.put, sA, sB, sC])
  refine wpList_q (by rfl) (.bool true) ?he ?_
  case he => (first | rfl | (go_simp; (try with_reducible rfl)))
  (try simp only [Act.put, sA, sB, sC])
  refine wpList_nil ?_
  (try go_wp2_with fail)
  go_ret2
  exact ⟨rfl, HSd11.out⟩
set_option maxHeartbeats 4000000 in
theorem firstF6 (g off n c k : Nat) (x : Int) (r : List Int) (w : World) (hb : BV w (some ⟨g, off, none⟩) n (x :: r)) (hc : n ≤ c) (hn : n ≤ 1000000) (h1 : x = 165) (h2 : ¬ n < 2) (h3 : okN (k : Int) = true) (hk : r.getD 0 0 = (k : Int)) (h4 : ¬ n < k + 6) (h5 : (x :: r).take (k + 2) ++ be4 (crcN ((x :: r).take (k + 2))) = (x :: r).take (k + 6)) : Calls Try.prog 26 #[.slice (some ⟨g, off, none⟩) n c] w fun e w' => e = .returned (.tuple #[.slice (some ⟨g, off, none⟩) (k + 2) c, .bool true]) ∧ Since w w' := by
  have HB := Lib.hid hb
  clear hb
  have HC := Lib.hid hc
  clear hc
  have HN := Lib.hid hn
  clear hn
  have H1 := Lib.hid h1
  clear h1
  have H2 := Lib.hid h2
  clear h2
  have H3 := Lib.hid h3
  clear h3
  have HK := Lib.hid hk
  clear hk
  have H4 := Lib.hid h4
  clear h4
  have H5 := Lib.hid h5
  clear h5
  go_enter Try.func26, Try.ntmps26
  go_upto_region 1 with fail
  have HS1 := Lib.hid (Since.refl w)
  have HL := Lib.hid (show r.length + 1 = n from HB.out.1)
  have HK1 := Lib.hid (show 1 ≤ k ∧ k ≤ 64 by have q := H3.out; unfold okN at q; have := of_decide_eq_true q; omega)
  refine wp_region_lit ?_
  refine wpList_q (by rfl) (.slice (some ⟨g, off, none⟩) n c) ?he ?_
  case he => (first | rfl | (go_simp; (try with_reducible rfl)))
  (try simp only [Act.put, sA, sB, sC])
  refine wpList_q (by rfl) (.pointer (some ⟨g, (off + 0), none⟩)) ?he ?_
  case he => exact exec_index (i := 0) (s := 1) (off := off) 22 5 _ _ rfl rfl rfl rfl (by have := HL.out; omega) Try.underlying22 (by kernel_rfl)
  (try simp only [Act.put, sA, sB, sC])
  refine wpList_q (by rfl) (.int .u8 x) ?he ?_
  case he => exact exec_at 5 _ _ (keep_cell HS1.out (show w.cell? ⟨g, off + 0, none⟩ = some (.int .u8 x) from bv_at HB.out 0 (by have := HL.out; omega) rfl)) rfl rfl Try.underlying5 rfl
  (try simp only [Act.put, sA, sB, sC])
  refine wpList_q (by rfl) (.bool false) ?he ?_
  case he => (have q := H1.out; go_simp; (first | done | exact q | (simp [q]; done)))
  (try simp only [Act.put, sA, sB, sC])
  refine wpList_nil ?_
  go_upto_region 3 with fail
  refine wp_region_lit ?_
  refine wpList_q (by rfl) (.slice (some ⟨g, off, none⟩) n c) ?he ?_
  case he => (first | rfl | (go_simp; (try with_reducible rfl)))
  (try simp only [Act.put, sA, sB, sC])
  refine wpList_q (by rfl) (.int .i64 (n : Int)) ?he ?_
  case he => (first | rfl | (go_simp; (try with_reducible rfl)))
  (try simp only [Act.put, sA, sB, sC])
  refine wpList_q (by rfl) (.bool false) ?he ?_
  case he => (have q0 := H2.out; go_simp; (first | done | rfl | omega))
  (try simp only [Act.put, sA, sB, sC])
  refine wpList_nil ?_
  go_upto_region 5 with fail
  refine wp_region_lit ?_
  refine wpList_q (by rfl) (.slice (some ⟨g, off, none⟩) n c) ?he ?_
  case he => (first | rfl | (go_simp; (try with_reducible rfl)))
  (try simp only [Act.put, sA, sB, sC])
  refine wpList_q (by rfl) (.pointer (some ⟨g, (off + 1), none⟩)) ?he ?_
  case he => exact exec_index (i := 1) (s := 1) (off := off) 22 5 _ _ rfl rfl rfl rfl (by have := HL.out; have := H2.out; omega) Try.underlying22 (by kernel_rfl)
  (try simp only [Act.put, sA, sB, sC])
  refine wpList_q (by rfl) (.int .u8 (k : Int)) ?he ?_
  case he => exact exec_at 5 _ _ (keep_cell HS1.out (show w.cell? ⟨g, off + 1, none⟩ = some (.int .u8 (k : Int)) from bv_at HB.out 1 (by have := HL.out; have := H2.out; omega) (by first | rfl | exact HK.out | (simp only [List.getD_cons_succ]; exact HK.out)))) rfl rfl Try.underlying5 rfl
  (try simp only [Act.put, sA, sB, sC])
  refine wpList_q (by rfl) (.int .i64 (k : Int)) ?he ?_
  case he => (go_simp; (first | done | (have q := HKB.out; exact wr64 _ q.1 (by omega)) | (have q := HK1.out; exact wr64 _ (by omega) (by omega))))
  (try simp only [Act.put, sA, sB, sC])
  refine wpList_q (by rfl) (.int .i64 (k : Int)) ?he ?_
  case he => (first | rfl | (go_simp; (try with_reducible rfl)))
  (try simp only [Act.put, sA, sB, sC])
  refine wpList_nil ?_
  go_upto_region 6 with fail
  refine wp_region_lit ?_
  refine wpList_q (by rfl) (.int .i64 (k : Int)) ?he ?_
  case he => (first | rfl | (go_simp; (try with_reducible rfl)))
  (try simp only [Act.put, sA, sB, sC])
  refine wpList_wp (by rfl) (fun K hK => ?_)
  (try go_simp)
  refine (countedV (k : Int) true _ H3.out).mono ?_
  rintro e w2 ⟨rfl, hb⟩
  (try go_wp2_with fail)
  refine hK.out _ _ ?_
  clear hK K
  (try simp only [Act.put, sA, sB, sC])
  have HS2 := Lib.hid (Since.trans HS1.out hb)
  clear HS1 
  clear hb
  refine wpList_q (by rfl) (.bool false) ?he ?_
  case he => (go_simp; (try with_reducible rfl))
  (try simp only [Act.put, sA, sB, sC])
  refine wpList_nil ?_
  go_upto_region 8 with fail
  refine wp_region_lit ?_
  refine wpList_q (by rfl) (.slice (some ⟨g, off, none⟩) n c) ?he ?_
  case he => (first | rfl | (go_simp; (try with_reducible rfl)))
  (try simp only [Act.put, sA, sB, sC])
  refine wpList_q (by rfl) (.int .i64 (n : Int)) ?he ?_
  case he => (first | rfl | (go_simp; (try with_reducible rfl)))
  (try simp only [Act.put, sA, sB, sC])
  refine wpList_q (by rfl) (.int .i64 (k : Int)) ?he ?_
  case he => (first | rfl | (go_simp; (try with_reducible rfl)))
  (try simp only [Act.put, sA, sB, sC])
  refine wpList_q (by rfl) (.int .i64 (2 + (k : Int))) ?he ?_
  case he => (go_simp; (first | done | (have q := HK1.out; exact wr64 _ (by omega) (by omega)) | (have q := HK1.out; rw [wr64 _ (by omega) (by omega)]; omega)))
  (try simp only [Act.put, sA, sB, sC])
  refine wpList_q (by rfl) (.int .i64 (2 + (k : Int) + 4)) ?he ?_
  case he => (go_simp; (first | done | (have q := HK1.out; exact wr64 _ (by omega) (by omega)) | (have q := HK1.out; rw [wr64 _ (by omega) (by omega)]; omega)))
  (try simp only [Act.put, sA, sB, sC])
  refine wpList_q (by rfl) (.bool false) ?he ?_
  case he => (have q := H4.out; have q1 := HK1.out; go_simp; (first | done | omega))
  (try simp only [Act.put, sA, sB, sC])
  refine wpList_nil ?_
  go_upto_region 10 with fail
  refine wp_region_lit ?_
  refine wpList_q (by rfl) (.slice (some ⟨g, off, none⟩) n c) ?he ?_
  case he => (first | rfl | (go_simp; (try with_reducible rfl)))
  (try simp only [Act.put, sA, sB, sC])
  refine wpList_q (by rfl) (.int .i64 (k : Int)) ?he ?_
  case he => (first | rfl | (go_simp; (try with_reducible rfl)))
  (try simp only [Act.put, sA, sB, sC])
  refine wpList_q (by rfl) (.int .i64 (2 + (k : Int))) ?he ?_
  case he => (go_simp; (first | done | (have q := HK1.out; exact wr64 _ (by omega) (by omega)) | (have q := HK1.out; rw [wr64 _ (by omega) (by omega)]; omega)))
  (try simp only [Act.put, sA, sB, sC])
  refine wpList_q (by rfl) (.slice (some ⟨g, off, none⟩) (k + 2) c) ?he ?_
  case he => exact exec_slice (s := 1) 22 5 _ _ _ _ rfl rfl Try.underlying22 (by kernel_rfl) (sb_h _ _ (h := k + 2) (by push_cast; omega) (by have := H4.out; have := HC.out; omega)) (by split <;> simp [Addr.add]) rfl rfl
  (try simp only [Act.put, sA, sB, sC])
  refine wpList_q (by rfl) (.slice (some ⟨g, off, none⟩) (k + 2) c) ?he ?_
  case he => (first | rfl | (go_simp; (try with_reducible rfl)))
  (try simp only [Act.put, sA, sB, sC])
  refine wpList_nil ?_
  have HF := Lib.hid (BV.cut HB.out (show k + 2 ≤ n by have := H4.out; omega))
  have HG := Lib.hid (BV.cut HB.out (show k + 6 ≤ n by have := H4.out; omega))
  go_upto_region 11 with fail
  have hrK : ∀ W W' : World, Since W W' → (Since w W) → (Since w W') := fun W W' k h => h.trans k
  have hrS : (fun W : World => Since w W) w2 := HS2.out
  have HRK := Lib.hid hrK
  have HRD := Lib.hid (show (fun W : World => Since w W) (World.drew w2) from Since.drew hrS)
  clear hrK hrS
  refine wp_region_held_drew (S := fun W : World => Since w W) (by kernel_rfl) HRD.out (fun hHeld => ?_)
  refine wpAnyH_take (i := 0) (oi := ?o11__0) (v := .slice (some ⟨g, off, none⟩) (k + 2) c) ?h11__0 (by kernel_rfl) (by kernel_rfl) (by kernel_rfl) ?q11__0 ?y11__0 (by assumption) ?_
  case h11__0 => (first | (simp only [gA, gB, gC]; done) | (simp only [gA, gB, gC]; exact rfl))
  case q11__0 => exact fun _ _ _ h => h
  case y11__0 => (refine Or.inl ⟨rfl, ?_⟩; intro w hSw; (first | rfl | (go_simp; (try with_reducible rfl))))
  (try simp only [Act.put, sA, sB, sC])
  refine wpAnyH_take (i := 2) (oi := ?o11__2) (v := .slice (some ⟨g, off, none⟩) n c) ?h11__2 (by kernel_rfl) (by kernel_rfl) (by kernel_rfl) ?q11__2 ?y11__2 (by assumption) ?_
  case h11__2 => (first | (simp only [gA, gB, gC]; done) | (simp only [gA, gB, gC]; exact rfl))
  case q11__2 => exact fun _ _ _ h => h
  case y11__2 => (refine Or.inl ⟨rfl, ?_⟩; intro w hSw; (first | rfl | (go_simp; (try with_reducible rfl))))
  (try simp only [Act.put, sA, sB, sC])
  refine wpAnyH_take (i := 3) (oi := ?o11__3) (v := .int .i64 (k : Int)) ?h11__3 (by kernel_rfl) (by kernel_rfl) (by kernel_rfl) ?q11__3 ?y11__3 (by assumption) ?_
  case h11__3 => (first | (simp only [gA, gB, gC]; done) | (simp only [gA, gB, gC]; exact rfl))
  case q11__3 => exact fun _ _ _ h => h
  case y11__3 => (refine Or.inl ⟨rfl, ?_⟩; intro w hSw; (first | rfl | (go_simp; (try with_reducible rfl))))
  (try simp only [Act.put, sA, sB, sC])
  refine wpAnyH_take (i := 4) (oi := ?o11__4) (v := .int .i64 (2 + (k : Int))) ?h11__4 (by kernel_rfl) (by kernel_rfl) (by kernel_rfl) ?q11__4 ?y11__4 (by assumption) ?_
  case h11__4 => (first | (simp only [gA, gB, gC]; done) | (simp only [gA, gB, gC]; exact rfl))
  case q11__4 => exact fun _ _ _ h => h
  case y11__4 => (refine Or.inl ⟨rfl, ?_⟩; intro w hSw; (go_simp; (first | done | (have q := HK1.out; exact wr64 _ (by omega) (by omega)) | (have q := HK1.out; rw [wr64 _ (by omega) (by omega)]; omega))))
  (try simp only [Act.put, sA, sB, sC])
  refine wpAnyH_take (i := 5) (oi := ?o11__5) (v := .int .i64 (2 + (k : Int) + 4)) ?h11__5 (by kernel_rfl) (by kernel_rfl) (by kernel_rfl) ?q11__5 ?y11__5 (by assumption) ?_
  case h11__5 => (first | (simp only [gA, gB, gC]; done) | (simp only [gA, gB, gC]; exact rfl))
  case q11__5 => exact fun _ _ _ h => h
  case y11__5 => (refine Or.inl ⟨rfl, ?_⟩; intro w hSw; (go_simp; (first | done | (have q := HK1.out; exact wr64 _ (by omega) (by omega)) | (have q := HK1.out; rw [wr64 _ (by omega) (by omega)]; omega))))
  (try simp only [Act.put, sA, sB, sC])
  refine wpAnyH_take (i := 6) (oi := ?o11__6) (v := .slice (some ⟨g, off, none⟩) (k + 6) c) ?h11__6 (by kernel_rfl) (by kernel_rfl) (by kernel_rfl) ?q11__6 ?y11__6 (by assumption) ?_
  case h11__6 => (first | (simp only [gA, gB, gC]; done) | (simp only [gA, gB, gC]; exact rfl))
  case q11__6 => exact fun _ _ _ h => h
  case y11__6 => (refine Or.inl ⟨rfl, ?_⟩; intro w hSw; exact exec_slice (s := 1) 22 5 _ _ _ _ rfl rfl Try.underlying22 (by kernel_rfl) (sb_h _ _ (h := k + 6) (by push_cast; omega) (by have := H4.out; have := HC.out; omega)) (by split <;> simp [Addr.add]) rfl rfl)
  (try simp only [Act.put, sA, sB, sC])
  refine wpAnyH_ready (rs := [1]) (by kernel_rfl) (by simp) ?_
  refine AllReadyH.cons (o := ?o11__1) ?h11__1 (fun K hK => ?_) AllReadyH.nil
  case h11__1 => (first | (simp only [gA, gB, gC]; done) | (simp only [gA, gB, gC]; exact rfl))
  (try go_simp)
  refine (sealedT ⟨g, off, none⟩ (k + 2) c ((x :: r).take (k + 2)) _ (keep_bv hHeld HF.out) (by omega) (by have := HK1.out; omega) (by have := H4.out; have := HC.out; omega)).mono ?_
  rintro e w3 ⟨A3, c3, rfl, hown, hb⟩
  (try go_wp2_with fail)
  refine hK.out _ _ (by (apply HRK.out; exact hb; exact hHeld)) (fun hHeld2 => ?_)
  have HOZ := Lib.hid (BV.of_own hown (seal_isB HF.out.2.2.1))
  clear hown
  clear hK K hHeld hb
  have hHeld := hHeld2
  clear hHeld2
  (try simp only [Act.put, sA, sB, sC])
  refine wpAnyH_ready (rs := [7]) (by kernel_rfl) (by simp) ?_
  refine AllReadyH.cons (o := ?o11__7) ?h11__7 (fun K hK => ?_) AllReadyH.nil
  case h11__7 => (first | (simp only [gA, gB, gC]; done) | (simp only [gA, gB, gC]; exact rfl))
  (try go_simp)
  refine (equalYes A3 (k + 2 + 4) c3 (some ⟨g, off, none⟩) (k + 6) c _ _ _ HOZ.out (keep_bv hHeld HG.out) H5.out).mono ?_
  rintro e w4 ⟨rfl, hb⟩
  (try go_wp2_with fail)
  refine hK.out _ _ (by (apply HRK.out; exact hb; exact hHeld)) (fun hHeld2 => ?_)
  clear hK K hHeld hb
  have hHeld := hHeld2
  clear hHeld2
  (try simp only [Act.put, sA, sB, sC])
  refine wpAnyH_take (i := 8) (oi := ?o11__8) (v := .bool false) ?h11__8 (by kernel_rfl) (by kernel_rfl) (by kernel_rfl) ?q11__8 ?y11__8 (by assumption) ?_
  case h11__8 => (first | (simp only [gA, gB, gC]; done) | (simp only [gA, gB, gC]; exact rfl))
  case q11__8 => exact fun _ _ _ h => h
  case y11__8 => (refine Or.inl ⟨rfl, ?_⟩; intro w hSw; (go_simp; (try with_reducible rfl)))
  (try simp only [Act.put, sA, sB, sC])
  refine wpAnyH_done (by kernel_rfl) ?_ _
  have HSd11 := Lib.hid hHeld
  clear hHeld HRK HRD HS2 
  go_upto_region 13 with fail
  refine wp_region_lit ?_
  refine wpList_q (by rfl) (.slice (some ⟨g, off, none⟩) (k + 2) c) ?he ?_
  case he => (first | rfl | (go_simp; (try with_reducible rfl)))
  (try simp only [Act.put, sA, sB, sC])
  refine wpList_q (by rfl) (.slice (some ⟨g, off, none⟩) (k + 2) c) ?he ?_
  case he => (first | rfl | (go_simp; (try with_reducible rfl)))
  (try simp only [Act.put, sA, sB, sC])
  refine wpList_q (by rfl) (.bool true) ?he ?_
  case he => (first | rfl | (go_simp; (try with_reducible rfl)))
  (try simp only [Act.put, sA, sB, sC])
  refine wpList_nil ?_
  (try go_wp2_with fail)
  go_ret2
  exact ⟨rfl, HSd11.out⟩
set_option maxHeartbeats 4000000 in
theorem heldNil (w : World) : Calls Try.prog 21 #[.pointer none] w fun e w' => e = .returned (.int .i64 0) ∧ Since w w' := by
  go_enter Try.func21, Try.ntmps21
  go_upto_region 1 with fail
  have HS1 := Lib.hid (Since.refl w)
  refine wp_region_lit ?_
  refine wpList_q (by rfl) (.pointer none) ?he ?_
  case he => (first | rfl | (go_simp; (try with_reducible rfl)))
  (try simp only [Act.put, sA, sB, sC])
  refine wpList_q (by rfl) (.bool true) ?he ?_
  case he => (first | rfl | (go_simp; (try with_reducible rfl)))
  (try simp only [Act.put, sA, sB, sC])
  refine wpList_nil ?_
  go_upto_region 2 with fail
  refine wp_region_lit ?_
  refine wpList_q (by rfl) (.int .i64 0) ?he ?_
  case he => (first | rfl | (go_simp; (try with_reducible rfl)))
  (try simp only [Act.put, sA, sB, sC])
  refine wpList_nil ?_
  (try go_wp2_with fail)
  go_ret
  exact ⟨rfl, HS1.out⟩
set_option maxHeartbeats 4000000 in
theorem heldA (s : Nat) (A : Option Addr) (n c tk : Nat) (w : World) (hb : Blk w s 40 #[.slice A n c, .int .i64 ((tk : Nat) : Int)]) (ht : tk ≤ n) (hn : n ≤ 1000000) : Calls Try.prog 21 #[.pointer (some ⟨s, 0, none⟩)] w fun e w' => e = .returned (.int .i64 ((n : Int) - (tk : Int))) ∧ Since w w' := by
  have HB := Lib.hid hb
  clear hb
  have HT := Lib.hid ht
  clear ht
  have HN := Lib.hid hn
  clear hn
  go_enter Try.func21, Try.ntmps21
  go_upto_region 1 with fail
  have HS1 := Lib.hid (Since.refl w)
  refine wp_region_lit ?_
  refine wpList_q (by rfl) (.pointer (some ⟨s, 0, none⟩)) ?he ?_
  case he => (first | rfl | (go_simp; (try with_reducible rfl)))
  (try simp only [Act.put, sA, sB, sC])
  refine wpList_q (by rfl) (.bool false) ?he ?_
  case he => (first | rfl | (go_simp; (try with_reducible rfl)))
  (try simp only [Act.put, sA, sB, sC])
  refine wpList_nil ?_
  go_upto_region 3 with fail
  have hrK : ∀ W W' : World, Since W W' → (Since w W ∧ Blk W s 40 #[.slice A n c, .int .i64 ((tk : Nat) : Int)]) → (Since w W' ∧ Blk W' s 40 #[.slice A n c, .int .i64 ((tk : Nat) : Int)]) := fun W W' k ⟨h, h0⟩ => ⟨h.trans k, keep_blk k h0⟩
  have hrS : (fun W : World => Since w W ∧ Blk W s 40 #[.slice A n c, .int .i64 ((tk : Nat) : Int)]) w := ⟨HS1.out, HB.out⟩
  have HRK := Lib.hid hrK
  have HRD := Lib.hid (show (fun W : World => Since w W ∧ Blk W s 40 #[.slice A n c, .int .i64 ((tk : Nat) : Int)]) (World.drew w) from ⟨Since.drew hrS.1, hrS.2⟩)
  clear hrK hrS
  refine wp_region_held_drew (S := fun W : World => Since w W ∧ Blk W s 40 #[.slice A n c, .int .i64 ((tk : Nat) : Int)]) (by kernel_rfl) HRD.out (fun hHeld => ?_)
  refine wpAnyH_take (i := 0) (oi := ?o3__0) (v := .pointer (some ⟨s, 0, none⟩)) ?h3__0 (by kernel_rfl) (by kernel_rfl) (by kernel_rfl) ?q3__0 ?y3__0 (by assumption) ?_
  case h3__0 => (first | (simp only [gA, gB, gC]; done) | (simp only [gA, gB, gC]; exact rfl))
  case q3__0 => exact fun _ _ _ h => h
  case y3__0 => (refine Or.inl ⟨rfl, ?_⟩; intro w hSw; (first | rfl | (go_simp; (try with_reducible rfl))))
  (try simp only [Act.put, sA, sB, sC])
  refine wpAnyH_take (i := 1) (oi := ?o3__1) (v := .pointer (some ⟨s, 0, none⟩)) ?h3__1 (by kernel_rfl) (by kernel_rfl) (by kernel_rfl) ?q3__1 ?y3__1 (by assumption) ?_
  case h3__1 => (first | (simp only [gA, gB, gC]; done) | (simp only [gA, gB, gC]; exact rfl))
  case q3__1 => exact fun _ _ _ h => h
  case y3__1 => (refine Or.inl ⟨rfl, ?_⟩; intro w hSw; (first | rfl | (go_simp; (try with_reducible rfl))))
  (try simp only [Act.put, sA, sB, sC])
  refine wpAnyH_take (i := 2) (oi := ?o3__2) (v := .pointer (some ⟨s, 0, none⟩)) ?h3__2 (by kernel_rfl) (by kernel_rfl) (by kernel_rfl) ?q3__2 ?y3__2 (by assumption) ?_
  case h3__2 => (first | (simp only [gA, gB, gC]; done) | (simp only [gA, gB, gC]; exact rfl))
  case q3__2 => exact fun _ _ _ h => h
  case y3__2 => (refine Or.inl ⟨rfl, ?_⟩; intro w hSw; (first | rfl | (go_simp; (try with_reducible rfl))))
  (try simp only [Act.put, sA, sB, sC])
  refine wpAnyH_take (i := 3) (oi := ?o3__3) (v := .slice A n c) ?h3__3 (by kernel_rfl) (by kernel_rfl) (by kernel_rfl) ?q3__3 ?y3__3 (by assumption) ?_
  case h3__3 => (first | (simp only [gA, gB, gC]; done) | (simp only [gA, gB, gC]; exact rfl))
  case q3__3 => exact fun _ _ _ h => h
  case y3__3 => (refine Or.inl ⟨rfl, ?_⟩; intro w hSw; exact exec_cell 22 _ _ hSw.2 rfl rfl rfl Try.underlying22 rfl)
  (try simp only [Act.put, sA, sB, sC])
  refine wpAnyH_take (i := 4) (oi := ?o3__4) (v := .int .i64 (n : Int)) ?h3__4 (by kernel_rfl) (by kernel_rfl) (by kernel_rfl) ?q3__4 ?y3__4 (by assumption) ?_
  case h3__4 => (first | (simp only [gA, gB, gC]; done) | (simp only [gA, gB, gC]; exact rfl))
  case q3__4 => exact fun _ _ _ h => h
  case y3__4 => (refine Or.inl ⟨rfl, ?_⟩; intro w hSw; (first | rfl | (go_simp; (try with_reducible rfl))))
  (try simp only [Act.put, sA, sB, sC])
  refine wpAnyH_take (i := 5) (oi := ?o3__5) (v := .pointer (some ⟨s, 0, none⟩)) ?h3__5 (by kernel_rfl) (by kernel_rfl) (by kernel_rfl) ?q3__5 ?y3__5 (by assumption) ?_
  case h3__5 => (first | (simp only [gA, gB, gC]; done) | (simp only [gA, gB, gC]; exact rfl))
  case q3__5 => exact fun _ _ _ h => h
  case y3__5 => (refine Or.inl ⟨rfl, ?_⟩; intro w hSw; (first | rfl | (go_simp; (try with_reducible rfl))))
  (try simp only [Act.put, sA, sB, sC])
  refine wpAnyH_take (i := 6) (oi := ?o3__6) (v := .pointer (some ⟨s, 0, none⟩)) ?h3__6 (by kernel_rfl) (by kernel_rfl) (by kernel_rfl) ?q3__6 ?y3__6 (by assumption) ?_
  case h3__6 => (first | (simp only [gA, gB, gC]; done) | (simp only [gA, gB, gC]; exact rfl))
  case q3__6 => exact fun _ _ _ h => h
  case y3__6 => (refine Or.inl ⟨rfl, ?_⟩; intro w hSw; (first | rfl | (go_simp; (try with_reducible rfl))))
  (try simp only [Act.put, sA, sB, sC])
  refine wpAnyH_take (i := 7) (oi := ?o3__7) (v := .pointer (some ⟨s, 1, none⟩)) ?h3__7 (by kernel_rfl) (by kernel_rfl) (by kernel_rfl) ?q3__7 ?y3__7 (by assumption) ?_
  case h3__7 => (first | (simp only [gA, gB, gC]; done) | (simp only [gA, gB, gC]; exact rfl))
  case q3__7 => exact fun _ _ _ h => h
  case y3__7 => (refine Or.inl ⟨rfl, ?_⟩; intro w hSw; (first | rfl | (go_simp; (try with_reducible rfl))))
  (try simp only [Act.put, sA, sB, sC])
  refine wpAnyH_take (i := 8) (oi := ?o3__8) (v := .int .i64 ((tk : Nat) : Int)) ?h3__8 (by kernel_rfl) (by kernel_rfl) (by kernel_rfl) ?q3__8 ?y3__8 (by assumption) ?_
  case h3__8 => (first | (simp only [gA, gB, gC]; done) | (simp only [gA, gB, gC]; exact rfl))
  case q3__8 => exact fun _ _ _ h => h
  case y3__8 => (refine Or.inl ⟨rfl, ?_⟩; intro w hSw; exact exec_cell 3 _ _ hSw.2 rfl rfl rfl Try.underlying3 rfl)
  (try simp only [Act.put, sA, sB, sC])
  refine wpAnyH_take (i := 9) (oi := ?o3__9) (v := .int .i64 ((n : Int) - (tk : Int))) ?h3__9 (by kernel_rfl) (by kernel_rfl) (by kernel_rfl) ?q3__9 ?y3__9 (by assumption) ?_
  case h3__9 => (first | (simp only [gA, gB, gC]; done) | (simp only [gA, gB, gC]; exact rfl))
  case q3__9 => exact fun _ _ _ h => h
  case y3__9 => (refine Or.inl ⟨rfl, ?_⟩; intro w hSw; (go_simp; (first | done | (have q := HT.out; have q1 := HN.out; exact wr64 _ (by omega) (by omega)) | (have q := HT.out; have q1 := HN.out; rw [wr64 _ (by omega) (by omega)]))))
  (try simp only [Act.put, sA, sB, sC])
  refine wpAnyH_take (i := 10) (oi := ?o3__10) (v := .int .i64 ((n : Int) - (tk : Int))) ?h3__10 (by kernel_rfl) (by kernel_rfl) (by kernel_rfl) ?q3__10 ?y3__10 (by assumption) ?_
  case h3__10 => (first | (simp only [gA, gB, gC]; done) | (simp only [gA, gB, gC]; exact rfl))
  case q3__10 => exact fun _ _ _ h => h
  case y3__10 => (refine Or.inl ⟨rfl, ?_⟩; intro w hSw; (first | rfl | (go_simp; (try with_reducible rfl))))
  (try simp only [Act.put, sA, sB, sC])
  refine wpAnyH_done (by kernel_rfl) ?_ _
  have HSd3 := Lib.hid hHeld.1
  have HBQd3 := Lib.hid (hHeld.2)
  clear hHeld HRK HRD HS1 HB
  (try go_wp2_with fail)
  go_ret
  exact ⟨rfl, HSd3.out⟩
theorem heldT (lo s N : Nat) (xs : List Int) (S : List Nat) (w : World) (h : SO lo s N xs S w) (hN : N ≤ 1000000) : Calls Try.prog 21 #[.pointer (some ⟨s, 0, none⟩)] w fun e w' => e = .returned (.int .i64 (xs.length : Int)) ∧ Since w w' := by
  obtain ⟨h0, A, n, c, tk, zs, rfl, B, O, r1, r2, r3, r4⟩ := h
  have hl : zs.length = n := by have := O.1; simpa [cells] using this
  have e : ((xs.length : Nat) : Int) = (n : Int) - (tk : Int) := by rw [← r3, List.length_drop]; omega
  rw [e]
  exact heldA s A n c tk w B r2 (by omega)
set_option maxHeartbeats 4000000 in
theorem feedNil (A : Option Addr) (m c : Nat) (w : World) : Calls Try.prog 18 #[.pointer none, .slice A m c] w fun e w' => e = .returned (.tuple #[]) ∧ Since w w' := by
  go_enter Try.func18, Try.ntmps18
  have HS1 := Lib.hid (Since.refl w)
  go_upto_region 0 with fail
  refine wp_region_lit ?_
  refine wpList_q (by rfl) (.pointer none) ?he ?_
  case he => (first | rfl | (go_simp; (try with_reducible rfl)))
  (try simp only [Act.put, sA, sB, sC])
  refine wpList_q (by rfl) (.bool true) ?he ?_
  case he => (first | rfl | (go_simp; (try with_reducible rfl)))
  (try simp only [Act.put, sA, sB, sC])
  refine wpList_nil ?_
  (try go_wp2_with fail)
  first | go_end0 | refine bodyPost_ret (results_none rfl _ _ _) rfl ?_
  exact ⟨rfl, HS1.out⟩
set_option maxHeartbeats 4000000 in
theorem feedA (lo s : Nat) (A : Option Addr) (n c tk : Nat) (zs : List Int) (A2 : Option Addr) (m c2 : Nat) (ys : List Int) (w : World) (hq : Blk w s 40 #[.slice A n c, .int .i64 ((tk : Nat) : Int)]) (ho : w.ownsRow lo 5 1 (.slice A n c) n (cells zs)) (hb : BV w A2 m ys) (hn : n + m ≤ 1000000) (h0 : lo ≤ s) : Calls Try.prog 18 #[.pointer (some ⟨s, 0, none⟩), .slice A2 m c2] w fun e w' => e = .returned (.tuple #[]) ∧ ∃ A' c', Blk w' s 40 #[.slice A' (n + m) c', .int .i64 ((tk : Nat) : Int)] ∧ w'.ownsRow lo 5 1 (.slice A' (n + m) c') (n + m) (cells (zs ++ ys)) ∧ Upd (s :: blkOf A) w w' ∧ ∀ g ∈ blkOf A', g ∈ blkOf A ∨ w.heap.size ≤ g := by
  have HBQ := Lib.hid hq
  clear hq
  have HOW := Lib.hid ho
  clear ho
  have HB := Lib.hid hb
  clear hb
  have HN := Lib.hid hn
  clear hn
  have H0 := Lib.hid h0
  clear h0
  go_enter Try.func18, Try.ntmps18
  have HS1 := Lib.hid (Upd.refl (s :: blkOf A) w)
  have HIQ := Lib.hid (own_ne_ty HOW.out HBQ.out (by decide))
  have HLO := Lib.hid (show lo ≤ w.heap.size by have := Blk.lt HBQ.out; have := H0.out; omega)
  go_upto_region 0 with fail
  refine wp_region_lit ?_
  refine wpList_q (by rfl) (.pointer (some ⟨s, 0, none⟩)) ?he ?_
  case he => (first | rfl | (go_simp; (try with_reducible rfl)))
  (try simp only [Act.put, sA, sB, sC])
  refine wpList_q (by rfl) (.bool false) ?he ?_
  case he => (first | rfl | (go_simp; (try with_reducible rfl)))
  (try simp only [Act.put, sA, sB, sC])
  refine wpList_nil ?_
  go_upto_region 1 with fail
  refine wp_region_lit ?_
  refine wpList_q (by rfl) (.pointer (some ⟨s, 0, none⟩)) ?he ?_
  case he => (first | rfl | (go_simp; (try with_reducible rfl)))
  (try simp only [Act.put, sA, sB, sC])
  refine wpList_q (by rfl) (.pointer (some ⟨s, 0, none⟩)) ?he ?_
  case he => (first | rfl | (go_simp; (try with_reducible rfl)))
  (try simp only [Act.put, sA, sB, sC])
  refine wpList_q (by rfl) (.pointer (some ⟨s, 0, none⟩)) ?he ?_
  case he => (first | rfl | (go_simp; (try with_reducible rfl)))
  (try simp only [Act.put, sA, sB, sC])
  refine wpList_q (by rfl) (.pointer (some ⟨s, 0, none⟩)) ?he ?_
  case he => (first | rfl | (go_simp; (try with_reducible rfl)))
  (try simp only [Act.put, sA, sB, sC])
  refine wpList_q (by rfl) (.slice A n c) ?he ?_
  case he => exact exec_cell 22 _ _ HBQ.out rfl rfl rfl Try.underlying22 rfl
  (try simp only [Act.put, sA, sB, sC])
  refine wpList_q (by rfl) (.slice A2 m c2) ?he ?_
  case he => (first | rfl | (go_simp; (try with_reducible rfl)))
  (try simp only [Act.put, sA, sB, sC])
  refine wpList_wp (by rfl) (fun K hK => ?_)
  refine wp_append_row (.tmp 10) (.tmp 11) 22 rfl lo 5 (Value.int .u8 0) 1 1 Try.underlying22 (by kernel_rfl) rfl (by decide) (by decide) A n c (cells zs) rfl HOW.out _ A2 m c2 (cells ys) rfl (bv_reads HB.out) (Byt.cells_one ys) HN.out HLO.out (n + m) (cells (zs ++ ys)) rfl (cells_app _ _) ?_
  intro A_1 c_1 w2 hown hupd hfar
  refine hK.out _ _ ?_
  clear hK K
  (try simp only [Act.put, sA, sB, sC])
  have HFAR := Lib.hid hfar
  have HS2 := Lib.hid (Upd.comp HS1.out hupd (fun x h => .inl (List.mem_cons_of_mem _ h)))
  have HBQ2 := Lib.hid (Upd.blk hupd HBQ.out HIQ.out)
  have HIQ_r_2 := Lib.hid (nin_next hfar HIQ.out (Blk.lt HBQ.out))
  have HFr2 := Lib.hid hown
  clear hupd hown hfar HS1 HBQ HOW
  refine wpList_q (by rfl) (.pointer (some ⟨s, 0, none⟩)) ?he ?_
  case he => (first | rfl | (go_simp; (try with_reducible rfl)))
  (try simp only [Act.put, sA, sB, sC])
  refine wpList_q (by rfl) (.pointer (some ⟨s, 0, none⟩)) ?he ?_
  case he => (first | rfl | (go_simp; (try with_reducible rfl)))
  (try simp only [Act.put, sA, sB, sC])
  refine wpList_wp (by rfl) (fun K hK => ?_)
  refine wp_st_cell 22 _ _ rfl #[.slice A_1 (n + m) c_1, .int .i64 ((tk : Nat) : Int)] (.slice A_1 (n + m) c_1) rfl rfl HBQ2.out (by show 0 < 2; decide) rfl (by first | rfl | simp [Value.oneCell']) (by kernel_rfl) ?_
  intro w3 hw
  refine hK.out _ _ ?_
  clear hK K
  (try simp only [Act.put, sA, sB, sC])
  have HS3 := Lib.hid (show Upd (s :: blkOf A) w w3 by rw [hw]; exact Upd.setRow HS2.out (.inl (by simp)) _)
  have HBQ3 := Lib.hid (show Blk w3 s 40 #[.slice A_1 (n + m) c_1, .int .i64 ((tk : Nat) : Int)] by rw [hw]; exact Blk.row HBQ2.out _)
  have HFr_3 := Lib.hid (show (w3).ownsRow lo 5 1 (.slice A_1 (n + m) c_1) (n + m) (cells (zs ++ ys)) by rw [hw]; exact own_row_far HFr2.out HIQ_r_2.out _)
  clear hw HS2 HBQ2 HFr2
  refine wpList_nil ?_
  (try go_wp2_with fail)
  first | go_end0 | refine bodyPost_ret (results_none rfl _ _ _) rfl ?_
  exact ⟨rfl, A_1, c_1, HBQ3.out, HFr_3.out, HS3.out, HFAR.out⟩
theorem feedT (lo s N : Nat) (xs : List Int) (S : List Nat) (A2 : Option Addr) (m c2 : Nat) (ys : List Int) (w : World) (h : SO lo s N xs S w) (hb : BV w A2 m ys) (hN : N + m ≤ 1000000) :
    Calls Try.prog 18 #[.pointer (some ⟨s, 0, none⟩), .slice A2 m c2] w fun e w' => ∃ S', e = .returned (.tuple #[]) ∧ SO lo s (N + m) (xs ++ ys) S' w' ∧ Upd S w w' ∧ ∀ g ∈ S', g ∈ S ∨ w.heap.size ≤ g := by
  obtain ⟨h0, A, n, c, tk, zs, rfl, B, O, r1, r2, r3, r4⟩ := h
  have hl : zs.length = n := by have := O.1; simpa [cells] using this
  refine (feedA lo s A n c tk zs A2 m c2 ys w B O hb (by omega) h0).mono ?_
  rintro e w1 ⟨rfl, A', c', B', O', hu, hfar⟩
  refine ⟨s :: blkOf A', rfl, ⟨h0, A', n + m, c', tk, zs ++ ys, rfl, B', O', ?_, by omega, ?_, by omega⟩, hu, fun g hg => ?_⟩
  · intro z hz
    rcases List.mem_append.1 hz with h1 | h1
    · exact r1 z h1
    · exact hb.2.2.1 z h1
  · rw [List.drop_append_of_le_length (by omega), r3]
  · rcases List.mem_cons.1 hg with rfl | hg
    · exact .inl (by simp)
    · rcases hfar g hg with h1 | h1
      · exact .inl (List.mem_cons_of_mem _ h1)
      · exact .inr h1
end Go.Proofs.Ytfggnchfkoifeaa.Fq
