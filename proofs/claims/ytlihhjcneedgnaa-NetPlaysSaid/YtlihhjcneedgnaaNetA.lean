/-
  net's copied, New, Len, has: walked.
  Conditions: what stands ahead of each.
-/
import Derived.Test.YtlihhjcneedgnaaProg
import Derived.Test.YtlihhjcneedgnaaShort
import Derived.Test.YtlihhjcneedgnaaNet
import Derived.Test.YtlihhjcneedgnaaCpy
import Derived.Test.YtlihhjcneedgnaaOwn
import Derived.Test.YtlihhjcneedgnaaOpn
import Derived.Laws.IdiomCopy
namespace Go.Proofs.Ytlihhjcneedgnaa.Nt
set_option linter.unusedVariables false
set_option linter.unusedSimpArgs false
open Go.RowKit Go.Proofs.Ytlihhjcneedgnaa.Ba Go.Proofs.Ytlihhjcneedgnaa.Mem
open Go.Proofs.Ytlihhjcneedgnaa.Byt (BV isB cells)
open Go.Proofs.Ytlihhjcneedgnaa.Mp (MapF setK exec_look wp_mapput wp_mapdel wp_mapnew)
set_option maxRecDepth 100000
attribute [local irreducible] Go.wpList
theorem MapFS.keep {P : Program} {k : TypeId} {w w' : World} {b n : Nat} {m : Int → Option Value} (s : Since w w') (h : MapF P k w b n m) : MapF P k w' b n m := h.keep s
theorem MapFS.upd {P : Program} {k : TypeId} {w w' : World} {b n : Nat} {m : Int → Option Value} {T : List Nat} (s : Upd T w w') (h : MapF P k w b n m) (hT : ∀ g ∈ [b], g ∉ T) : MapF P k w' b n m := h.upd s (hT b (by simp))
theorem MapFS.lt {P : Program} {k : TypeId} {w : World} {b n : Nat} {m : Int → Option Value} (h : MapF P k w b n m) : ∀ g ∈ [b], g < w.heap.size := fun g hg => by rw [List.mem_singleton.1 hg]; exact h.lt
theorem MapFS.far {P : Program} {k : TypeId} {w : World} {b n g : Nat} {m : Int → Option Value} (h : MapF P k w b n m) (hb : w.heap.size ≤ g) : g ∉ [b] := fun hm => by have := MapFS.lt h g hm; omega
theorem MapFS.row_far {P : Program} {k : TypeId} {w : World} {b n g : Nat} {m : Int → Option Value} (h : MapF P k w b n m) (hb : g ∉ [b]) (cs : Array Value) : MapF P k (w.setRow g cs) b n m :=
  h.upd (S := [g]) ((Upd.refl _ w).setRow (.inl (by simp)) cs) (fun hm => hb (by rw [List.mem_singleton] at hm; rw [hm]; simp))
theorem zero_row {w : World} : (zeroValue 93).run Try.prog w = .ok (.slice none 0 0) w := by
  have hi : (Try.prog.info? 93).map (·.zero) = some (some (.slice none 0 0)) := by kernel_rfl
  cases h : Try.prog.info? 93 with
  | none => simp [h] at hi
  | some i => simp [h] at hi; simp [zeroValue, typeInfo, h, hi]
theorem wp_copy_b {P : Program} {o : Oper} {a : Act} {w : World} {K : Act → World → Prop} {Q : Exit → Act → World → Prop} (d s : Operand) (dT sT elem : TypeId) (ho : o.op = .call { callee := .builtin .copy, args := #[d, s], argTypes := #[dT, sT] }) (hu : P.underlying dT = some (.slice elem)) (hs : (P.info? elem).map (·.size) = some 1)
    {g n c : Nat} {A : Option Addr} {cur : Array Value} {t : TypeId} {zs : List Int} (hd : a.eval d = .slice (some ⟨g, 0, none⟩) n n) (hsv : a.eval s = .slice A n c) (hg : Blk w g t cur) (hz : cur.size = n * 1) (hv : BV w A n zs)
    (h : ∀ w', Blk w' g t (cells zs).toArray → Upd [g] w w' → K (a.put o.dst (.int .i64 (n : Int))) w') : o.wp P a w K Q := by
  by_cases h0 : n = 0
  · subst h0
    have hrun := run_copy_none (P := P) w dT sT o.type elem (some ⟨g, 0, none⟩) A 0 0 0 c hu hs (by simp)
    have e1 : zs = [] := List.eq_nil_of_length_eq_zero hv.1
    have e2 : cur = #[] := Array.eq_empty_of_size_eq_zero (by omega)
    unfold Oper.wp execOp
    simp only [ho, resolve, invoke, builtin, Sem.run_bind, Sem.run_pure, Result.andThen_ok, List.map_toArray, List.map_cons, List.map_nil, hd, hsv, hrun]
    exact h w (by subst e1 e2; exact hg) (Upd.refl _ _)
  · obtain ⟨b, off, rfl, hb, hc⟩ := hv.addr h0
    have hl : (cells zs).length = n := by rw [cells, List.length_map]; exact hv.1
    refine wp_copy_k d s dT sT elem ho hu (k := 1) hs (m := n) (cells zs) hd hsv hg (by simp) (by omega) (fun j v hj => ?_) (by omega) (Go.Proofs.Ytlihhjcneedgnaa.Byt.cells_one zs) ?_
    · obtain ⟨h1, rfl⟩ := Go.Proofs.Ytlihhjcneedgnaa.Byt.cells_get zs j v hj
      rw [Go.WideShapes.add_plain]
      exact hc j (by rw [← hv.1]; exact h1)
    · rintro w' rfl
      have e : copyR cur 0 (cells zs) = (cells zs).toArray := by
        have e1 : cur.toList.drop (0 + (cells zs).length) = [] := List.drop_eq_nil_of_le (by rw [Array.length_toList]; omega)
        unfold copyR
        rw [e1]; simp
      rw [e]
      exact h _ (Blk.row hg _) ((Upd.refl _ w).setRow (.inl (by simp)) _)
theorem ways0 {lo : Nat} {w : World} : WaysAt lo (fun _ => none) w := fun x W hx => by cases hx
theorem apart0 : Apart (fun _ => none) := ⟨fun x y W V hx => (by cases hx), fun x W hx => (by cases hx)⟩
def lenW (ws : Int → Option WayV) (x : Int) : Nat := match ws x with | some W => W.its.length | none => 0
def hasB (ws : Int → Option WayV) (x k : Int) : Bool := decide (0 ≤ k ∧ k < (lenW ws x : Int))
set_option maxHeartbeats 4000000 in
theorem copiedT (A : Option Addr) (n c : Nat) (zs : List Int) (w : World) (hv : BV w A n zs) (hn : n ≤ 1000000) : Calls Try.prog 44 #[.slice A n c] w fun e w' => ∃ A', e = .returned (.slice A' n n) ∧ w'.ownsRow w.heap.size 5 1 (.slice A' n n) n (cells zs) ∧ Since w w' := by
 have HV := Lib.hid hv
 clear hv
 have HN := Lib.hid hn
 clear hn
 have HZL := Lib.hid (show zs.length = n from HV.out.1)
 go_enter Try.func44, Try.ntmps44
 go_upto_region 1 with fail
 have HS1 := Lib.hid (Since.refl w)
 refine wp_region_lit ?_
 refine wpList_q (by rfl) (.slice A n c) ?he ?_
 case he => (first | rfl | (go_simp; (try with_reducible rfl)))
 (try simp only [Act.put, sA, sB, sC])
 refine wpList_q (by rfl) (.int .i64 (n : Int)) ?he ?_
 case he => (first | rfl | (go_simp; (try with_reducible rfl)))
 (try simp only [Act.put, sA, sB, sC])
 refine wpList_wp (by rfl) (fun K hK => ?_)
 refine wp_make 55 5 (.tmp 5) (.tmp 5) rfl (z := .int .u8 0) (k := 1) (bytes := 1) Try.underlying55 (by kernel_rfl) n rfl rfl HN.out (by decide) rfl ?_
 intro bD cur w2 hge hB hsz hb
 refine hK.out _ _ ?_
 clear hK K
 (try simp only [Act.put, sA, sB, sC])
 have HSZ := Lib.hid hsz; clear hsz
 have HGD := Lib.hid (show w.heap.size ≤ bD by have := Since.size HS1.out; omega)
 have HFAD_v := Lib.hid (bv_far HV.out hge)
 have HS2 := Lib.hid (Since.trans HS1.out hb)
 have HFv2 := Lib.hid (keep_bv hb HV.out)
 clear HS1 HV
 clear hb hge
 have HBD2 := Lib.hid hB
 clear hB
 refine wpList_q (by rfl) (.slice (some ⟨bD, 0, none⟩) n n) ?he ?_
 case he => (first | rfl | (go_simp; (try with_reducible rfl)))
 (try simp only [Act.put, sA, sB, sC])
 refine wpList_nil ?_
 go_upto_region 2 with fail
 refine wp_region_lit ?_
 refine wpList_q (by rfl) (.slice (some ⟨bD, 0, none⟩) n n) ?he ?_
 case he => (first | rfl | (go_simp; (try with_reducible rfl)))
 (try simp only [Act.put, sA, sB, sC])
 refine wpList_q (by rfl) (.slice A n c) ?he ?_
 case he => (first | rfl | (go_simp; (try with_reducible rfl)))
 (try simp only [Act.put, sA, sB, sC])
 refine wpList_wp (by rfl) (fun K hK => ?_)
 refine wp_copy_b (.tmp 7) (.tmp 8) 55 55 5 rfl Try.underlying55 (by kernel_rfl) rfl rfl HBD2.out HSZ.out HFv2.out ?_
 intro w3 hB hu
 refine hK.out _ _ ?_
 clear hK K
 (try simp only [Act.put, sA, sB, sC])
 have HS3 := Lib.hid (Since.upd HS2.out hu (fun x hx => by rw [List.mem_singleton.1 hx]; exact HGD.out))
 have HBD3 := Lib.hid hB; clear hB hu
 refine wpList_nil ?_
 go_upto_region 3 with fail
 refine wp_region_lit ?_
 refine wpList_q (by rfl) (.slice (some ⟨bD, 0, none⟩) n n) ?he ?_
 case he => (first | rfl | (go_simp; (try with_reducible rfl)))
 (try simp only [Act.put, sA, sB, sC])
 refine wpList_q (by rfl) (.slice (some ⟨bD, 0, none⟩) n n) ?he ?_
 case he => (first | rfl | (go_simp; (try with_reducible rfl)))
 (try simp only [Act.put, sA, sB, sC])
 refine wpList_nil ?_
 (try go_wp2_with fail)
 go_ret
 exact ⟨some ⟨bD, 0, none⟩, rfl, own_new HBD3.out HGD.out (by rw [cells, List.length_map]; exact HZL.out) HN.out, HS3.out⟩
set_option maxHeartbeats 4000000 in
theorem newT (ends room : Int) (w : World) : Calls Try.prog 22 #[.int .i64 ends, .int .i64 room] w fun e w' => ∃ q b, e = .returned (.pointer (some ⟨q, 0, none⟩)) ∧ NO w.heap.size q b ends room 0 (fun _ => none) [q, b] w' ∧ Since w w' := by
 go_enter Try.func22, Try.ntmps22
 go_upto_region 1 with fail
 have HS1 := Lib.hid (Since.refl w)
 refine wp_region_lit ?_
 refine wpList_q (by rfl) (.int .i64 ends) ?he ?_
 case he => (first | rfl | (go_simp; (try with_reducible rfl)))
 (try simp only [Act.put, sA, sB, sC])
 refine wpList_q (by rfl) (.int .i64 room) ?he ?_
 case he => (first | rfl | (go_simp; (try with_reducible rfl)))
 (try simp only [Act.put, sA, sB, sC])
 refine wpList_wp (by rfl) (fun K hK => ?_)
 refine wp_mapnew (P := Try.prog) (k := 3) 90 rfl ?_
 intro b w2 hge hM hb
 refine hK.out _ _ ?_
 clear hK K
 (try simp only [Act.put, sA, sB, sC])
 have HGM := Lib.hid (show w.heap.size ≤ b by have := HS1.out.size; omega)
 clear hge
 have HS2 := Lib.hid (Since.trans HS1.out hb)
 clear HS1 
 clear hb
 have HFM := Lib.hid hM; clear hM
 refine wpList_q (by rfl) (.agg #[.int .i64 ends, .int .i64 room, .map (some b)]) ?he ?_
 case he => kernel_rfl
 (try simp only [Act.put, sA, sB, sC])
 refine wpList_wp (by rfl) (fun K hK => ?_)
 refine wp_new (fun b => .pointer (some ⟨b, 0, none⟩)) 92 #[.int .i64 ends, .int .i64 room, .map (some b)] (by rintro b rfl; first | rfl | kernel_rfl) ?_
 intro bn9 w3 hge hB hb
 refine hK.out _ _ ?_
 clear hK K
 (try simp only [Act.put, sA, sB, sC])
 have HGn9 := Lib.hid (show w.heap.size ≤ bn9 by have := Since.size HS2.out; omega)
 have HIn9_M := Lib.hid (MapFS.far HFM.out hge)
 have HS3 := Lib.hid (Since.trans HS2.out hb)
 have HFM3 := Lib.hid (MapFS.keep hb HFM.out)
 clear HS2 HFM
 clear hb hge
 have HBn93 := Lib.hid hB
 clear hB
 refine wpList_q (by rfl) (.pointer (some ⟨bn9, 0, none⟩)) ?he ?_
 case he => (first | rfl | (go_simp; (try with_reducible rfl)))
 (try simp only [Act.put, sA, sB, sC])
 refine wpList_nil ?_
 (try go_wp2_with fail)
 go_ret
 refine ⟨bn9, b, rfl, ⟨⟨by simp, by simp, fun g hg => ?_, fun x W hx => (by cases hx)⟩, HBn93.out, HFM3.out, ways0, apart0⟩, HS3.out⟩
 rcases List.mem_cons.1 hg with rfl | hg
 · exact ⟨HGn9.out, Blk.lt HBn93.out⟩
 · rw [List.mem_singleton.1 hg]
   exact ⟨HGM.out, MapF.lt HFM3.out⟩
set_option maxHeartbeats 4000000 in
theorem lenNil (x : Int) (w : World) : Calls Try.prog 27 #[.pointer none, .int .i64 x] w fun e w' => e = .returned (.int .i64 0) ∧ w = w' := by
 go_enter Try.func27, Try.ntmps27
 go_upto_region 1 with fail
 have HS1 := Lib.hid (Since.refl w)
 refine wp_region_lit ?_
 refine wpList_q (by rfl) (.pointer none) ?he ?_
 case he => (first | rfl | (go_simp; (try with_reducible rfl)))
 (try simp only [Act.put, sA, sB, sC])
 refine wpList_q (by rfl) (.bool true) ?he ?_
 case he => (first | rfl | (go_simp; (try with_reducible rfl)))
 (try simp only [Act.put, sA, sB, sC])
 refine wpList_nil ?_
 go_upto_region 2 with fail
 refine wp_region_lit ?_
 refine wpList_q (by rfl) (.int .i64 0) ?he ?_
 case he => (first | rfl | (go_simp; (try with_reducible rfl)))
 (try simp only [Act.put, sA, sB, sC])
 refine wpList_nil ?_
 (try go_wp2_with fail)
 go_ret
 exact ⟨rfl, rfl⟩
set_option maxHeartbeats 4000000 in
theorem lenA (q b : Nat) (ends room : Int) (N : Nat) (m : Int → Option Value) (x : Int) (r : Option Value) (A : Option Addr) (n c : Nat) (w : World) (hq : Blk w q 92 #[.int .i64 ends, .int .i64 room, .map (some b)]) (hm : MapF Try.prog 3 w b N m) (hx : (Lit.int .i64 x).wf = true) (hr : m x = r) (hv : r.getD (.slice none 0 0) = .slice A n c) : Calls Try.prog 27 #[.pointer (some ⟨q, 0, none⟩), .int .i64 x] w fun e w' => e = .returned (.int .i64 (n : Int)) ∧ w = w' := by
 have HQ := Lib.hid hq
 clear hq
 have HM := Lib.hid hm
 clear hm
 have HX := Lib.hid hx
 clear hx
 have HR := Lib.hid hr
 clear hr
 have HV := Lib.hid hv
 clear hv
 go_enter Try.func27, Try.ntmps27
 go_upto_region 1 with fail
 have HS1 := Lib.hid (Since.refl w)
 refine wp_region_lit ?_
 refine wpList_q (by rfl) (.pointer (some ⟨q, 0, none⟩)) ?he ?_
 case he => (first | rfl | (go_simp; (try with_reducible rfl)))
 (try simp only [Act.put, sA, sB, sC])
 refine wpList_q (by rfl) (.bool false) ?he ?_
 case he => (first | rfl | (go_simp; (try with_reducible rfl)))
 (try simp only [Act.put, sA, sB, sC])
 refine wpList_nil ?_
 go_upto_region 3 with fail
 refine wp_region_lit ?_
 refine wpList_q (by rfl) (.pointer (some ⟨q, 0, none⟩)) ?he ?_
 case he => (first | rfl | (go_simp; (try with_reducible rfl)))
 (try simp only [Act.put, sA, sB, sC])
 refine wpList_q (by rfl) (.pointer (some ⟨q, 0, none⟩)) ?he ?_
 case he => (first | rfl | (go_simp; (try with_reducible rfl)))
 (try simp only [Act.put, sA, sB, sC])
 refine wpList_q (by rfl) (.pointer (some ⟨q, 2, none⟩)) ?he ?_
 case he => (first | rfl | (go_simp; (try with_reducible rfl)))
 (try simp only [Act.put, sA, sB, sC])
 refine wpList_q (by rfl) (.map (some b)) ?he ?_
 case he => exact exec_cell 90 _ _ HQ.out rfl rfl rfl Try.underlying90 rfl
 (try simp only [Act.put, sA, sB, sC])
 refine wpList_q (by rfl) (.int .i64 x) ?he ?_
 case he => (first | rfl | (go_simp; (try with_reducible rfl)))
 (try simp only [Act.put, sA, sB, sC])
 refine wpList_q (by rfl) (.slice A n c) ?he ?_
 case he => exact exec_look (k := 3) (e := 93) _ _ 90 rfl Try.underlying3 Try.underlying90 (z := .slice none 0 0) zero_row HM.out rfl rfl HX.out (by rw [HR.out]; exact HV.out)
 (try simp only [Act.put, sA, sB, sC])
 refine wpList_q (by rfl) (.int .i64 (n : Int)) ?he ?_
 case he => (first | rfl | (go_simp; (try with_reducible rfl)))
 (try simp only [Act.put, sA, sB, sC])
 refine wpList_q (by rfl) (.int .i64 (n : Int)) ?he ?_
 case he => (first | rfl | (go_simp; (try with_reducible rfl)))
 (try simp only [Act.put, sA, sB, sC])
 refine wpList_nil ?_
 (try go_wp2_with fail)
 go_ret
 exact ⟨rfl, rfl⟩
theorem lenT (q b : Nat) (ends room : Int) (N : Nat) (ws : Int → Option WayV) (x : Int) (w : World) (hq : Blk w q 92 #[.int .i64 ends, .int .i64 room, .map (some b)]) (hm : MapF Try.prog 3 w b N (fun x => (ws x).map wayv)) (hx : (Lit.int .i64 x).wf = true) : Calls Try.prog 27 #[.pointer (some ⟨q, 0, none⟩), .int .i64 x] w fun e w' => e = .returned (.int .i64 (lenW ws x : Int)) ∧ w = w' := by
  unfold lenW
  cases h : ws x with
  | none => exact lenA q b ends room N _ x none none 0 0 w hq hm hx (by show (ws x).map wayv = _; rw [h]; rfl) rfl
  | some W => exact lenA q b ends room N _ x (some (wayv W)) _ _ _ w hq hm hx (by show (ws x).map wayv = _; rw [h]; rfl) rfl
set_option maxHeartbeats 4000000 in
theorem hasNeg (p : Value) (x k : Int) (w : World) (hk : ¬ 0 ≤ k) : Calls Try.prog 45 #[p, .int .i64 x, .int .i64 k] w fun e w' => e = .returned (.bool false) ∧ w = w' := by
 have HK := Lib.hid hk
 clear hk
 go_enter Try.func45, Try.ntmps45
 go_upto_region 1 with fail
 have HS1 := Lib.hid (Since.refl w)
 refine wp_region_lit ?_
 refine wpList_q (by rfl) (.int .i64 k) ?he ?_
 case he => (first | rfl | (go_simp; (try with_reducible rfl)))
 (try simp only [Act.put, sA, sB, sC])
 refine wpList_q (by rfl) (.bool false) ?he ?_
 case he => (have q0 := HK.out; go_simp; (first | done | rfl | omega))
 (try simp only [Act.put, sA, sB, sC])
 refine wpList_q (by rfl) (.bool false) ?he ?_
 case he => (first | rfl | (go_simp; (try with_reducible rfl)))
 (try simp only [Act.put, sA, sB, sC])
 refine wpList_no (by rfl) ?_
 (try simp only [Act.put, sA, sB, sC])
 refine wpList_no (by rfl) ?_
 (try simp only [Act.put, sA, sB, sC])
 refine wpList_no (by rfl) ?_
 (try simp only [Act.put, sA, sB, sC])
 refine wpList_no (by rfl) ?_
 (try simp only [Act.put, sA, sB, sC])
 refine wpList_no (by rfl) ?_
 (try simp only [Act.put, sA, sB, sC])
 refine wpList_q (by rfl) (.bool false) ?he ?_
 case he => (first | rfl | (go_simp; (try with_reducible rfl)))
 (try simp only [Act.put, sA, sB, sC])
 refine wpList_q (by rfl) (.bool false) ?he ?_
 case he => (first | rfl | (go_simp; (try with_reducible rfl)))
 (try simp only [Act.put, sA, sB, sC])
 refine wpList_nil ?_
 (try go_wp2_with fail)
 go_ret
 exact ⟨rfl, rfl⟩
set_option maxHeartbeats 4000000 in
theorem hasNilP (x k : Int) (w : World) (hk : 0 ≤ k) : Calls Try.prog 45 #[.pointer none, .int .i64 x, .int .i64 k] w fun e w' => e = .returned (.bool false) ∧ w = w' := by
 have HK := Lib.hid hk
 clear hk
 go_enter Try.func45, Try.ntmps45
 go_upto_region 1 with fail
 have HS1 := Lib.hid (Since.refl w)
 refine wp_region_lit ?_
 refine wpList_q (by rfl) (.int .i64 k) ?he ?_
 case he => (first | rfl | (go_simp; (try with_reducible rfl)))
 (try simp only [Act.put, sA, sB, sC])
 refine wpList_q (by rfl) (.bool true) ?he ?_
 case he => (have q0 := HK.out; go_simp; (first | done | rfl | omega))
 (try simp only [Act.put, sA, sB, sC])
 refine wpList_q (by rfl) (.bool true) ?he ?_
 case he => (first | rfl | (go_simp; (try with_reducible rfl)))
 (try simp only [Act.put, sA, sB, sC])
 refine wpList_q (by rfl) (.int .i64 k) ?he ?_
 case he => (first | rfl | (go_simp; (try with_reducible rfl)))
 (try simp only [Act.put, sA, sB, sC])
 refine wpList_q (by rfl) (.pointer none) ?he ?_
 case he => (first | rfl | (go_simp; (try with_reducible rfl)))
 (try simp only [Act.put, sA, sB, sC])
 refine wpList_q (by rfl) (.int .i64 x) ?he ?_
 case he => (first | rfl | (go_simp; (try with_reducible rfl)))
 (try simp only [Act.put, sA, sB, sC])
 refine wpList_wp (by rfl) (fun K hK => ?_)
 (try go_simp)
 refine (lenNil x _).mono ?_
 rintro e w' ⟨rfl, rfl⟩
 (try go_wp2_with fail)
 refine hK.out _ _ ?_
 clear hK K
 (try simp only [Act.put, sA, sB, sC])
 refine wpList_q (by rfl) (.bool false) ?he ?_
 case he => (have q0 := HK.out; go_simp; (first | done | rfl | omega))
 (try simp only [Act.put, sA, sB, sC])
 refine wpList_q (by rfl) (.bool false) ?he ?_
 case he => (first | rfl | (go_simp; (try with_reducible rfl)))
 (try simp only [Act.put, sA, sB, sC])
 refine wpList_q (by rfl) (.bool false) ?he ?_
 case he => (first | rfl | (go_simp; (try with_reducible rfl)))
 (try simp only [Act.put, sA, sB, sC])
 refine wpList_nil ?_
 (try go_wp2_with fail)
 go_ret
 exact ⟨rfl, rfl⟩
set_option maxHeartbeats 4000000 in
theorem hasLt (q b : Nat) (ends room : Int) (N : Nat) (ws : Int → Option WayV) (x : Int) (k : Int) (w : World) (hq : Blk w q 92 #[.int .i64 ends, .int .i64 room, .map (some b)]) (hm : MapF Try.prog 3 w b N (fun x => (ws x).map wayv)) (hx : (Lit.int .i64 x).wf = true) (hk : 0 ≤ k) (hl : k < (lenW ws x : Int)) : Calls Try.prog 45 #[.pointer (some ⟨q, 0, none⟩), .int .i64 x, .int .i64 k] w fun e w' => e = .returned (.bool true) ∧ w = w' := by
 have HQ := Lib.hid hq
 clear hq
 have HM := Lib.hid hm
 clear hm
 have HX := Lib.hid hx
 clear hx
 have HK := Lib.hid hk
 clear hk
 have HL := Lib.hid hl
 clear hl
 go_enter Try.func45, Try.ntmps45
 go_upto_region 1 with fail
 have HS1 := Lib.hid (Since.refl w)
 refine wp_region_lit ?_
 refine wpList_q (by rfl) (.int .i64 k) ?he ?_
 case he => (first | rfl | (go_simp; (try with_reducible rfl)))
 (try simp only [Act.put, sA, sB, sC])
 refine wpList_q (by rfl) (.bool true) ?he ?_
 case he => (have q0 := HK.out; go_simp; (first | done | rfl | omega))
 (try simp only [Act.put, sA, sB, sC])
 refine wpList_q (by rfl) (.bool true) ?he ?_
 case he => (first | rfl | (go_simp; (try with_reducible rfl)))
 (try simp only [Act.put, sA, sB, sC])
 refine wpList_q (by rfl) (.int .i64 k) ?he ?_
 case he => (first | rfl | (go_simp; (try with_reducible rfl)))
 (try simp only [Act.put, sA, sB, sC])
 refine wpList_q (by rfl) (.pointer (some ⟨q, 0, none⟩)) ?he ?_
 case he => (first | rfl | (go_simp; (try with_reducible rfl)))
 (try simp only [Act.put, sA, sB, sC])
 refine wpList_q (by rfl) (.int .i64 x) ?he ?_
 case he => (first | rfl | (go_simp; (try with_reducible rfl)))
 (try simp only [Act.put, sA, sB, sC])
 refine wpList_wp (by rfl) (fun K hK => ?_)
 (try go_simp)
 refine (lenT q b ends room N ws x _ HQ.out HM.out HX.out).mono ?_
 rintro e w' ⟨rfl, rfl⟩
 (try go_wp2_with fail)
 refine hK.out _ _ ?_
 clear hK K
 (try simp only [Act.put, sA, sB, sC])
 refine wpList_q (by rfl) (.bool true) ?he ?_
 case he => (have q0 := HL.out; go_simp; (first | done | rfl | omega))
 (try simp only [Act.put, sA, sB, sC])
 refine wpList_q (by rfl) (.bool true) ?he ?_
 case he => (first | rfl | (go_simp; (try with_reducible rfl)))
 (try simp only [Act.put, sA, sB, sC])
 refine wpList_q (by rfl) (.bool true) ?he ?_
 case he => (first | rfl | (go_simp; (try with_reducible rfl)))
 (try simp only [Act.put, sA, sB, sC])
 refine wpList_nil ?_
 (try go_wp2_with fail)
 go_ret
 exact ⟨rfl, rfl⟩
set_option maxHeartbeats 4000000 in
theorem hasGe (q b : Nat) (ends room : Int) (N : Nat) (ws : Int → Option WayV) (x : Int) (k : Int) (w : World) (hq : Blk w q 92 #[.int .i64 ends, .int .i64 room, .map (some b)]) (hm : MapF Try.prog 3 w b N (fun x => (ws x).map wayv)) (hx : (Lit.int .i64 x).wf = true) (hk : 0 ≤ k) (hl : ¬ k < (lenW ws x : Int)) : Calls Try.prog 45 #[.pointer (some ⟨q, 0, none⟩), .int .i64 x, .int .i64 k] w fun e w' => e = .returned (.bool false) ∧ w = w' := by
 have HQ := Lib.hid hq
 clear hq
 have HM := Lib.hid hm
 clear hm
 have HX := Lib.hid hx
 clear hx
 have HK := Lib.hid hk
 clear hk
 have HL := Lib.hid hl
 clear hl
 go_enter Try.func45, Try.ntmps45
 go_upto_region 1 with fail
 have HS1 := Lib.hid (Since.refl w)
 refine wp_region_lit ?_
 refine wpList_q (by rfl) (.int .i64 k) ?he ?_
 case he => (first | rfl | (go_simp; (try with_reducible rfl)))
 (try simp only [Act.put, sA, sB, sC])
 refine wpList_q (by rfl) (.bool true) ?he ?_
 case he => (have q0 := HK.out; go_simp; (first | done | rfl | omega))
 (try simp only [Act.put, sA, sB, sC])
 refine wpList_q (by rfl) (.bool true) ?he ?_
 case he => (first | rfl | (go_simp; (try with_reducible rfl)))
 (try simp only [Act.put, sA, sB, sC])
 refine wpList_q (by rfl) (.int .i64 k) ?he ?_
 case he => (first | rfl | (go_simp; (try with_reducible rfl)))
 (try simp only [Act.put, sA, sB, sC])
 refine wpList_q (by rfl) (.pointer (some ⟨q, 0, none⟩)) ?he ?_
 case he => (first | rfl | (go_simp; (try with_reducible rfl)))
 (try simp only [Act.put, sA, sB, sC])
 refine wpList_q (by rfl) (.int .i64 x) ?he ?_
 case he => (first | rfl | (go_simp; (try with_reducible rfl)))
 (try simp only [Act.put, sA, sB, sC])
 refine wpList_wp (by rfl) (fun K hK => ?_)
 (try go_simp)
 refine (lenT q b ends room N ws x _ HQ.out HM.out HX.out).mono ?_
 rintro e w' ⟨rfl, rfl⟩
 (try go_wp2_with fail)
 refine hK.out _ _ ?_
 clear hK K
 (try simp only [Act.put, sA, sB, sC])
 refine wpList_q (by rfl) (.bool false) ?he ?_
 case he => (have q0 := HL.out; go_simp; (first | done | rfl | omega))
 (try simp only [Act.put, sA, sB, sC])
 refine wpList_q (by rfl) (.bool false) ?he ?_
 case he => (first | rfl | (go_simp; (try with_reducible rfl)))
 (try simp only [Act.put, sA, sB, sC])
 refine wpList_q (by rfl) (.bool false) ?he ?_
 case he => (first | rfl | (go_simp; (try with_reducible rfl)))
 (try simp only [Act.put, sA, sB, sC])
 refine wpList_nil ?_
 (try go_wp2_with fail)
 go_ret
 exact ⟨rfl, rfl⟩
theorem hasNil (x k : Int) (w : World) : Calls Try.prog 45 #[.pointer none, .int .i64 x, .int .i64 k] w fun e w' => e = .returned (.bool false) ∧ w = w' := by
  by_cases h : 0 ≤ k
  · exact hasNilP x k w h
  · exact hasNeg _ x k w h
theorem hasT (q b : Nat) (ends room : Int) (N : Nat) (ws : Int → Option WayV) (x : Int) (k : Int) (w : World) (hq : Blk w q 92 #[.int .i64 ends, .int .i64 room, .map (some b)]) (hm : MapF Try.prog 3 w b N (fun x => (ws x).map wayv)) (hx : (Lit.int .i64 x).wf = true) : Calls Try.prog 45 #[.pointer (some ⟨q, 0, none⟩), .int .i64 x, .int .i64 k] w fun e w' => e = .returned (.bool (hasB ws x k)) ∧ w = w' := by
  unfold hasB
  by_cases h : 0 ≤ k
  · by_cases h2 : k < (lenW ws x : Int)
    · rw [decide_eq_true ⟨h, h2⟩]; exact hasLt q b ends room N ws x k w hq hm hx h h2
    · rw [decide_eq_false (fun hh => h2 hh.2)]; exact hasGe q b ends room N ws x k w hq hm hx h h2
  · rw [decide_eq_false (fun hh => h hh.1)]; exact hasNeg _ x k w h
end Go.Proofs.Ytlihhjcneedgnaa.Nt
