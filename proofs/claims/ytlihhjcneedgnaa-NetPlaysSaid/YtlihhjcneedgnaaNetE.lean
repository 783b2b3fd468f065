/-
  layer 7's answers; NetNone: walked.
  Conditions: what stands ahead of each.
-/
import Derived.Test.YtlihhjcneedgnaaProg
import Derived.Test.YtlihhjcneedgnaaShort
import Derived.Test.YtlihhjcneedgnaaNetD
import Derived.Test.YtlihhjcneedgnaaCut
import Derived.Lib.SlBytesConst
namespace Go.Proofs.Ytlihhjcneedgnaa.Nt
set_option linter.unusedVariables false
set_option linter.unusedSimpArgs false
open Go.RowKit Go.Proofs.Ytlihhjcneedgnaa.Ba Go.Proofs.Ytlihhjcneedgnaa.Mem
open Go.Proofs.Ytlihhjcneedgnaa.Byt (BV isB cells)
open Go.Proofs.Ytlihhjcneedgnaa.Mp (MapF setK exec_look wp_mapput wp_mapdel wp_mapnew)
set_option maxRecDepth 100000
attribute [local irreducible] Go.wpList
def cN (l : List (List Int)) : Int → List (List Int) := fun y => if y = 0 then l else []
theorem cN0 {l : List (List Int)} : cN l 0 = l := if_pos rfl
theorem cN_put {l : List (List Int)} {z : List Int} : putC (cN l) true 0 z = cN (l ++ [z]) := by
  funext y; unfold putC cN
  by_cases h : y = 0
  · rw [if_pos ⟨rfl, h⟩, if_pos rfl, if_pos h]
  · rw [if_neg (fun hh => h hh.2), if_neg h, if_neg h]
theorem cN_del {l : List (List Int)} {k : Nat} : delC (cN l) 0 k = cN (l.eraseIdx k) := by
  funext y; unfold delC cN
  by_cases h : y = 0
  · rw [if_pos h, if_pos rfl, if_pos h]
  · rw [if_neg h, if_neg h, if_neg h]
theorem cN_nil : (fun _ => [] : Int → List (List Int)) = cN [] := by
  funext y; unfold cN; split <;> rfl
theorem zero_wf : (Lit.int .i64 0).wf = true := by decide
def u8c (z : Int) : List Value := [.int .u8 z]
theorem u8c_len (z : Int) : (u8c z).length = 1 := rfl
theorem cells_rows (zs : List Int) : cells zs = rowsOf u8c zs := by
  induction zs with
  | nil => rfl
  | cons a l ih => rw [rowsOf_cons, ← ih]; rfl
theorem bv_lit (w : World) (e : TypeId) (fz : Nat × Nat) (zs : List Int) (n : Nat) (hn : zs.length = n) (h1 : n ≤ 1000000) (hB : ∀ z ∈ zs, isB z) : BV (w.alloc (.cells (cells zs).toArray e fz)) (some ⟨w.heap.size, 0, none⟩) n zs := by
  refine ⟨hn, by omega, hB, .inr ⟨w.heap.size, 0, rfl, by simp, fun j hj => ?_⟩⟩
  have h := cell_of_row (w.alloc (.cells (cells zs).toArray e fz)) w.heap.size (0 + j) _ _ _ (heap_alloc_new w _)
  rw [h, Nat.zero_add]
  simpa using Go.Proofs.Ytlihhjcneedgnaa.Byt.cells_at zs j (by omega)
theorem byte_at {w : World} {lo g n c i : Nat} {zs : List Int} (h : w.ownsRow lo 5 1 (.slice (some ⟨g, 0, none⟩) n c) n (cells zs)) (hi : i < zs.length) : w.cell? ⟨g, 0 + i * 1, none⟩ = some (.int .u8 (zs.getD i 0)) := by
  have q := own_rng h (i := i * 1) (m := 1) (l := [.int .u8 (zs.getD i 0)]) (by rw [cells_rows, rowsOf_at u8c_len hi]; simp [u8c, List.getD, hi]) 0 _ rfl
  rw [Nat.zero_add]; exact q
theorem wp_put_byte {P : Program} {o : Oper} {a : Act} {w : World} {K : Act → World → Prop} {Q : Exit → Act → World → Prop} (ty : TypeId) (x y : Operand) (ho : o.op = .store ty x y) {lo g n c i : Nat} {e : TypeId} {zs : List Int} (hown : w.ownsRow lo e 1 (.slice (some ⟨g, 0, none⟩) n c) n (cells zs)) (hi : i < zs.length) (z : Int) (hx : a.eval x = .pointer (some ⟨g, 0 + i * 1, none⟩)) (hy : a.eval y = .int .u8 z) (hinf : (P.info? ty).map (·.size) = some 1)
    (h : ∀ w', w'.ownsRow lo e 1 (.slice (some ⟨g, 0, none⟩) n c) n (cells (zs.set i z)) → Upd [g] w w' → K (a.put o.dst undef) w') : o.wp P a w K Q := by
  rw [cells_rows] at hown
  obtain ⟨cur, B, hfit, hnew⟩ := own_set u8c_len (by decide) hown hi z
  rw [Nat.zero_add] at hx
  refine wp_st_cell ty x y ho (putAt cur (i * 1) (u8c z)) (.int .u8 z) hx hy B (by omega) rfl rfl hinf ?_
  rintro w' rfl
  exact h _ (by rw [cells_rows]; exact hnew) ((Upd.refl _ w).setRow (.inl (by simp)) _)
theorem NC.base {lo lo' q N : Nat} {ends room : Int} {c : Int → List (List Int)} {S : List Nat} {w : World} (h : NC lo q ends room N c S w) (hl : lo' ≤ lo) : NC lo' q ends room N c S w := by
  obtain ⟨b, ws, h, hc⟩ := h
  exact ⟨b, ws, ⟨⟨h.1.1, h.1.2.1, fun g hg => ⟨Nat.le_trans hl (h.1.2.2.1 g hg).1, (h.1.2.2.1 g hg).2⟩, h.1.2.2.2⟩, h.2.1, h.2.2.1, fun x W hx => ⟨(h.2.2.2.1 x W hx).1, own_base (h.2.2.2.1 x W hx).2.1 hl, fun s hs => ⟨own_base ((h.2.2.2.1 x W hx).2.2 s hs).1 hl, ((h.2.2.2.1 x W hx).2.2 s hs).2⟩⟩, h.2.2.2.2⟩, hc⟩
theorem putV (lo q : Nat) (room : Int) (N : Nat) (l : List (List Int)) (S : List Nat) (A0 : Option Addr) (n0 c0 : Nat) (zs : List Int) (w : World) (h : NC lo q 1 room N (cN l) S w) (hr : (l.length : Int) < room) (hl : l.length ≤ 100) (hb : BV w A0 n0 zs) (hn : n0 ≤ 1000000) (hN : N < 1000000) (hlo : lo ≤ w.heap.size) (hd : ∀ g ∈ blkOf A0, g ∉ S) :
    Calls Try.prog 23 #[.pointer (some ⟨q, 0, none⟩), .int .i64 0, .slice A0 n0 c0] w fun e w' => ∃ S', e = .returned (.bool true) ∧ NC lo q 1 room (N + 1) (cN (l ++ [zs])) S' w' ∧ Upd S w w' ∧ ∀ g ∈ S', g ∈ S ∨ w.heap.size ≤ g := by
  have e : okP (cN l) 1 room 0 = true := decide_eq_true ⟨by decide, by decide, by rw [cN0]; exact hr⟩
  have q := putCT lo q 1 room N (cN l) S 0 A0 n0 c0 zs w h zero_wf (by rw [cN0]; omega) hb hn hN hlo hd
  rw [e, cN_put] at q
  exact q
theorem twinV (lo q : Nat) (room : Int) (N : Nat) (z : List Int) (l : List (List Int)) (S : List Nat) (w : World) (h : NC lo q 1 room N (cN (z :: l)) S w) (hl : l.length < 100) (hN : N < 1000000) (hlo : lo ≤ w.heap.size) (b : Bool) (l2 : List (List Int)) (hb : decide ((l.length + 1 : Int) < room) = b) (h2 : l2 = if b = true then z :: l ++ [z] else z :: l) :
    Calls Try.prog 26 #[.pointer (some ⟨q, 0, none⟩), .int .i64 0, .int .i64 0] w fun e w' => ∃ S', e = .returned (.bool b) ∧ NC lo q 1 room (N + 1) (cN l2) S' w' ∧ Upd S w w' ∧ ∀ g ∈ S', g ∈ S ∨ w.heap.size ≤ g := by
  have e : okP (cN (z :: l)) 1 room 0 = b := by
    rw [← hb]; unfold okP
    rw [cN0]
    exact decide_eq_decide.2 ⟨fun hh => by have := hh.2.2; simpa using this, fun hh => ⟨by decide, by decide, by simpa using hh⟩⟩
  have q := twinCT lo q 1 room N (cN (z :: l)) S 0 0 w h zero_wf (by rw [cN0, List.length_cons]; omega) (by rw [cN0]; simp) hN hlo
  have e2 : (cN (z :: l) 0).getD 0 [] = z := by rw [cN0]; rfl
  have e3 : putC (cN (z :: l)) b 0 z = cN l2 := by
    subst h2
    cases b
    · rw [putC_f]; rfl
    · rw [cN_put]; rfl
  rw [e, e2, e3] at q
  exact q
theorem takeV (lo q : Nat) (room : Int) (N : Nat) (z : List Int) (l : List (List Int)) (S : List Nat) (w : World) (h : NC lo q 1 room N (cN (z :: l)) S w) (hl : l.length < 100) (hN : N < 1000000) :
    Calls Try.prog 24 #[.pointer (some ⟨q, 0, none⟩), .int .i64 0, .int .i64 0] w fun e w' => ∃ A n c' S', e = .returned (.tuple #[.slice A n c', .bool true]) ∧ NC lo q 1 room (N + 1) (cN l) S' w' ∧ ItAt lo w' ⟨A, n, c', z⟩ ∧ (∀ g ∈ blkOf A, g ∉ S') ∧ (∀ g ∈ S', g ∈ S) ∧ Upd S w w' := by
  have q := takeCT lo q 1 room N (cN (z :: l)) S 0 0 w h zero_wf (by rw [cN0, List.length_cons]; omega) (by rw [cN0]; simp) hN
  have e2 : (cN (z :: l) 0).getD 0 [] = z := by rw [cN0]; rfl
  rw [e2, cN_del] at q
  exact q
theorem loseV (lo q : Nat) (room : Int) (N : Nat) (z : List Int) (l : List (List Int)) (S : List Nat) (w : World) (h : NC lo q 1 room N (cN (z :: l)) S w) (hl : l.length < 100) (hN : N < 1000000) :
    Calls Try.prog 25 #[.pointer (some ⟨q, 0, none⟩), .int .i64 0, .int .i64 0] w fun e w' => ∃ S', e = .returned (.bool true) ∧ NC lo q 1 room (N + 1) (cN l) S' w' ∧ Upd S w w' ∧ ∀ g ∈ S', g ∈ S ∨ w.heap.size ≤ g := by
  have q := loseCT lo q 1 room N (cN (z :: l)) S 0 0 w h zero_wf (by rw [cN0, List.length_cons]; omega) (by rw [cN0]; simp) hN
  rw [cN_del] at q
  exact q.mono (fun e w1 hh => ⟨S, hh.1, hh.2.1, hh.2.2, fun g hg => .inl hg⟩)
theorem lenV (lo q : Nat) (room : Int) (N : Nat) (l : List (List Int)) (S : List Nat) (w : World) (h : NC lo q 1 room N (cN l) S w) (n : Nat) (hn : l.length = n) :
    Calls Try.prog 27 #[.pointer (some ⟨q, 0, none⟩), .int .i64 0] w fun e w' => e = .returned (.int .i64 (n : Int)) ∧ w = w' := by
  have q := lenC lo q 1 room N (cN l) S 0 w h zero_wf
  rw [cN0, hn] at q
  exact q
set_option maxHeartbeats 4000000 in
theorem ans (w : World) : Calls Try.prog 21 #[] w fun e w' => e = .returned (.bool true) ∧ Since w w' := by
 go_enter Try.func21, Try.ntmps21
 go_upto_region 1 with fail
 have HS1 := Lib.hid (Since.refl w)
 refine wp_region_lit ?_
 refine wpList_wp (by rfl) (fun K hK => ?_)
 (try go_simp)
 refine (newC 1 2 _).mono ?_
 rintro e w2 ⟨q1, S1, rfl, hobj, hb⟩
 (try go_wp2_with fail)
 refine hK.out _ _ ?_
 clear hK K
 (try simp only [Act.put, sA, sB, sC])
 have HGq := Lib.hid (NC.base hobj (Since.size HS1.out)); clear hobj; rw [cN_nil] at HGq
 have HS2 := Lib.hid (Since.trans HS1.out hb)
 clear HS1 
 clear hb
 refine tkL (.pointer (some ⟨q1, 0, none⟩)) (h := ?_)
 (try simp only [Act.put, sA, sB, sC])
 refine wpList_nil ?_
 go_upto_region 2 with fail
 refine wp_region_lit ?_
 refine tkL (.pointer (some ⟨q1, 0, none⟩)) (h := ?_)
 (try simp only [Act.put, sA, sB, sC])
 refine wpList_mk rfl (.slice (some ⟨w2.heap.size, 0, none⟩) 1 1) (w2.alloc (.cells #[.int .u8 120] 5)) ?he0 ?_
 case he0 => first | rfl | kernel_rfl | (go_simp; (try rfl))
 (try simp only [Act.put, sA, sB, sC])
 have kc := Lib.run_convert_bytes_const (P := Try.prog) w2 55 5 #[.int .u8 120] 1 1 Try.underlying55 Try.underlying5
 refine wpList_mk rfl (.slice (some ⟨w2.heap.size, 0, none⟩) 1 1) (w2.alloc (.cells #[.int .u8 120] 5 (1, 2))) ?he1 ?_
 case he1 => (unfold execOp; (first | (simp only [Sem.run_bind, Sem.run_pure, Result.andThen_ok]; exact congrArg _ kc) | (simp [kc, Act.eval]) | (go_simp; simp [kc])))
 clear kc
 (try simp only [Act.put, sA, sB, sC])
 obtain ⟨w3, hwl⟩ : ∃ w3, w3 = (w2.alloc (.cells #[.int .u8 120] 5 (1, 2))) := ⟨_, rfl⟩
 have HKX := Lib.hid (show Since w2 w3 by rw [hwl]; exact (Since.refl w2).alloc _)
 have HS3 := Lib.hid (Since.trans HS2.out HKX.out)
 have HFq3 := Lib.hid (NC.keep HKX.out HGq.out)
 have HBX := Lib.hid (show BV w3 (some ⟨w2.heap.size, 0, none⟩) 1 [120] by rw [hwl]; exact bv_lit w2 5 (1, 2) [120] 1 rfl (by decide) (by intro z hz; rw [List.mem_singleton.1 hz]; exact ⟨by decide, by decide⟩))
 have HNX := Lib.hid (NC.far HGq.out (Nat.le_refl _))
 rw [← hwl]
 clear hwl HKX HS2 HGq
 refine wpList_wp (by rfl) (fun K hK => ?_)
 (try go_simp)
 refine (putV w.heap.size q1 2 (0) ([]) S1 (some ⟨w2.heap.size, 0, none⟩) 1 _ ([120]) _ HFq3.out (by decide) (by decide) HBX.out (by decide) (by decide) (Since.size HS3.out) (fun g hg => by rw [show g = w2.heap.size by simpa [blkOf] using hg]; exact HNX.out)).mono ?_
 rintro e w4 ⟨Sq_1, rfl, hobj, hupd, hfar⟩
 (try go_wp2_with fail)
 refine hK.out _ _ ?_
 clear hK K
 (try simp only [Act.put, sA, sB, sC])
 have HS4 := Lib.hid (Since.upd HS3.out hupd (NC.low HFq3.out))
 have HFq4 := Lib.hid hobj
 clear hupd hobj hfar HS3 HFq3
 refine tkL (.bool true) (h := ?_)
 (try simp only [Act.put, sA, sB, sC])
 refine wpList_nil ?_
 go_upto_region 3 with fail
 refine wp_region_lit ?_
 refine tkL (.pointer (some ⟨q1, 0, none⟩)) (h := ?_)
 (try simp only [Act.put, sA, sB, sC])
 refine wpList_wp (by rfl) (fun K hK => ?_)
 (try go_simp)
 refine (twinV w.heap.size q1 2 (0 + 1) [120] [] Sq_1 _ HFq4.out (by simp) (by decide) (Since.size HS4.out) true ([[120], [120]]) (by decide) (by rfl)).mono ?_
 rintro e w5 ⟨Sq_2, rfl, hobj, hupd, hfar⟩
 (try go_wp2_with fail)
 refine hK.out _ _ ?_
 clear hK K
 (try simp only [Act.put, sA, sB, sC])
 have HS5 := Lib.hid (Since.upd HS4.out hupd (NC.low HFq4.out))
 have HFq5 := Lib.hid hobj
 clear hupd hobj hfar HS4 HFq4
 refine tkL (.bool true) (h := ?_)
 (try simp only [Act.put, sA, sB, sC])
 refine wpList_nil ?_
 go_upto_region 4 with fail
 refine wp_region_lit ?_
 refine tkL (.pointer (some ⟨q1, 0, none⟩)) (h := ?_)
 (try simp only [Act.put, sA, sB, sC])
 refine wpList_wp (by rfl) (fun K hK => ?_)
 (try go_simp)
 refine (twinV w.heap.size q1 2 (0 + 1 + 1) [120] [[120]] Sq_2 _ HFq5.out (by simp) (by decide) (Since.size HS5.out) false ([[120], [120]]) (by decide) (by rfl)).mono ?_
 rintro e w6 ⟨Sq_3, rfl, hobj, hupd, hfar⟩
 (try go_wp2_with fail)
 refine hK.out _ _ ?_
 clear hK K
 (try simp only [Act.put, sA, sB, sC])
 have HS6 := Lib.hid (Since.upd HS5.out hupd (NC.low HFq5.out))
 have HFq6 := Lib.hid hobj
 clear hupd hobj hfar HS5 HFq5
 refine tkL (.bool false) (h := ?_)
 (try simp only [Act.put, sA, sB, sC])
 refine wpList_nil ?_
 go_upto_region 5 with fail
 refine wp_region_lit ?_
 refine tkL (.pointer (some ⟨q1, 0, none⟩)) (h := ?_)
 (try simp only [Act.put, sA, sB, sC])
 refine wpList_wp (by rfl) (fun K hK => ?_)
 (try go_simp)
 refine (takeV w.heap.size q1 2 (0 + 1 + 1 + 1) [120] [[120]] Sq_3 _ HFq6.out (by simp) (by decide)).mono ?_
 rintro e w7 ⟨At, nt, ct, Sq_4, rfl, hobj, hit, hds, hsub, hupd⟩
 (try go_wp2_with fail)
 refine hK.out _ _ ?_
 clear hK K
 (try simp only [Act.put, sA, sB, sC])
 have hfar : ∀ x ∈ Sq_4, x ∈ Sq_3 ∨ w6.heap.size ≤ x := fun x h => .inl (hsub x h)
 clear hsub
 have HS7 := Lib.hid (Since.upd HS6.out hupd (NC.low HFq6.out))
 have HFq7 := Lib.hid hobj
 clear hupd hobj hfar HS6 HFq6
 have HITt := Lib.hid hit; have HDSt := Lib.hid hds; clear hit hds
 refine tkL (.tuple #[.slice At nt ct, .bool true]) (h := ?_)
 (try simp only [Act.put, sA, sB, sC])
 refine tkL (.slice At nt ct) (h := ?_)
 (try simp only [Act.put, sA, sB, sC])
 refine tkL (.bool true) (h := ?_)
 (try simp only [Act.put, sA, sB, sC])
 refine tkL (.slice At nt ct) (h := ?_)
 (try simp only [Act.put, sA, sB, sC])
 refine tkL (.bool true) (h := ?_)
 (try simp only [Act.put, sA, sB, sC])
 refine wpList_nil ?_
 go_upto_region 6 with fail
 refine wp_region_lit ?_
 refine tkL (.bool true) (h := ?_)
 (try simp only [Act.put, sA, sB, sC])
 refine tkL (.bool true) (h := ?_)
 (try simp only [Act.put, sA, sB, sC])
 refine tkL (.bool true) (h := ?_)
 (try simp only [Act.put, sA, sB, sC])
 refine tkL (.bool true) (h := ?_)
 (try simp only [Act.put, sA, sB, sC])
 refine tkL (.bool true) (h := ?_)
 (try simp only [Act.put, sA, sB, sC])
 refine tkL (.bool false) (h := ?_)
 (try simp only [Act.put, sA, sB, sC])
 refine wpList_q (by rfl) (.bool true) ?he ?_
 case he => (go_simp; (try with_reducible rfl))
 (try simp only [Act.put, sA, sB, sC])
 refine tkL (.bool true) (h := ?_)
 (try simp only [Act.put, sA, sB, sC])
 refine tkL (.bool true) (h := ?_)
 (try simp only [Act.put, sA, sB, sC])
 refine tkL (.bool true) (h := ?_)
 (try simp only [Act.put, sA, sB, sC])
 refine tkL (.bool true) (h := ?_)
 (try simp only [Act.put, sA, sB, sC])
 refine tkL (.bool true) (h := ?_)
 (try simp only [Act.put, sA, sB, sC])
 refine tkL (.slice At nt ct) (h := ?_)
 (try simp only [Act.put, sA, sB, sC])
 refine wpList_q (by rfl) (.string (strOfNums [120])) ?he ?_
 case he => exact exec_str 55 5 9 _ (BV.of_own HITt.out.1 HITt.out.2.1) rfl rfl Try.underlying55 Try.underlying5 Try.underlying9
 (try simp only [Act.put, sA, sB, sC])
 refine wpList_q (by rfl) (.bool true) ?he ?_
 case he => (first | rfl | kernel_rfl | (go_simp; decide))
 (try simp only [Act.put, sA, sB, sC])
 refine tkL (.bool true) (h := ?_)
 (try simp only [Act.put, sA, sB, sC])
 refine tkL (.bool true) (h := ?_)
 (try simp only [Act.put, sA, sB, sC])
 refine tkL (.pointer (some ⟨q1, 0, none⟩)) (h := ?_)
 (try simp only [Act.put, sA, sB, sC])
 refine wpList_wp (by rfl) (fun K hK => ?_)
 (try go_simp)
 refine (lenV w.heap.size q1 2 (0 + 1 + 1 + 1 + 1) ([[120]]) Sq_4 _ HFq7.out 1 rfl).mono ?_
 rintro e w' ⟨rfl, rfl⟩
 (try go_wp2_with fail)
 refine hK.out _ _ ?_
 clear hK K
 (try simp only [Act.put, sA, sB, sC])
 refine tkL (.bool true) (h := ?_)
 (try simp only [Act.put, sA, sB, sC])
 refine tkL (.bool true) (h := ?_)
 (try simp only [Act.put, sA, sB, sC])
 refine tkL (.bool true) (h := ?_)
 (try simp only [Act.put, sA, sB, sC])
 refine tkL (.pointer (some ⟨q1, 0, none⟩)) (h := ?_)
 (try simp only [Act.put, sA, sB, sC])
 refine wpList_wp (by rfl) (fun K hK => ?_)
 (try go_simp)
 refine (loseV w.heap.size q1 2 (0 + 1 + 1 + 1 + 1) [120] [] Sq_4 _ HFq7.out (by simp) (by decide)).mono ?_
 rintro e w8 ⟨Sq_5, rfl, hobj, hupd, hfar⟩
 (try go_wp2_with fail)
 refine hK.out _ _ ?_
 clear hK K
 (try simp only [Act.put, sA, sB, sC])
 have HS8 := Lib.hid (Since.upd HS7.out hupd (NC.low HFq7.out))
 have HFq8 := Lib.hid hobj
 clear hupd hobj hfar HS7 HFq7
 refine tkL (.bool true) (h := ?_)
 (try simp only [Act.put, sA, sB, sC])
 refine tkL (.bool true) (h := ?_)
 (try simp only [Act.put, sA, sB, sC])
 refine wpList_nil ?_
 (try go_wp2_with fail)
 go_ret
 exact ⟨rfl, HS8.out⟩
set_option maxHeartbeats 4000000 in
theorem noneLong (A : Option Addr) (m c : Nat) (zs : List Int) (x k : Int) (w : World) (hv : BV w A m zs) (h5 : 500 < m) : Calls Try.prog 7 #[.slice A m c, .int .i64 x, .int .i64 k] w fun e w' => e = .returned (.bool true) ∧ Since w w' := by
 have HV := Lib.hid hv
 clear hv
 have H5 := Lib.hid h5
 clear h5
 go_enter Try.func7, Try.ntmps7
 go_upto_region 1 with fail
 have HS1 := Lib.hid (Since.refl w)
 refine wp_region_lit ?_
 refine tkL (.slice A m c) (h := ?_)
 (try simp only [Act.put, sA, sB, sC])
 refine tkL (.int .i64 (m : Int)) (h := ?_)
 (try simp only [Act.put, sA, sB, sC])
 refine wpList_q (by rfl) (.bool true) ?he ?_
 case he => (have q0 := H5.out; go_simp; (first | done | rfl | omega))
 (try simp only [Act.put, sA, sB, sC])
 refine wpList_nil ?_
 go_upto_region 2 with fail
 refine wp_region_lit ?_
 refine wpList_wp (by rfl) (fun K hK => ?_)
 (try go_simp)
 refine (ans _).mono ?_
 rintro e w2 ⟨rfl, hb⟩
 (try go_wp2_with fail)
 refine hK.out _ _ ?_
 clear hK K
 (try simp only [Act.put, sA, sB, sC])
 have HS2 := Lib.hid (Since.trans HS1.out hb)
 clear HS1 
 clear hb
 refine tkL (.bool true) (h := ?_)
 (try simp only [Act.put, sA, sB, sC])
 refine wpList_nil ?_
 (try go_wp2_with fail)
 go_ret
 exact ⟨rfl, HS2.out⟩
set_option maxHeartbeats 4000000 in
theorem noneShort (A : Option Addr) (m c : Nat) (zs : List Int) (x k : Int) (w : World) (hv : BV w A m zs) (h5 : ¬ 500 < m) : Calls Try.prog 7 #[.slice A m c, .int .i64 x, .int .i64 k] w fun e w' => e = .returned (.bool true) ∧ Since w w' := by
 have HV := Lib.hid hv
 clear hv
 have H5 := Lib.hid h5
 clear h5
 go_enter Try.func7, Try.ntmps7
 go_upto_region 1 with fail
 have HS1 := Lib.hid (Since.refl w)
 refine wp_region_lit ?_
 refine tkL (.slice A m c) (h := ?_)
 (try simp only [Act.put, sA, sB, sC])
 refine tkL (.int .i64 (m : Int)) (h := ?_)
 (try simp only [Act.put, sA, sB, sC])
 refine wpList_q (by rfl) (.bool false) ?he ?_
 case he => (have q0 := H5.out; go_simp; (first | done | rfl | omega))
 (try simp only [Act.put, sA, sB, sC])
 refine wpList_nil ?_
 have HN1 := Lib.hid (show m ≤ 500 by have := H5.out; omega)
 have HZL := Lib.hid (show zs.length = m from HV.out.1)
 go_upto_region 3 with fail
 refine wp_region_lit ?_
 refine tkL (.pointer none) (h := ?_)
 (try simp only [Act.put, sA, sB, sC])
 refine wpList_nil ?_
 go_upto_region 4 with fail
 refine wp_region_lit ?_
 refine tkL (.pointer none) (h := ?_)
 (try simp only [Act.put, sA, sB, sC])
 refine tkL (.int .i64 x) (h := ?_)
 (try simp only [Act.put, sA, sB, sC])
 refine tkL (.int .i64 k) (h := ?_)
 (try simp only [Act.put, sA, sB, sC])
 refine wpList_wp (by rfl) (fun K hK => ?_)
 (try go_simp)
 refine (takeNil x k _).mono ?_
 rintro e w' ⟨rfl, rfl⟩
 (try go_wp2_with fail)
 refine hK.out _ _ ?_
 clear hK K
 (try simp only [Act.put, sA, sB, sC])
 refine tkL (.tuple #[.slice none 0 0, .bool false]) (h := ?_)
 (try simp only [Act.put, sA, sB, sC])
 refine tkL (.slice none 0 0) (h := ?_)
 (try simp only [Act.put, sA, sB, sC])
 refine tkL (.bool false) (h := ?_)
 (try simp only [Act.put, sA, sB, sC])
 refine tkL (.slice none 0 0) (h := ?_)
 (try simp only [Act.put, sA, sB, sC])
 refine tkL (.bool false) (h := ?_)
 (try simp only [Act.put, sA, sB, sC])
 refine wpList_nil ?_
 go_upto_region 5 with fail
 refine wp_region_lit ?_
 refine wpList_wp (by rfl) (fun K hK => ?_)
 (try go_simp)
 refine (newC 1 3 _).mono ?_
 rintro e w2 ⟨q1, S1, rfl, hobj, hb⟩
 (try go_wp2_with fail)
 refine hK.out _ _ ?_
 clear hK K
 (try simp only [Act.put, sA, sB, sC])
 have HGq := Lib.hid (NC.base hobj (Since.size HS1.out)); clear hobj; rw [cN_nil] at HGq
 have HS2 := Lib.hid (Since.trans HS1.out hb)
 clear HS1 
 clear hb
 refine tkL (.pointer (some ⟨q1, 0, none⟩)) (h := ?_)
 (try simp only [Act.put, sA, sB, sC])
 refine wpList_nil ?_
 go_upto_region 6 with fail
 refine wp_region_lit ?_
 refine wpList_wp (by rfl) (fun K hK => ?_)
 refine wp_new (fun b => .slice (some ⟨b, 0, none⟩) 0 0) 5 #[] (by rintro b rfl; first | rfl | kernel_rfl) ?_
 intro bn30 w3 hge hB hb
 refine hK.out _ _ ?_
 clear hK K
 (try simp only [Act.put, sA, sB, sC])
 have HGn30 := Lib.hid (show w.heap.size ≤ bn30 by have := Since.size HS2.out; omega)
 have HIn30_q := Lib.hid (NC.far HGq.out hge)
 have HS3 := Lib.hid (Since.trans HS2.out hb)
 have HFq3 := Lib.hid (NC.keep hb HGq.out)
 clear HS2 HGq
 clear hb hge
 have HBn303 := Lib.hid hB
 clear hB
 refine tkL (.slice A m c) (h := ?_)
 (try simp only [Act.put, sA, sB, sC])
 refine wpList_wp (by rfl) (fun K hK => ?_)
 have HOE := Lib.hid (own_empty (e := 5) (size := 1) HBn303.out HGn30.out)
 have HDQD := Lib.hid (show ∀ g ∈ S1, g ∉ blkOf (some ⟨bn30, 0, none⟩) from fun g hg h => HIn30_q.out (by rw [← show g = bn30 by simpa [blkOf] using h]; exact hg))
 clear HBn303
 refine wp_append_row (.tmp 30) (.tmp 31) 55 rfl w.heap.size 5 (.int .u8 0) 1 1 Try.underlying55 (by kernel_rfl) rfl (by decide) (by decide) (some ⟨bn30, 0, none⟩) 0 0 ([]) rfl HOE.out _ A m c (cells zs) rfl (BV.reads (keep_bv HS3.out HV.out)) (Go.Proofs.Ytlihhjcneedgnaa.Byt.cells_one zs) (by have := HN1.out; omega) HS3.out.size m (cells zs) (Nat.zero_add _) rfl ?_
 intro A_1 c_1 w4 hown hupd hfar
 refine hK.out _ _ ?_
 clear hK K
 (try simp only [Act.put, sA, sB, sC])
 have HS4 := Lib.hid (Since.upd HS3.out hupd (own_low HOE.out))
 have HFq4 := Lib.hid (NC.upd hupd HFq3.out HDQD.out)
 have HDDq_d_4 := Lib.hid (dis_next hfar HDQD.out (NC.lt HFq3.out))
 have HFd4 := Lib.hid hown
 clear hupd hown hfar HS3 HFq3 HOE
 refine tkL (.slice A_1 m c_1) (h := ?_)
 (try simp only [Act.put, sA, sB, sC])
 refine wpList_nil ?_
 have HZB := Lib.hid (show ∀ z ∈ zs, isB z from HV.out.2.2.1)
 go_upto_region 7 with fail
 refine wp_region_lit ?_
 refine tkL (.pointer (some ⟨q1, 0, none⟩)) (h := ?_)
 (try simp only [Act.put, sA, sB, sC])
 refine tkL (.slice A_1 m c_1) (h := ?_)
 (try simp only [Act.put, sA, sB, sC])
 refine wpList_wp (by rfl) (fun K hK => ?_)
 (try go_simp)
 refine (putV w.heap.size q1 3 (0) ([]) S1 A_1 m _ zs _ HFq4.out (by decide) (by decide) (BV.of_own HFd4.out HV.out.2.2.1) (by have := HN1.out; omega) (by decide) (Since.size HS4.out) (fun g hg h => HDDq_d_4.out g h hg)).mono ?_
 rintro e w5 ⟨Sq_2, rfl, hobj, hupd, hfar⟩
 (try go_wp2_with fail)
 refine hK.out _ _ ?_
 clear hK K
 (try simp only [Act.put, sA, sB, sC])
 have HS5 := Lib.hid (Since.upd HS4.out hupd (NC.low HFq4.out))
 have HFd5 := Lib.hid (Upd.own hupd HFd4.out (fun g hg h => HDDq_d_4.out g h hg))
 have HDDd_q_5 := Lib.hid (dis_next hfar (fun g hg h => HDDq_d_4.out g h hg) (own_lt HFd4.out))
 have HFq5 := Lib.hid hobj
 clear hupd hobj hfar HS4 HFq4 HFd4
 refine wpList_nil ?_
 go_upto_region 8 with fail
 refine wp_region_lit ?_
 refine tkL (.pointer (some ⟨q1, 0, none⟩)) (h := ?_)
 (try simp only [Act.put, sA, sB, sC])
 refine wpList_wp (by rfl) (fun K hK => ?_)
 (try go_simp)
 refine (twinV w.heap.size q1 3 (0 + 1) zs [] Sq_2 _ HFq5.out (by simp) (by decide) (Since.size HS5.out) true ([zs, zs]) (by decide) (by rfl)).mono ?_
 rintro e w6 ⟨Sq_3, rfl, hobj, hupd, hfar⟩
 (try go_wp2_with fail)
 refine hK.out _ _ ?_
 clear hK K
 (try simp only [Act.put, sA, sB, sC])
 have HS6 := Lib.hid (Since.upd HS5.out hupd (NC.low HFq5.out))
 have HFd6 := Lib.hid (Upd.own hupd HFd5.out HDDd_q_5.out)
 have HDDd_q_6 := Lib.hid (dis_next hfar HDDd_q_5.out (own_lt HFd5.out))
 have HFq6 := Lib.hid hobj
 clear hupd hobj hfar HS5 HFq5 HFd5
 refine wpList_nil ?_
 go_upto_region 9 with fail
 refine wp_region_lit ?_
 refine tkL (.int .i64 0) (h := ?_)
 (try simp only [Act.put, sA, sB, sC])
 refine wpList_nil ?_
 have HBd := Lib.hid (show m ≤ 1000000 by have := HN1.out; omega)
 go_wp2_with fail
 refine wp_uloop (ds := []) (fun n fr wr => ∃ (jd : Nat) (ys : List Int), (m - jd) = n ∧ Fits fr 118 [(0, .slice A m c), (1, .int .i64 x), (2, .int .i64 k), (6, .bool false), (7, .pointer none), (8, .slice none 0 0), (9, .bool false), (10, .pointer (some ⟨q1, 0, none⟩)), (11, .slice A_1 m c_1), (12, .int .i64 (jd : Int))] ∧ Hid (jd ≤ m ∧ ys.length = m ∧ Since w wr ∧ NC w.heap.size q1 1 3 (0 + 1 + 1) (cN ([zs, zs])) Sq_3 wr ∧ (wr).ownsRow w.heap.size 5 1 (.slice A_1 m c_1) m (cells ys))) (m - 0) ?start6 ?round6
 case start6 => exact ⟨0, zs, rfl, ⟨rfl, rfl, rfl, rfl, rfl, rfl, rfl, rfl, rfl, rfl, rfl, trivial⟩, Lib.hid ⟨Nat.zero_le _, HZL.out, HS6.out, HFq6.out, HFd6.out⟩⟩
 case round6 =>
  intro n fr wr hR J1 K1 hJ1 hK1
  clear HS6 HFq6 HFd6
  obtain ⟨jd, ys, hn, hF, HO⟩ := hR
  have HMd := Lib.hid hn; clear hn
  obtain ⟨e0, e1, g0, g1, g2⟩ := HO.out
  clear HO
  have HILd := Lib.hid e0
  have HYLd := Lib.hid e1
  have HS56 := Lib.hid g0
  have HFq56 := Lib.hid g1
  have HFd56 := Lib.hid g2
  clear e0 e1 g0 g1 g2
  obtain ⟨u, hu⟩ := hF.open_
  have hu2 := hu.trans (show _ = #[.slice A m c, .int .i64 x, .int .i64 k, u 3, u 4, u 5, .bool false, .pointer none, .slice none 0 0, .bool false, .pointer (some ⟨q1, 0, none⟩), .slice A_1 m c_1, .int .i64 (jd : Int), u 13, u 14, u 15, u 16, u 17, u 18, u 19, u 20, u 21, u 22, u 23, u 24, u 25, u 26, u 27, u 28, u 29, u 30, u 31, u 32, u 33, u 34, u 35, u 36, u 37, u 38, u 39, u 40, u 41, u 42, u 43, u 44, u 45, u 46, u 47, u 48, u 49, u 50, u 51, u 52, u 53, u 54, u 55, u 56, u 57, u 58, u 59, u 60, u 61, u 62, u 63, u 64, u 65, u 66, u 67, u 68, u 69, u 70, u 71, u 72, u 73, u 74, u 75, u 76, u 77, u 78, u 79, u 80, u 81, u 82, u 83, u 84, u 85, u 86, u 87, u 88, u 89, u 90, u 91, u 92, u 93, u 94, u 95, u 96, u 97, u 98, u 99, u 100, u 101, u 102, u 103, u 104, u 105, u 106, u 107, u 108, u 109, u 110, u 111, u 112, u 113, u 114, u 115, u 116, u 117] by kernel_rfl)
  clear hu hF
  subst hu2
  by_cases hcs : jd < m
  rotate_left
  · have HLTd := Lib.hid hcs; clear hcs
    go_upto_region 10 with fail
    refine wp_region_lit ?_
    refine tkL (.int .i64 (jd : Int)) (h := ?_)
    (try simp only [Act.put, sA, sB, sC])
    refine tkL (.slice A_1 m c_1) (h := ?_)
    (try simp only [Act.put, sA, sB, sC])
    refine tkL (.int .i64 (m : Int)) (h := ?_)
    (try simp only [Act.put, sA, sB, sC])
    refine wpList_q (by rfl) (.bool false) ?he ?_
    case he => (have q0 := HLTd.out; go_simp; (first | done | rfl | omega))
    (try simp only [Act.put, sA, sB, sC])
    refine wpList_nil ?_
    go_upto_region 13 with fail
    refine wp_region_lit ?_
    refine tkL (.pointer (some ⟨q1, 0, none⟩)) (h := ?_)
    (try simp only [Act.put, sA, sB, sC])
    refine wpList_wp (by rfl) (fun K hK => ?_)
    (try go_simp)
    refine (takeV w.heap.size q1 3 (0 + 1 + 1) zs [zs] Sq_3 _ HFq56.out (by simp) (by decide)).mono ?_
    rintro e w57 ⟨At, nt, ct, Sq_4, rfl, hobj, hit, hds, hsub, hupd⟩
    (try go_wp2_with fail)
    refine hK.out _ _ ?_
    clear hK K
    (try simp only [Act.put, sA, sB, sC])
    have hfar : ∀ x ∈ Sq_4, x ∈ Sq_3 ∨ wr.heap.size ≤ x := fun x h => .inl (hsub x h)
    clear hsub
    have HS57 := Lib.hid (Since.upd HS56.out hupd (NC.low HFq56.out))
    have HFq57 := Lib.hid hobj
    clear hupd hobj hfar HS56 HFq56
    have HITt := Lib.hid hit; have HDSt := Lib.hid hds; clear hit hds
    refine tkL (.tuple #[.slice At nt ct, .bool true]) (h := ?_)
    (try simp only [Act.put, sA, sB, sC])
    refine tkL (.slice At nt ct) (h := ?_)
    (try simp only [Act.put, sA, sB, sC])
    refine tkL (.bool true) (h := ?_)
    (try simp only [Act.put, sA, sB, sC])
    refine tkL (.slice At nt ct) (h := ?_)
    (try simp only [Act.put, sA, sB, sC])
    refine tkL (.bool true) (h := ?_)
    (try simp only [Act.put, sA, sB, sC])
    refine wpList_nil ?_
    have HRt := Lib.hid HITt.out.1; have HBt := Lib.hid (show nt ≤ 1000000 from HITt.out.2.2); have HLt := Lib.hid (own_len HITt.out.1)
    go_upto_region 14 with fail
    refine wp_region_lit ?_
    refine tkL (.int .i64 0) (h := ?_)
    (try simp only [Act.put, sA, sB, sC])
    refine wpList_nil ?_
    go_wp2_with fail
    refine wp_uloop (ds := []) (fun n fr wr => ∃ (jt : Nat) (ys : List Int), (nt - jt) = n ∧ Fits fr 118 [(0, .slice A m c), (1, .int .i64 x), (2, .int .i64 k), (6, .bool false), (7, .pointer none), (8, .slice none 0 0), (9, .bool false), (10, .pointer (some ⟨q1, 0, none⟩)), (11, .slice A_1 m c_1), (12, .int .i64 (jd : Int)), (13, .slice At nt ct), (14, .bool true), (15, .int .i64 (jt : Int))] ∧ Hid (jt ≤ nt ∧ ys.length = nt ∧ Since w wr ∧ NC w.heap.size q1 1 3 (0 + 1 + 1 + 1) (cN ([zs])) Sq_4 wr ∧ (wr).ownsRow w.heap.size 5 1 (.slice At nt ct) nt (cells ys))) (nt - 0) ?start57 ?round57
    case start57 => exact ⟨0, zs, rfl, ⟨rfl, rfl, rfl, rfl, rfl, rfl, rfl, rfl, rfl, rfl, rfl, rfl, rfl, rfl, trivial⟩, Lib.hid ⟨Nat.zero_le _, HLt.out, HS57.out, HFq57.out, HRt.out⟩⟩
    case round57 =>
     intro n fr wr hR J2 K2 hJ2 hK2
     clear HS57 HFq57 HRt
     obtain ⟨jt, ys, hn, hF, HO⟩ := hR
     have HMt := Lib.hid hn; clear hn
     obtain ⟨e0, e1, g0, g1, g2⟩ := HO.out
     clear HO
     have HILt := Lib.hid e0
     have HYLt := Lib.hid e1
     have HS107 := Lib.hid g0
     have HFq107 := Lib.hid g1
     have HFt107 := Lib.hid g2
     clear e0 e1 g0 g1 g2
     obtain ⟨u, hu⟩ := hF.open_
     have hu2 := hu.trans (show _ = #[.slice A m c, .int .i64 x, .int .i64 k, u 3, u 4, u 5, .bool false, .pointer none, .slice none 0 0, .bool false, .pointer (some ⟨q1, 0, none⟩), .slice A_1 m c_1, .int .i64 (jd : Int), .slice At nt ct, .bool true, .int .i64 (jt : Int), u 16, u 17, u 18, u 19, u 20, u 21, u 22, u 23, u 24, u 25, u 26, u 27, u 28, u 29, u 30, u 31, u 32, u 33, u 34, u 35, u 36, u 37, u 38, u 39, u 40, u 41, u 42, u 43, u 44, u 45, u 46, u 47, u 48, u 49, u 50, u 51, u 52, u 53, u 54, u 55, u 56, u 57, u 58, u 59, u 60, u 61, u 62, u 63, u 64, u 65, u 66, u 67, u 68, u 69, u 70, u 71, u 72, u 73, u 74, u 75, u 76, u 77, u 78, u 79, u 80, u 81, u 82, u 83, u 84, u 85, u 86, u 87, u 88, u 89, u 90, u 91, u 92, u 93, u 94, u 95, u 96, u 97, u 98, u 99, u 100, u 101, u 102, u 103, u 104, u 105, u 106, u 107, u 108, u 109, u 110, u 111, u 112, u 113, u 114, u 115, u 116, u 117] by kernel_rfl)
     clear hu hF
     subst hu2
     by_cases hcs : jt < nt
     rotate_left
     · have HLTt := Lib.hid hcs; clear hcs
       go_upto_region 15 with fail
       refine wp_region_lit ?_
       refine tkL (.int .i64 (jt : Int)) (h := ?_)
       (try simp only [Act.put, sA, sB, sC])
       refine tkL (.slice At nt ct) (h := ?_)
       (try simp only [Act.put, sA, sB, sC])
       refine tkL (.int .i64 (nt : Int)) (h := ?_)
       (try simp only [Act.put, sA, sB, sC])
       refine wpList_q (by rfl) (.bool false) ?he ?_
       case he => (have q0 := HLTt.out; go_simp; (first | done | rfl | omega))
       (try simp only [Act.put, sA, sB, sC])
       refine wpList_nil ?_
       go_upto_region 18 with fail
       refine wp_region_lit ?_
       refine tkL (.pointer (some ⟨q1, 0, none⟩)) (h := ?_)
       (try simp only [Act.put, sA, sB, sC])
       refine wpList_wp (by rfl) (fun K hK => ?_)
       (try go_simp)
       refine (takeV w.heap.size q1 3 (0 + 1 + 1 + 1) zs [] Sq_4 _ HFq107.out (by simp) (by decide)).mono ?_
       rintro e w108 ⟨Au, nu, cu, Sq_5, rfl, hobj, hit, hds, hsub, hupd⟩
       (try go_wp2_with fail)
       refine hK.out _ _ ?_
       clear hK K
       (try simp only [Act.put, sA, sB, sC])
       have hfar : ∀ x ∈ Sq_5, x ∈ Sq_4 ∨ wr.heap.size ≤ x := fun x h => .inl (hsub x h)
       clear hsub
       have HS108 := Lib.hid (Since.upd HS107.out hupd (NC.low HFq107.out))
       have HFq108 := Lib.hid hobj
       clear hupd hobj hfar HS107 HFq107
       have HITu := Lib.hid hit; have HDSu := Lib.hid hds; clear hit hds
       refine tkL (.tuple #[.slice Au nu cu, .bool true]) (h := ?_)
       (try simp only [Act.put, sA, sB, sC])
       refine tkL (.slice Au nu cu) (h := ?_)
       (try simp only [Act.put, sA, sB, sC])
       refine tkL (.bool true) (h := ?_)
       (try simp only [Act.put, sA, sB, sC])
       refine tkL (.slice Au nu cu) (h := ?_)
       (try simp only [Act.put, sA, sB, sC])
       refine tkL (.bool true) (h := ?_)
       (try simp only [Act.put, sA, sB, sC])
       refine wpList_nil ?_
       have HRu := Lib.hid HITu.out.1
       go_upto_region 19 with fail
       refine wp_region_lit ?_
       refine wpList_wp (by rfl) (fun K hK => ?_)
       (try go_simp)
       refine (ans _).mono ?_
       rintro e w109 ⟨rfl, hb⟩
       (try go_wp2_with fail)
       refine hK.out _ _ ?_
       clear hK K
       (try simp only [Act.put, sA, sB, sC])
       have HS109 := Lib.hid (Since.trans HS108.out hb)
       have HFu109 := Lib.hid (keep_own hb HRu.out)
       clear HS108 HRu
       clear hb
       refine tkL (.bool true) (h := ?_)
       (try simp only [Act.put, sA, sB, sC])
       refine tkL (.pointer none) (h := ?_)
       (try simp only [Act.put, sA, sB, sC])
       refine tkL (.int .i64 x) (h := ?_)
       (try simp only [Act.put, sA, sB, sC])
       refine tkL (.slice A m c) (h := ?_)
       (try simp only [Act.put, sA, sB, sC])
       refine wpList_wp (by rfl) (fun K hK => ?_)
       (try go_simp)
       refine (putNil x A m c _).mono ?_
       rintro e w110 ⟨rfl, hb⟩
       (try go_wp2_with fail)
       refine hK.out _ _ ?_
       clear hK K
       (try simp only [Act.put, sA, sB, sC])
       have HS110 := Lib.hid (Since.trans HS109.out hb)
       have HFu110 := Lib.hid (keep_own hb HFu109.out)
       clear HS109 HFu109
       clear hb
       refine wpList_q (by rfl) (.bool true) ?he ?_
       case he => (go_simp; (try with_reducible rfl))
       (try simp only [Act.put, sA, sB, sC])
       refine tkL (.bool true) (h := ?_)
       (try simp only [Act.put, sA, sB, sC])
       refine tkL (.bool true) (h := ?_)
       (try simp only [Act.put, sA, sB, sC])
       refine tkL (.pointer none) (h := ?_)
       (try simp only [Act.put, sA, sB, sC])
       refine tkL (.int .i64 x) (h := ?_)
       (try simp only [Act.put, sA, sB, sC])
       refine wpList_wp (by rfl) (fun K hK => ?_)
       (try go_simp)
       refine (lenNil x _).mono ?_
       rintro e w' ⟨rfl, rfl⟩
       (try go_wp2_with fail)
       refine hK.out _ _ ?_
       clear hK K
       (try simp only [Act.put, sA, sB, sC])
       refine wpList_q (by rfl) (.bool true) ?he ?_
       case he => (go_simp; (try with_reducible rfl))
       (try simp only [Act.put, sA, sB, sC])
       refine tkL (.bool true) (h := ?_)
       (try simp only [Act.put, sA, sB, sC])
       refine tkL (.bool true) (h := ?_)
       (try simp only [Act.put, sA, sB, sC])
       refine tkL (.bool false) (h := ?_)
       (try simp only [Act.put, sA, sB, sC])
       refine wpList_q (by rfl) (.bool true) ?he ?_
       case he => (go_simp; (try with_reducible rfl))
       (try simp only [Act.put, sA, sB, sC])
       refine tkL (.bool true) (h := ?_)
       (try simp only [Act.put, sA, sB, sC])
       refine tkL (.bool true) (h := ?_)
       (try simp only [Act.put, sA, sB, sC])
       refine tkL (.pointer none) (h := ?_)
       (try simp only [Act.put, sA, sB, sC])
       refine tkL (.int .i64 x) (h := ?_)
       (try simp only [Act.put, sA, sB, sC])
       refine tkL (.int .i64 k) (h := ?_)
       (try simp only [Act.put, sA, sB, sC])
       refine wpList_wp (by rfl) (fun K hK => ?_)
       (try go_simp)
       refine (loseNil x k _).mono ?_
       rintro e w' ⟨rfl, rfl⟩
       (try go_wp2_with fail)
       refine hK.out _ _ ?_
       clear hK K
       (try simp only [Act.put, sA, sB, sC])
       refine wpList_q (by rfl) (.bool true) ?he ?_
       case he => (go_simp; (try with_reducible rfl))
       (try simp only [Act.put, sA, sB, sC])
       refine tkL (.bool true) (h := ?_)
       (try simp only [Act.put, sA, sB, sC])
       refine tkL (.bool true) (h := ?_)
       (try simp only [Act.put, sA, sB, sC])
       refine tkL (.pointer none) (h := ?_)
       (try simp only [Act.put, sA, sB, sC])
       refine tkL (.int .i64 x) (h := ?_)
       (try simp only [Act.put, sA, sB, sC])
       refine tkL (.int .i64 k) (h := ?_)
       (try simp only [Act.put, sA, sB, sC])
       refine wpList_wp (by rfl) (fun K hK => ?_)
       (try go_simp)
       refine (twinNil x k _).mono ?_
       rintro e w' ⟨rfl, rfl⟩
       (try go_wp2_with fail)
       refine hK.out _ _ ?_
       clear hK K
       (try simp only [Act.put, sA, sB, sC])
       refine wpList_q (by rfl) (.bool true) ?he ?_
       case he => (go_simp; (try with_reducible rfl))
       (try simp only [Act.put, sA, sB, sC])
       refine tkL (.bool true) (h := ?_)
       (try simp only [Act.put, sA, sB, sC])
       refine tkL (.bool true) (h := ?_)
       (try simp only [Act.put, sA, sB, sC])
       refine tkL (.bool true) (h := ?_)
       (try simp only [Act.put, sA, sB, sC])
       refine tkL (.bool true) (h := ?_)
       (try simp only [Act.put, sA, sB, sC])
       refine tkL (.bool true) (h := ?_)
       (try simp only [Act.put, sA, sB, sC])
       refine tkL (.slice Au nu cu) (h := ?_)
       (try simp only [Act.put, sA, sB, sC])
       refine wpList_q (by rfl) (.string (strOfNums zs)) ?he ?_
       case he => exact exec_str 55 5 9 _ (BV.of_own HFu110.out HZB.out) rfl rfl Try.underlying55 Try.underlying5 Try.underlying9
       (try simp only [Act.put, sA, sB, sC])
       refine tkL (.slice A m c) (h := ?_)
       (try simp only [Act.put, sA, sB, sC])
       refine wpList_q (by rfl) (.string (strOfNums zs)) ?he ?_
       case he => exact exec_str 55 5 9 _ (keep_bv HS110.out HV.out) rfl rfl Try.underlying55 Try.underlying5 Try.underlying9
       (try simp only [Act.put, sA, sB, sC])
       refine tkL (.bool true) (h := ?_)
       (try simp only [Act.put, sA, sB, sC])
       refine tkL (.bool true) (h := ?_)
       (try simp only [Act.put, sA, sB, sC])
       refine tkL (.bool true) (h := ?_)
       (try simp only [Act.put, sA, sB, sC])
       refine wpList_nil ?_
       (try go_wp2_with fail)
       go_ret
       exact ⟨rfl, HS110.out⟩
     · have HLTt := Lib.hid hcs; clear hcs
       go_upto_region 15 with fail
       refine wp_region_lit ?_
       refine tkL (.int .i64 (jt : Int)) (h := ?_)
       (try simp only [Act.put, sA, sB, sC])
       refine tkL (.slice At nt ct) (h := ?_)
       (try simp only [Act.put, sA, sB, sC])
       refine tkL (.int .i64 (nt : Int)) (h := ?_)
       (try simp only [Act.put, sA, sB, sC])
       refine wpList_q (by rfl) (.bool true) ?he ?_
       case he => (have q0 := HLTt.out; go_simp; (first | done | rfl | omega))
       (try simp only [Act.put, sA, sB, sC])
       refine wpList_nil ?_
       obtain ⟨gt, hgt⟩ := own_addr HFt107.out (show 0 < nt by have := HLTt.out; omega)
       subst hgt
       go_upto_region 17 with fail
       refine wp_region_lit ?_
       refine tkL (.slice (some ⟨gt, 0, none⟩) nt ct) (h := ?_)
       (try simp only [Act.put, sA, sB, sC])
       refine tkL (.int .i64 (jt : Int)) (h := ?_)
       (try simp only [Act.put, sA, sB, sC])
       refine tkL (.slice (some ⟨gt, 0, none⟩) nt ct) (h := ?_)
       (try simp only [Act.put, sA, sB, sC])
       refine tkL (.int .i64 (jt : Int)) (h := ?_)
       (try simp only [Act.put, sA, sB, sC])
       refine wpList_q (by rfl) (.pointer (some ⟨gt, 0 + jt * 1, none⟩)) ?he ?_
       case he => exact exec_index (i := jt) (s := 1) 55 5 _ _ rfl rfl rfl rfl HLTt.out Try.underlying55 (by kernel_rfl)
       (try simp only [Act.put, sA, sB, sC])
       refine wpList_q (by rfl) (.int .u8 (ys.getD jt 0)) ?he ?_
       case he => exact exec_at 5 _ _ (byte_at HFt107.out (by have := HYLt.out; have := HLTt.out; omega)) rfl rfl Try.underlying5 rfl
       (try simp only [Act.put, sA, sB, sC])
       refine tkL (.int .u8 (bits .xor .u8 (ys.getD jt 0) 255)) (h := ?_)
       (try simp only [Act.put, sA, sB, sC])
       refine wpList_q (by rfl) (.pointer (some ⟨gt, 0 + jt * 1, none⟩)) ?he ?_
       case he => exact exec_index (i := jt) (s := 1) 55 5 _ _ rfl rfl rfl rfl HLTt.out Try.underlying55 (by kernel_rfl)
       (try simp only [Act.put, sA, sB, sC])
       refine wpList_wp (by rfl) (fun K hK => ?_)
       refine wp_put_byte 5 _ _ rfl HFt107.out (by have := HYLt.out; have := HLTt.out; omega) (bits .xor .u8 (ys.getD jt 0) 255) rfl rfl (by kernel_rfl) ?_
       intro w108 hobj hupd
       refine hK.out _ _ ?_
       clear hK K
       (try simp only [Act.put, sA, sB, sC])
       have hfar : ∀ x ∈ blkOf (some ⟨gt, 0, none⟩), x ∈ blkOf (some ⟨gt, 0, none⟩) ∨ wr.heap.size ≤ x := fun _ h => .inl h
       have HS108 := Lib.hid (Since.upd HS107.out hupd (own_low HFt107.out))
       have HFq108 := Lib.hid (NC.upd hupd HFq107.out (fun g hg h => HDSt.out g h hg))
       have HDDq_t_108 := Lib.hid (dis_next hfar (fun g hg h => HDSt.out g h hg) (NC.lt HFq107.out))
       have HFt108 := Lib.hid hobj
       clear hupd hobj hfar HS107 HFq107 HFt107
       refine wpList_nil ?_
       go_upto_region 16 with fail
       refine wp_region_lit ?_
       refine tkL (.int .i64 (jt : Int)) (h := ?_)
       (try simp only [Act.put, sA, sB, sC])
       refine wpList_q (by rfl) (.int .i64 ((jt : Int) + 1)) ?he ?_
       case he => (go_simp; (first | done | (refine wr64 _ ?_ ?_ <;> (have q0 := HLTt.out; have q1 := HBt.out; omega)) | (have q0 := HLTt.out; have q1 := HBt.out; omega) | (have q0 := HLTt.out; have q1 := HBt.out; split <;> omega) | (have q0 := HLTt.out; have q1 := HBt.out; intro hh; omega)))
       (try simp only [Act.put, sA, sB, sC])
       refine tkL (.int .i64 ((jt : Int) + 1)) (h := ?_)
       (try simp only [Act.put, sA, sB, sC])
       refine wpList_nil ?_
       go_wp2_with fail
       refine Met.intro ?_
       refine hJ2 _ _ _ ?less108 ⟨(jt + 1), (ys.set jt (bits .xor .u8 (ys.getD jt 0) 255)), rfl, ⟨rfl, rfl, rfl, rfl, rfl, rfl, rfl, rfl, rfl, rfl, rfl, rfl, rfl, rfl, trivial⟩, Lib.hid ⟨by have := HLTt.out; omega, by rw [List.length_set]; exact HYLt.out, HS108.out, HFq108.out, HFt108.out⟩⟩
       case less108 => exact (by have := HMt.out; have := HLTt.out; omega)
  · have HLTd := Lib.hid hcs; clear hcs
    go_upto_region 10 with fail
    refine wp_region_lit ?_
    refine tkL (.int .i64 (jd : Int)) (h := ?_)
    (try simp only [Act.put, sA, sB, sC])
    refine tkL (.slice A_1 m c_1) (h := ?_)
    (try simp only [Act.put, sA, sB, sC])
    refine tkL (.int .i64 (m : Int)) (h := ?_)
    (try simp only [Act.put, sA, sB, sC])
    refine wpList_q (by rfl) (.bool true) ?he ?_
    case he => (have q0 := HLTd.out; go_simp; (first | done | rfl | omega))
    (try simp only [Act.put, sA, sB, sC])
    refine wpList_nil ?_
    obtain ⟨gd, hgd⟩ := own_addr HFd56.out (show 0 < m by have := HLTd.out; omega)
    subst hgd
    go_upto_region 12 with fail
    refine wp_region_lit ?_
    refine tkL (.slice (some ⟨gd, 0, none⟩) m c_1) (h := ?_)
    (try simp only [Act.put, sA, sB, sC])
    refine tkL (.int .i64 (jd : Int)) (h := ?_)
    (try simp only [Act.put, sA, sB, sC])
    refine tkL (.slice (some ⟨gd, 0, none⟩) m c_1) (h := ?_)
    (try simp only [Act.put, sA, sB, sC])
    refine tkL (.int .i64 (jd : Int)) (h := ?_)
    (try simp only [Act.put, sA, sB, sC])
    refine wpList_q (by rfl) (.pointer (some ⟨gd, 0 + jd * 1, none⟩)) ?he ?_
    case he => exact exec_index (i := jd) (s := 1) 55 5 _ _ rfl rfl rfl rfl HLTd.out Try.underlying55 (by kernel_rfl)
    (try simp only [Act.put, sA, sB, sC])
    refine wpList_q (by rfl) (.int .u8 (ys.getD jd 0)) ?he ?_
    case he => exact exec_at 5 _ _ (byte_at HFd56.out (by have := HYLd.out; have := HLTd.out; omega)) rfl rfl Try.underlying5 rfl
    (try simp only [Act.put, sA, sB, sC])
    refine tkL (.int .u8 (bits .xor .u8 (ys.getD jd 0) 255)) (h := ?_)
    (try simp only [Act.put, sA, sB, sC])
    refine wpList_q (by rfl) (.pointer (some ⟨gd, 0 + jd * 1, none⟩)) ?he ?_
    case he => exact exec_index (i := jd) (s := 1) 55 5 _ _ rfl rfl rfl rfl HLTd.out Try.underlying55 (by kernel_rfl)
    (try simp only [Act.put, sA, sB, sC])
    refine wpList_wp (by rfl) (fun K hK => ?_)
    refine wp_put_byte 5 _ _ rfl HFd56.out (by have := HYLd.out; have := HLTd.out; omega) (bits .xor .u8 (ys.getD jd 0) 255) rfl rfl (by kernel_rfl) ?_
    intro w57 hobj hupd
    refine hK.out _ _ ?_
    clear hK K
    (try simp only [Act.put, sA, sB, sC])
    have hfar : ∀ x ∈ blkOf (some ⟨gd, 0, none⟩), x ∈ blkOf (some ⟨gd, 0, none⟩) ∨ wr.heap.size ≤ x := fun _ h => .inl h
    have HS57 := Lib.hid (Since.upd HS56.out hupd (own_low HFd56.out))
    have HFq57 := Lib.hid (NC.upd hupd HFq56.out (fun g hg h => HDDd_q_6.out g h hg))
    have HDDq_d_57 := Lib.hid (dis_next hfar (fun g hg h => HDDd_q_6.out g h hg) (NC.lt HFq56.out))
    have HFd57 := Lib.hid hobj
    clear hupd hobj hfar HS56 HFq56 HFd56
    refine wpList_nil ?_
    go_upto_region 11 with fail
    refine wp_region_lit ?_
    refine tkL (.int .i64 (jd : Int)) (h := ?_)
    (try simp only [Act.put, sA, sB, sC])
    refine wpList_q (by rfl) (.int .i64 ((jd : Int) + 1)) ?he ?_
    case he => (go_simp; (first | done | (refine wr64 _ ?_ ?_ <;> (have q0 := HLTd.out; have q1 := HBd.out; omega)) | (have q0 := HLTd.out; have q1 := HBd.out; omega) | (have q0 := HLTd.out; have q1 := HBd.out; split <;> omega) | (have q0 := HLTd.out; have q1 := HBd.out; intro hh; omega)))
    (try simp only [Act.put, sA, sB, sC])
    refine tkL (.int .i64 ((jd : Int) + 1)) (h := ?_)
    (try simp only [Act.put, sA, sB, sC])
    refine wpList_nil ?_
    go_wp2_with fail
    refine Met.intro ?_
    refine hJ1 _ _ _ ?less57 ⟨(jd + 1), (ys.set jd (bits .xor .u8 (ys.getD jd 0) 255)), rfl, ⟨rfl, rfl, rfl, rfl, rfl, rfl, rfl, rfl, rfl, rfl, rfl, trivial⟩, Lib.hid ⟨by have := HLTd.out; omega, by rw [List.length_set]; exact HYLd.out, HS57.out, HFq57.out, HFd57.out⟩⟩
    case less57 => exact (by have := HMd.out; have := HLTd.out; omega)
theorem noneT (A : Option Addr) (m c : Nat) (zs : List Int) (x k : Int) (w : World) (hv : BV w A m zs) : Calls Try.prog 7 #[.slice A m c, .int .i64 x, .int .i64 k] w fun e w' => e = .returned (.bool true) ∧ Since w w' := by
  by_cases h : 500 < m
  · exact noneLong A m c zs x k w hv h
  · exact noneShort A m c zs x k w hv h
end Go.Proofs.Ytlihhjcneedgnaa.Nt
