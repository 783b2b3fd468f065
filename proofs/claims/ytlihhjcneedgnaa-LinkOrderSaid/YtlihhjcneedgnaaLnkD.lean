/-
  a link's calls at the object; the law's answers, LinkNone: walked.
  Conditions: what stands ahead of each.
-/
import Derived.Test.YtlihhjcneedgnaaProg
import Derived.Test.YtlihhjcneedgnaaShort
import Derived.Test.YtlihhjcneedgnaaLnkC
namespace Go.Proofs.Ytlihhjcneedgnaa.Ln
set_option linter.unusedVariables false
set_option linter.unusedSimpArgs false
open Go.RowKit Go.Proofs.Ytlihhjcneedgnaa.Ba Go.Proofs.Ytlihhjcneedgnaa.Mem Go.Proofs.Ytlihhjcneedgnaa.Ty Go.Proofs.Ytlihhjcneedgnaa.Tm Go.Proofs.Ytlihhjcneedgnaa.Tw
set_option maxRecDepth 100000
attribute [local irreducible] Go.wpList
def kC : CfgV := ⟨0, 0, 0, 0, 0, 0, 0, 0, 0, 0, 0, 0, 0, 2, 9, 3, 50, 4⟩
section
variable {lo q : Nat} {k : LkV} {ls : List MsgV} {S : List Nat} {w : World}
theorem newV2 (lo : Nat) (c : CfgV) (se ep now : Int) (k : LkV) (w : World) (hlo : lo ≤ w.heap.size) (hk : (⟨c, se, ep % 65536, 0, 0, 0, 0, false, cl now⟩ : LkV) = k) : Calls Try.prog 13 #[.agg #[.int .i64 c.ca, .int .i64 c.fl, .int .i64 c.ft, .int .i64 c.se, .int .i64 c.dr, .int .i64 c.dw, .int .i64 c.ho, .int .i64 c.re, .int .i64 c.yi, .int .i64 c.qu, .int .i64 c.qo, .int .i64 c.lo, .int .i64 c.sl, .int .i64 c.rt, .int .i64 c.cp, .int .i64 c.tr, .int .i64 c.de, .int .i64 c.wi], .int .i64 se, .int .i64 ep, .int .i64 now] w fun e w' => ∃ q, e = .returned (.pointer (some ⟨q, 0, none⟩)) ∧ LO lo q k [] [q] w' ∧ w.heap.size ≤ q ∧ Since w w' := by
  subst hk
  exact newV lo c se ep now w hlo
theorem sendV (h : LO lo q k ls S w) (m : MsgV) (hl : ls.length ≤ 10000) (hw : ¬ winV k.c ≤ (ls.length : Int)) (l2 : List MsgV) (h2 : ls ++ [m] = l2) :
    Calls Try.prog 14 #[.pointer (some ⟨q, 0, none⟩), .agg #[.int .i64 m.ki, .int .i64 m.a, .int .i64 m.b, .int .i64 m.c]] w fun e w' => ∃ S', e = .returned (.bool true) ∧ LO lo q k l2 S' w' ∧ Upd S w w' ∧ ∀ g ∈ S', g ∈ S ∨ w.heap.size ≤ g := by
  subst h2
  obtain ⟨h0, A, c, rfl, B, O⟩ := h
  refine (sendOk lo q k ls A c m w B O hl hw h0).mono ?_
  rintro e w1 ⟨rfl, S', h1, h3, h4⟩
  exact ⟨S', rfl, h1, h3, h4⟩
theorem pollNoV (h : LO lo q k ls S w) (now : Int) (hl : ls.length ≤ 10000) (hd : dueB k ls.length now = false) (ha : k.an = false) :
    Calls Try.prog 15 #[.pointer (some ⟨q, 0, none⟩), .int .i64 now] w fun e w' => e = .returned (.tuple #[.agg #[.int .i64 0, .int .i64 0, .int .i64 0, .int .i64 0, .bool false, .int .i64 0, .int .i64 0, .int .i64 0, .int .i64 0], .bool false]) ∧ Since w w' := by
  obtain ⟨h0, A, c, rfl, B, O⟩ := h
  exact pollNo lo q k ls A c now w B O hl hd ha
theorem pollAnsV (h : LO lo q k ls S w) (now : Int) (hl : ls.length ≤ 10000) (hd : dueB k ls.length now = false) (ha : k.an = true) (k2 : LkV) (hk : { k with an := false } = k2) (P : Array Value) (hP : #[.int .i64 k.se, .int .i64 k.ep, .int .i64 k.sq, .int .i64 k.ak, .bool false, .int .i64 0, .int .i64 0, .int .i64 0, .int .i64 0] = P) :
    Calls Try.prog 15 #[.pointer (some ⟨q, 0, none⟩), .int .i64 now] w fun e w' => ∃ S', e = .returned (.tuple #[.agg P, .bool true]) ∧ LO lo q k2 ls S' w' ∧ Upd S w w' ∧ ∀ g ∈ S', g ∈ S ∨ w.heap.size ≤ g := by
  subst hk hP
  obtain ⟨h0, A, c, rfl, B, O⟩ := h
  refine (pollAns lo q k ls A c now w B O hl hd ha h0).mono ?_
  rintro e w1 ⟨rfl, h1, h2⟩
  exact ⟨_, rfl, h1, h2, fun g hg => .inl hg⟩
theorem pollDueV (h : LO lo q k ls S w) (now : Int) (m : MsgV) (hl : ls.length ≤ 10000) (hd : dueB k ls.length now = true) (hm : ls[0]? = some m) (hs : -1000000000 ≤ k.st ∧ k.st ≤ 1000000000) (k2 : LkV) (hk : { k with du := cl (cl now + cl (pa k.c.rt k.c.cp k.st)), st := k.st + 1, an := false } = k2) (P : Array Value) (hP : #[.int .i64 k.se, .int .i64 k.ep, .int .i64 k.sq, .int .i64 k.ak, .bool true, .int .i64 m.ki, .int .i64 m.a, .int .i64 m.b, .int .i64 m.c] = P) :
    Calls Try.prog 15 #[.pointer (some ⟨q, 0, none⟩), .int .i64 now] w fun e w' => ∃ S', e = .returned (.tuple #[.agg P, .bool true]) ∧ LO lo q k2 ls S' w' ∧ Upd S w w' ∧ ∀ g ∈ S', g ∈ S ∨ w.heap.size ≤ g := by
  subst hk hP
  obtain ⟨h0, A, c, rfl, B, O⟩ := h
  obtain ⟨g, rfl⟩ := own_addr O (List.getElem?_eq_some_iff.1 hm).1
  refine (pollDue lo q k ls g c m now w B O hl hd hm hs h0).mono ?_
  rintro e w1 ⟨rfl, h1, h2⟩
  exact ⟨_, rfl, h1, h2, fun g hg => .inl hg⟩
theorem recvTakeV (h : LO lo q k ls S w) (p : PkV) (now : Int) (h1 : p.se = k.se) (h2 : p.ep = k.ep) (h3 : ls.length = 0) (h5 : p.ha = true) (h6 : decide (0 < Se.ne k.ak p.sq) = false) (h7 : p.sq = k.ak) (k2 : LkV) (hk : { k with he := mx2 k.he (cl now), an := true, ak := Se.nx k.ak } = k2) (P V : Array Value) (hP : pkC p = P) (hV : #[.int .i64 p.m.ki, .int .i64 p.m.a, .int .i64 p.m.b, .int .i64 p.m.c] = V) :
    Calls Try.prog 16 #[.pointer (some ⟨q, 0, none⟩), .agg P, .int .i64 now] w fun e w' => ∃ S', e = .returned (.tuple #[.agg V, .bool true]) ∧ LO lo q k2 ls S' w' ∧ Upd S w w' ∧ ∀ g ∈ S', g ∈ S ∨ w.heap.size ≤ g := by
  subst hk hP hV
  obtain ⟨h0, A, c, rfl, B, O⟩ := h
  refine (recv_e_take lo q k ls A c p now w B O (by omega) h1 h2 h0 h3 h5 h6 h7).mono ?_
  rintro e w1 ⟨rfl, h1, h2⟩
  exact ⟨_, rfl, h1, h2, fun g hg => .inl hg⟩
theorem recvAckV (h : LO lo q k ls S w) (p : PkV) (now : Int) (m : Nat) (hl : ls.length ≤ 10000) (h1 : p.se = k.se) (h2 : p.ep = k.ep) (h3 : ls.length = m + 1) (h4 : p.ak = Se.nx k.sq) (h5 : p.ha = false) (k2 : LkV) (hk : { k with he := mx2 k.he (cl now), sq := Se.nx k.sq, st := 0, du := 0 } = k2) (l2 : List MsgV) (hl2 : ls.tail = l2) (P : Array Value) (hP : pkC p = P) :
    Calls Try.prog 16 #[.pointer (some ⟨q, 0, none⟩), .agg P, .int .i64 now] w fun e w' => ∃ S', e = .returned (.tuple #[.agg #[.int .i64 0, .int .i64 0, .int .i64 0, .int .i64 0], .bool false]) ∧ LO lo q k2 l2 S' w' ∧ Upd S w w' ∧ ∀ g ∈ S', g ∈ S ∨ w.heap.size ≤ g := by
  subst hk hP hl2
  obtain ⟨h0, A, c, rfl, B, O⟩ := h
  obtain ⟨g, rfl⟩ := own_addr O (by omega)
  have hcap := own_cap2 O
  refine (recv_y_nohas lo q k ls g m c p now w B O hl h1 h2 h0 h3 h4 (by omega) h5).mono ?_
  rintro e w1 ⟨rfl, h1, h2⟩
  exact ⟨_, rfl, h1, h2, fun g hg => .inl hg⟩
theorem waitsV (h : LO lo q k ls S w) (n : Int) (hn : (ls.length : Int) = n) : Calls Try.prog 17 #[.pointer (some ⟨q, 0, none⟩)] w fun e w' => e = .returned (.int .i64 n) ∧ Since w w' := by
  subst hn
  obtain ⟨h0, A, c, rfl, B, O⟩ := h
  exact waitsT q k A ls.length c w B
theorem epochV (h : LO lo q k ls S w) (n : Int) (hn : k.ep = n) : Calls Try.prog 20 #[.pointer (some ⟨q, 0, none⟩)] w fun e w' => e = .returned (.int .i64 n) ∧ Since w w' := by
  subst hn
  obtain ⟨h0, A, c, rfl, B, O⟩ := h
  exact epochT q k A ls.length c w B
end
set_option maxHeartbeats 4000000 in
theorem configT (w : World) : Calls Try.prog 12 #[] w fun e w' => e = .returned (.agg #[.int .i64 0, .int .i64 0, .int .i64 0, .int .i64 0, .int .i64 0, .int .i64 0, .int .i64 0, .int .i64 0, .int .i64 0, .int .i64 0, .int .i64 0, .int .i64 0, .int .i64 0, .int .i64 2, .int .i64 9, .int .i64 3, .int .i64 50, .int .i64 4]) ∧ Since w w' := by
  go_enter Try.func12, Try.ntmps12
  go_upto_region 1 with fail
  obtain ⟨w1, hw1⟩ : ∃ w1, w1 = (w.alloc (.cells #[.int .i64 0, .int .i64 0, .int .i64 0, .int .i64 0, .int .i64 0, .int .i64 0, .int .i64 0, .int .i64 0, .int .i64 0, .int .i64 0, .int .i64 0, .int .i64 0, .int .i64 0, .int .i64 0, .int .i64 0, .int .i64 0, .int .i64 0, .int .i64 0] 24)) := ⟨_, rfl⟩
  rw [← hw1]
  have HBR1 := Lib.hid (show Blk w1 (w.heap.size) 24 #[.int .i64 0, .int .i64 0, .int .i64 0, .int .i64 0, .int .i64 0, .int .i64 0, .int .i64 0, .int .i64 0, .int .i64 0, .int .i64 0, .int .i64 0, .int .i64 0, .int .i64 0, .int .i64 0, .int .i64 0, .int .i64 0, .int .i64 0, .int .i64 0] by rw [hw1]; exact Blk.at_ (by (try simp only [size_alloc])) _ _)
  have HS1 := Lib.hid (show Since w w1 by rw [hw1]; exact Since.alloc (Since.refl w) _)
  have hNE : w.heap.size ≤ w.heap.size := by omega
  have HNE := Lib.hid hNE
  clear hNE hw1
  have HNE3 := Lib.hid (show w.heap.size ≤ w.heap.size from HNE.out)
  clear HNE
  refine wp_region_lit ?_
  refine wpList_q (by rfl) (.agg #[.int .i64 0, .int .i64 0, .int .i64 0, .int .i64 0, .int .i64 0, .int .i64 0, .int .i64 0, .int .i64 0, .int .i64 0, .int .i64 0, .int .i64 0, .int .i64 0, .int .i64 0, .int .i64 2, .int .i64 9, .int .i64 3, .int .i64 50, .int .i64 4]) ?he ?_
  case he => kernel_rfl
  (try simp only [Act.put, sA, sB, sC])
  refine wpList_wp (by rfl) (fun K hK => ?_)
  refine wp_st_row 24 _ _ rfl #[.int .i64 0, .int .i64 0, .int .i64 0, .int .i64 0, .int .i64 0, .int .i64 0, .int .i64 0, .int .i64 0, .int .i64 0, .int .i64 0, .int .i64 0, .int .i64 0, .int .i64 0, .int .i64 2, .int .i64 9, .int .i64 3, .int .i64 50, .int .i64 4] rfl rfl (HasRow.of HBR1.out rfl) rfl (by simp [Value.oneCell']) (by kernel_rfl) ?_
  intro w2 hw
  refine hK.out _ _ ?_
  clear hK K
  (try simp only [Act.put, sA, sB, sC])
  have HS2 := Lib.hid (show Since w w2 by rw [hw]; exact Since.setRow HS1.out (by have := HNE3.out; omega) _)
  have HBR2 := Lib.hid (show Blk w2 w.heap.size 24 #[.int .i64 0, .int .i64 0, .int .i64 0, .int .i64 0, .int .i64 0, .int .i64 0, .int .i64 0, .int .i64 0, .int .i64 0, .int .i64 0, .int .i64 0, .int .i64 0, .int .i64 0, .int .i64 2, .int .i64 9, .int .i64 3, .int .i64 50, .int .i64 4] by rw [hw]; exact Blk.row HBR1.out _)
  clear hw HS1 HBR1
  refine wpList_nil ?_
  (try go_wp2_with fail)
  exact bodyPost_ret (results_cell_row rfl _ _ w.heap.size 24 #[.int .i64 0, .int .i64 0, .int .i64 0, .int .i64 0, .int .i64 0, .int .i64 0, .int .i64 0, .int .i64 0, .int .i64 0, .int .i64 0, .int .i64 0, .int .i64 0, .int .i64 0, .int .i64 2, .int .i64 9, .int .i64 3, .int .i64 50, .int .i64 4] (0, 0) _ rfl HBR2.out Try.underlying24 rfl (by kernel_rfl)) rfl ⟨rfl, HS2.out⟩
def k0 : LkV := ⟨kC, 1, 7, 0, 0, 0, 0, false, 0⟩
def k1 : LkV := ⟨kC, 1, 7, 0, 1, 2, 0, false, 0⟩
def k2 : LkV := ⟨kC, 1, 7, 0, 0, 0, 1, true, 0⟩
def k3 : LkV := ⟨kC, 1, 7, 0, 0, 0, 1, false, 0⟩
def k4 : LkV := ⟨kC, 1, 7, 1, 0, 0, 0, false, 0⟩
def m5 : MsgV := ⟨5, 0, 0, 0⟩
def pA : PkV := ⟨1, 7, 0, 0, true, m5⟩
def pB : PkV := ⟨1, 7, 0, 1, false, zeroM⟩
set_option maxHeartbeats 4000000 in
theorem ans (w : World) : Calls Try.prog 18 #[] w fun e w' => e = .returned (.bool true) ∧ Since w w' := by
  go_enter Try.func18, Try.ntmps18
  go_upto_region 1 with fail
  have HS1 := Lib.hid (Since.refl w)
  refine wp_region_lit ?_
  refine wpList_wp (by rfl) (fun K hK => ?_)
  (try go_simp)
  refine (configT _).mono ?_
  rintro e w2 ⟨rfl, hb⟩
  (try go_wp2_with fail)
  refine hK.out _ _ ?_
  clear hK K
  (try simp only [Act.put, sA, sB, sC])
  have HS2 := Lib.hid (Since.trans HS1.out hb)
  clear HS1 
  clear hb
  refine wpList_wp (by rfl) (fun K hK => ?_)
  (try go_simp)
  refine (newV2 w.heap.size kC 1 7 0 k0 _ (Since.size HS2.out) (by first | rfl | (simp only [k0]; congr 1 <;> first | rfl | decide | decide +kernel))).mono ?_
  rintro e w3 ⟨a1, rfl, hT, hge, hb⟩
  (try go_wp2_with fail)
  refine hK.out _ _ ?_
  clear hK K
  (try simp only [Act.put, sA, sB, sC])
  have HS3 := Lib.hid (Since.trans HS2.out hb)
  clear HS2 
  clear hb
  have HFa0 := Lib.hid hT
  clear hT hge
  refine wpList_wp (by rfl) (fun K hK => ?_)
  (try go_simp)
  refine (configT _).mono ?_
  rintro e w4 ⟨rfl, hb⟩
  (try go_wp2_with fail)
  refine hK.out _ _ ?_
  clear hK K
  (try simp only [Act.put, sA, sB, sC])
  have HS4 := Lib.hid (Since.trans HS3.out hb)
  have HFa4 := Lib.hid (LO.keep hb HFa0.out)
  clear HS3 HFa0
  clear hb
  refine wpList_wp (by rfl) (fun K hK => ?_)
  (try go_simp)
  refine (newV2 w.heap.size kC 1 7 0 k0 _ (Since.size HS4.out) (by first | rfl | (simp only [k0]; congr 1 <;> first | rfl | decide | decide +kernel))).mono ?_
  rintro e w5 ⟨b1, rfl, hT, hge, hb⟩
  (try go_wp2_with fail)
  refine hK.out _ _ ?_
  clear hK K
  (try simp only [Act.put, sA, sB, sC])
  have HDa_b := Lib.hid (show ∀ g ∈ [a1], g ∉ [b1] from fun g hg h1 => by have q1 := LO.lt HFa4.out g hg; have q2 := List.mem_singleton.1 h1; omega)
  have HS5 := Lib.hid (Since.trans HS4.out hb)
  have HFa5 := Lib.hid (LO.keep hb HFa4.out)
  clear HS4 HFa4
  clear hb
  have HFb0 := Lib.hid hT
  clear hT hge
  refine tkL (.pointer (some ⟨a1, 0, none⟩)) (h := ?_)
  (try simp only [Act.put, sA, sB, sC])
  refine tkL (.pointer (some ⟨b1, 0, none⟩)) (h := ?_)
  (try simp only [Act.put, sA, sB, sC])
  refine wpList_nil ?_
  go_upto_region 2 with fail
  refine wp_region_lit ?_
  refine tkL (.pointer (some ⟨a1, 0, none⟩)) (h := ?_)
  (try simp only [Act.put, sA, sB, sC])
  refine wpList_q (by rfl) (.agg #[.int .i64 5, .int .i64 0, .int .i64 0, .int .i64 0]) ?he ?_
  case he => kernel_rfl
  (try simp only [Act.put, sA, sB, sC])
  refine wpList_wp (by rfl) (fun K hK => ?_)
  (try go_simp)
  refine (sendV HFa5.out m5 (by decide) (by first | rfl | decide | decide +kernel) [m5] rfl).mono ?_
  rintro e w6 ⟨Sa_1, rfl, hobj, hupd, hfar⟩
  (try go_wp2_with fail)
  refine hK.out _ _ ?_
  clear hK K
  (try simp only [Act.put, sA, sB, sC])
  have HS6 := Lib.hid (Since.upd HS5.out hupd (LO.low HFa5.out))
  have HFb6 := Lib.hid (LO.upd hupd HFb0.out (fun g hg h => HDa_b.out g h hg))
  have HDDb_a_6 := Lib.hid (dis_next hfar (fun g hg h => HDa_b.out g h hg) (LO.lt HFb0.out))
  have HFa6 := Lib.hid hobj
  clear hupd hobj hfar HS5 HFa5 HFb0
  refine tkL (.bool true) (h := ?_)
  (try simp only [Act.put, sA, sB, sC])
  refine wpList_nil ?_
  go_upto_region 3 with fail
  refine wp_region_lit ?_
  refine tkL (.pointer (some ⟨a1, 0, none⟩)) (h := ?_)
  (try simp only [Act.put, sA, sB, sC])
  refine wpList_wp (by rfl) (fun K hK => ?_)
  (try go_simp)
  refine (pollDueV HFa6.out 0 m5 (by decide) (by first | rfl | decide | decide +kernel) rfl (by decide) k1 (by first | rfl | (simp only [k0, k1]; congr 1 <;> first | rfl | decide | decide +kernel)) #[.int .i64 1, .int .i64 7, .int .i64 0, .int .i64 0, .bool true, .int .i64 5, .int .i64 0, .int .i64 0, .int .i64 0] rfl).mono ?_
  rintro e w7 ⟨Sa_2, rfl, hobj, hupd, hfar⟩
  (try go_wp2_with fail)
  refine hK.out _ _ ?_
  clear hK K
  (try simp only [Act.put, sA, sB, sC])
  have HS7 := Lib.hid (Since.upd HS6.out hupd (LO.low HFa6.out))
  have HFb7 := Lib.hid (LO.upd hupd HFb6.out HDDb_a_6.out)
  have HDDb_a_7 := Lib.hid (dis_next hfar HDDb_a_6.out (LO.lt HFb6.out))
  have HFa7 := Lib.hid hobj
  clear hupd hobj hfar HS6 HFa6 HFb6
  refine tkL (.tuple #[.agg #[.int .i64 1, .int .i64 7, .int .i64 0, .int .i64 0, .bool true, .int .i64 5, .int .i64 0, .int .i64 0, .int .i64 0], .bool true]) (h := ?_)
  (try simp only [Act.put, sA, sB, sC])
  refine tkL (.agg #[.int .i64 1, .int .i64 7, .int .i64 0, .int .i64 0, .bool true, .int .i64 5, .int .i64 0, .int .i64 0, .int .i64 0]) (h := ?_)
  (try simp only [Act.put, sA, sB, sC])
  refine tkL (.bool true) (h := ?_)
  (try simp only [Act.put, sA, sB, sC])
  refine wpList_wp (by rfl) (fun K hK => ?_)
  refine wp_new (fun b => .pointer (some ⟨b, 0, none⟩)) 38 #[.int .i64 0, .int .i64 0, .int .i64 0, .int .i64 0, .bool false, .int .i64 0, .int .i64 0, .int .i64 0, .int .i64 0] (by rintro b rfl; first | rfl | kernel_rfl) ?_
  intro bn4 w8 hge hB hb
  refine hK.out _ _ ?_
  clear hK K
  (try simp only [Act.put, sA, sB, sC])
  have HGn4 := Lib.hid (show w.heap.size ≤ bn4 by have := Since.size HS7.out; omega)
  have HIn4_a := Lib.hid (LO.far HFa7.out hge)
  have HIn4_b := Lib.hid (LO.far HFb7.out hge)
  have HS8 := Lib.hid (Since.trans HS7.out hb)
  have HFa8 := Lib.hid (LO.keep hb HFa7.out)
  have HFb8 := Lib.hid (LO.keep hb HFb7.out)
  clear HS7 HFa7 HFb7
  clear hb hge
  have HBn48 := Lib.hid hB
  clear hB
  refine wpList_wp (by rfl) (fun K hK => ?_)
  refine wp_st_row 38 _ _ rfl #[.int .i64 1, .int .i64 7, .int .i64 0, .int .i64 0, .bool true, .int .i64 5, .int .i64 0, .int .i64 0, .int .i64 0] rfl rfl (HasRow.of HBn48.out rfl) rfl (by simp [Value.oneCell']) (by kernel_rfl) ?_
  intro w9 hw
  refine hK.out _ _ ?_
  clear hK K
  (try simp only [Act.put, sA, sB, sC])
  have HS9 := Lib.hid (show Since w w9 by rw [hw]; exact Since.setRow HS8.out HGn4.out _)
  have HBn49 := Lib.hid (show Blk w9 bn4 38 #[.int .i64 1, .int .i64 7, .int .i64 0, .int .i64 0, .bool true, .int .i64 5, .int .i64 0, .int .i64 0, .int .i64 0] by rw [hw]; exact Blk.row HBn48.out _)
  have HFa_9 := Lib.hid (show LO w.heap.size a1 k1 ([m5]) Sa_2 w9 by rw [hw]; exact LO.row_far HFa8.out HIn4_a.out _)
  have HFb_9 := Lib.hid (show LO w.heap.size b1 k0 [] [b1] w9 by rw [hw]; exact LO.row_far HFb8.out HIn4_b.out _)
  clear hw HS8 HBn48 HFa8 HFb8
  refine tkL (.bool true) (h := ?_)
  (try simp only [Act.put, sA, sB, sC])
  refine wpList_nil ?_
  go_upto_region 4 with fail
  refine wp_region_lit ?_
  refine tkL (.pointer (some ⟨a1, 0, none⟩)) (h := ?_)
  (try simp only [Act.put, sA, sB, sC])
  refine wpList_wp (by rfl) (fun K hK => ?_)
  (try go_simp)
  refine (pollNoV HFa_9.out 0 (by decide) (by first | rfl | decide | decide +kernel) rfl).mono ?_
  rintro e w10 ⟨rfl, hb⟩
  (try go_wp2_with fail)
  refine hK.out _ _ ?_
  clear hK K
  (try simp only [Act.put, sA, sB, sC])
  have HS10 := Lib.hid (Since.trans HS9.out hb)
  have HBn410 := Lib.hid (keep_blk hb HBn49.out)
  have HFa10 := Lib.hid (LO.keep hb HFa_9.out)
  have HFb10 := Lib.hid (LO.keep hb HFb_9.out)
  clear HS9 HBn49 HFa_9 HFb_9
  clear hb
  refine tkL (.tuple #[.agg #[.int .i64 0, .int .i64 0, .int .i64 0, .int .i64 0, .bool false, .int .i64 0, .int .i64 0, .int .i64 0, .int .i64 0], .bool false]) (h := ?_)
  (try simp only [Act.put, sA, sB, sC])
  refine tkL (.agg #[.int .i64 0, .int .i64 0, .int .i64 0, .int .i64 0, .bool false, .int .i64 0, .int .i64 0, .int .i64 0, .int .i64 0]) (h := ?_)
  (try simp only [Act.put, sA, sB, sC])
  refine tkL (.bool false) (h := ?_)
  (try simp only [Act.put, sA, sB, sC])
  refine wpList_wp (by rfl) (fun K hK => ?_)
  refine wp_new (fun b => .pointer (some ⟨b, 0, none⟩)) 38 #[.int .i64 0, .int .i64 0, .int .i64 0, .int .i64 0, .bool false, .int .i64 0, .int .i64 0, .int .i64 0, .int .i64 0] (by rintro b rfl; first | rfl | kernel_rfl) ?_
  intro bn6 w11 hge hB hb
  refine hK.out _ _ ?_
  clear hK K
  (try simp only [Act.put, sA, sB, sC])
  have HNn6n4 := Lib.hid (show bn6 ≠ bn4 by have := Blk.lt HBn410.out; omega)
  have HGn6 := Lib.hid (show w.heap.size ≤ bn6 by have := Since.size HS10.out; omega)
  have HIn6_a := Lib.hid (LO.far HFa10.out hge)
  have HIn6_b := Lib.hid (LO.far HFb10.out hge)
  have HS11 := Lib.hid (Since.trans HS10.out hb)
  have HBn411 := Lib.hid (keep_blk hb HBn410.out)
  have HFa11 := Lib.hid (LO.keep hb HFa10.out)
  have HFb11 := Lib.hid (LO.keep hb HFb10.out)
  clear HS10 HBn410 HFa10 HFb10
  clear hb hge
  have HBn611 := Lib.hid hB
  clear hB
  refine wpList_wp (by rfl) (fun K hK => ?_)
  refine wp_st_row 38 _ _ rfl #[.int .i64 0, .int .i64 0, .int .i64 0, .int .i64 0, .bool false, .int .i64 0, .int .i64 0, .int .i64 0, .int .i64 0] rfl rfl (HasRow.of HBn611.out rfl) rfl (by simp [Value.oneCell']) (by kernel_rfl) ?_
  intro w12 hw
  refine hK.out _ _ ?_
  clear hK K
  (try simp only [Act.put, sA, sB, sC])
  have HS12 := Lib.hid (show Since w w12 by rw [hw]; exact Since.setRow HS11.out HGn6.out _)
  have HBn412 := Lib.hid (show Blk w12 bn4 38 #[.int .i64 1, .int .i64 7, .int .i64 0, .int .i64 0, .bool true, .int .i64 5, .int .i64 0, .int .i64 0, .int .i64 0] by rw [hw]; exact Blk.row_far HBn411.out (Ne.symm HNn6n4.out) _)
  have HBn612 := Lib.hid (show Blk w12 bn6 38 #[.int .i64 0, .int .i64 0, .int .i64 0, .int .i64 0, .bool false, .int .i64 0, .int .i64 0, .int .i64 0, .int .i64 0] by rw [hw]; exact Blk.row HBn611.out _)
  have HFa_12 := Lib.hid (show LO w.heap.size a1 k1 ([m5]) Sa_2 w12 by rw [hw]; exact LO.row_far HFa11.out HIn6_a.out _)
  have HFb_12 := Lib.hid (show LO w.heap.size b1 k0 [] [b1] w12 by rw [hw]; exact LO.row_far HFb11.out HIn6_b.out _)
  clear hw HS11 HBn411 HBn611 HFa11 HFb11
  refine tkL (.bool false) (h := ?_)
  (try simp only [Act.put, sA, sB, sC])
  refine wpList_nil ?_
  go_upto_region 5 with fail
  refine wp_region_lit ?_
  refine tkL (.pointer (some ⟨b1, 0, none⟩)) (h := ?_)
  (try simp only [Act.put, sA, sB, sC])
  refine wpList_q (by rfl) (.agg #[.int .i64 1, .int .i64 7, .int .i64 0, .int .i64 0, .bool true, .int .i64 5, .int .i64 0, .int .i64 0, .int .i64 0]) ?he ?_
  case he => exact exec_load_row 38 _ _ HBn412.out rfl rfl Try.underlying38 rfl (by kernel_rfl)
  (try simp only [Act.put, sA, sB, sC])
  refine wpList_wp (by rfl) (fun K hK => ?_)
  (try go_simp)
  refine (recvTakeV HFb_12.out pA 0 rfl rfl rfl rfl (by first | rfl | decide | decide +kernel) rfl k2 (by first | rfl | (simp only [k0, k2]; congr 1 <;> first | rfl | decide | decide +kernel)) #[.int .i64 1, .int .i64 7, .int .i64 0, .int .i64 0, .bool true, .int .i64 5, .int .i64 0, .int .i64 0, .int .i64 0] #[.int .i64 5, .int .i64 0, .int .i64 0, .int .i64 0] rfl rfl).mono ?_
  rintro e w13 ⟨Sb_3, rfl, hobj, hupd, hfar⟩
  (try go_wp2_with fail)
  refine hK.out _ _ ?_
  clear hK K
  (try simp only [Act.put, sA, sB, sC])
  have HS13 := Lib.hid (Since.upd HS12.out hupd (LO.low HFb_12.out))
  have HBn413 := Lib.hid (Upd.blk hupd HBn412.out HIn4_b.out)
  have HIn4_b_13 := Lib.hid (nin_next hfar HIn4_b.out (Blk.lt HBn412.out))
  have HBn613 := Lib.hid (Upd.blk hupd HBn612.out HIn6_b.out)
  have HIn6_b_13 := Lib.hid (nin_next hfar HIn6_b.out (Blk.lt HBn612.out))
  have HFa13 := Lib.hid (LO.upd hupd HFa_12.out (fun g hg h => HDDb_a_7.out g h hg))
  have HDDa_b_13 := Lib.hid (dis_next hfar (fun g hg h => HDDb_a_7.out g h hg) (LO.lt HFa_12.out))
  have HFb13 := Lib.hid hobj
  clear hupd hobj hfar HS12 HBn412 HBn612 HFa_12 HFb_12
  refine tkL (.tuple #[.agg #[.int .i64 5, .int .i64 0, .int .i64 0, .int .i64 0], .bool true]) (h := ?_)
  (try simp only [Act.put, sA, sB, sC])
  refine tkL (.agg #[.int .i64 5, .int .i64 0, .int .i64 0, .int .i64 0]) (h := ?_)
  (try simp only [Act.put, sA, sB, sC])
  refine tkL (.bool true) (h := ?_)
  (try simp only [Act.put, sA, sB, sC])
  refine wpList_wp (by rfl) (fun K hK => ?_)
  refine wp_new (fun b => .pointer (some ⟨b, 0, none⟩)) 36 #[.int .i64 0, .int .i64 0, .int .i64 0, .int .i64 0] (by rintro b rfl; first | rfl | kernel_rfl) ?_
  intro bn8 w14 hge hB hb
  refine hK.out _ _ ?_
  clear hK K
  (try simp only [Act.put, sA, sB, sC])
  have HNn8n4 := Lib.hid (show bn8 ≠ bn4 by have := Blk.lt HBn413.out; omega)
  have HNn8n6 := Lib.hid (show bn8 ≠ bn6 by have := Blk.lt HBn613.out; omega)
  have HGn8 := Lib.hid (show w.heap.size ≤ bn8 by have := Since.size HS13.out; omega)
  have HIn8_a := Lib.hid (LO.far HFa13.out hge)
  have HIn8_b := Lib.hid (LO.far HFb13.out hge)
  have HS14 := Lib.hid (Since.trans HS13.out hb)
  have HBn414 := Lib.hid (keep_blk hb HBn413.out)
  have HBn614 := Lib.hid (keep_blk hb HBn613.out)
  have HFa14 := Lib.hid (LO.keep hb HFa13.out)
  have HFb14 := Lib.hid (LO.keep hb HFb13.out)
  clear HS13 HBn413 HBn613 HFa13 HFb13
  clear hb hge
  have HBn814 := Lib.hid hB
  clear hB
  refine wpList_wp (by rfl) (fun K hK => ?_)
  refine wp_st_row 36 _ _ rfl #[.int .i64 5, .int .i64 0, .int .i64 0, .int .i64 0] rfl rfl (HasRow.of HBn814.out rfl) rfl (by simp [Value.oneCell']) (by kernel_rfl) ?_
  intro w15 hw
  refine hK.out _ _ ?_
  clear hK K
  (try simp only [Act.put, sA, sB, sC])
  have HS15 := Lib.hid (show Since w w15 by rw [hw]; exact Since.setRow HS14.out HGn8.out _)
  have HBn415 := Lib.hid (show Blk w15 bn4 38 #[.int .i64 1, .int .i64 7, .int .i64 0, .int .i64 0, .bool true, .int .i64 5, .int .i64 0, .int .i64 0, .int .i64 0] by rw [hw]; exact Blk.row_far HBn414.out (Ne.symm HNn8n4.out) _)
  have HBn615 := Lib.hid (show Blk w15 bn6 38 #[.int .i64 0, .int .i64 0, .int .i64 0, .int .i64 0, .bool false, .int .i64 0, .int .i64 0, .int .i64 0, .int .i64 0] by rw [hw]; exact Blk.row_far HBn614.out (Ne.symm HNn8n6.out) _)
  have HBn815 := Lib.hid (show Blk w15 bn8 36 #[.int .i64 5, .int .i64 0, .int .i64 0, .int .i64 0] by rw [hw]; exact Blk.row HBn814.out _)
  have HFa_15 := Lib.hid (show LO w.heap.size a1 k1 ([m5]) Sa_2 w15 by rw [hw]; exact LO.row_far HFa14.out HIn8_a.out _)
  have HFb_15 := Lib.hid (show LO w.heap.size b1 k2 ([]) Sb_3 w15 by rw [hw]; exact LO.row_far HFb14.out HIn8_b.out _)
  clear hw HS14 HBn414 HBn614 HBn814 HFa14 HFb14
  refine tkL (.bool true) (h := ?_)
  (try simp only [Act.put, sA, sB, sC])
  refine wpList_nil ?_
  go_upto_region 6 with fail
  refine wp_region_lit ?_
  refine tkL (.pointer (some ⟨b1, 0, none⟩)) (h := ?_)
  (try simp only [Act.put, sA, sB, sC])
  refine wpList_wp (by rfl) (fun K hK => ?_)
  (try go_simp)
  refine (pollAnsV HFb_15.out 0 (by decide) (by first | rfl | decide | decide +kernel) rfl k3 (by first | rfl | (simp only [k2, k3]; congr 1 <;> first | rfl | decide | decide +kernel)) #[.int .i64 1, .int .i64 7, .int .i64 0, .int .i64 1, .bool false, .int .i64 0, .int .i64 0, .int .i64 0, .int .i64 0] rfl).mono ?_
  rintro e w16 ⟨Sb_4, rfl, hobj, hupd, hfar⟩
  (try go_wp2_with fail)
  refine hK.out _ _ ?_
  clear hK K
  (try simp only [Act.put, sA, sB, sC])
  have HS16 := Lib.hid (Since.upd HS15.out hupd (LO.low HFb_15.out))
  have HBn416 := Lib.hid (Upd.blk hupd HBn415.out HIn4_b_13.out)
  have HIn4_b_16 := Lib.hid (nin_next hfar HIn4_b_13.out (Blk.lt HBn415.out))
  have HBn616 := Lib.hid (Upd.blk hupd HBn615.out HIn6_b_13.out)
  have HIn6_b_16 := Lib.hid (nin_next hfar HIn6_b_13.out (Blk.lt HBn615.out))
  have HBn816 := Lib.hid (Upd.blk hupd HBn815.out HIn8_b.out)
  have HIn8_b_16 := Lib.hid (nin_next hfar HIn8_b.out (Blk.lt HBn815.out))
  have HFa16 := Lib.hid (LO.upd hupd HFa_15.out HDDa_b_13.out)
  have HDDa_b_16 := Lib.hid (dis_next hfar HDDa_b_13.out (LO.lt HFa_15.out))
  have HFb16 := Lib.hid hobj
  clear hupd hobj hfar HS15 HBn415 HBn615 HBn815 HFa_15 HFb_15
  refine tkL (.tuple #[.agg #[.int .i64 1, .int .i64 7, .int .i64 0, .int .i64 1, .bool false, .int .i64 0, .int .i64 0, .int .i64 0, .int .i64 0], .bool true]) (h := ?_)
  (try simp only [Act.put, sA, sB, sC])
  refine tkL (.agg #[.int .i64 1, .int .i64 7, .int .i64 0, .int .i64 1, .bool false, .int .i64 0, .int .i64 0, .int .i64 0, .int .i64 0]) (h := ?_)
  (try simp only [Act.put, sA, sB, sC])
  refine tkL (.bool true) (h := ?_)
  (try simp only [Act.put, sA, sB, sC])
  refine wpList_wp (by rfl) (fun K hK => ?_)
  refine wp_new (fun b => .pointer (some ⟨b, 0, none⟩)) 38 #[.int .i64 0, .int .i64 0, .int .i64 0, .int .i64 0, .bool false, .int .i64 0, .int .i64 0, .int .i64 0, .int .i64 0] (by rintro b rfl; first | rfl | kernel_rfl) ?_
  intro bn10 w17 hge hB hb
  refine hK.out _ _ ?_
  clear hK K
  (try simp only [Act.put, sA, sB, sC])
  have HNn10n4 := Lib.hid (show bn10 ≠ bn4 by have := Blk.lt HBn416.out; omega)
  have HNn10n6 := Lib.hid (show bn10 ≠ bn6 by have := Blk.lt HBn616.out; omega)
  have HNn10n8 := Lib.hid (show bn10 ≠ bn8 by have := Blk.lt HBn816.out; omega)
  have HGn10 := Lib.hid (show w.heap.size ≤ bn10 by have := Since.size HS16.out; omega)
  have HIn10_a := Lib.hid (LO.far HFa16.out hge)
  have HIn10_b := Lib.hid (LO.far HFb16.out hge)
  have HS17 := Lib.hid (Since.trans HS16.out hb)
  have HBn417 := Lib.hid (keep_blk hb HBn416.out)
  have HBn617 := Lib.hid (keep_blk hb HBn616.out)
  have HBn817 := Lib.hid (keep_blk hb HBn816.out)
  have HFa17 := Lib.hid (LO.keep hb HFa16.out)
  have HFb17 := Lib.hid (LO.keep hb HFb16.out)
  clear HS16 HBn416 HBn616 HBn816 HFa16 HFb16
  clear hb hge
  have HBn1017 := Lib.hid hB
  clear hB
  refine wpList_wp (by rfl) (fun K hK => ?_)
  refine wp_st_row 38 _ _ rfl #[.int .i64 1, .int .i64 7, .int .i64 0, .int .i64 1, .bool false, .int .i64 0, .int .i64 0, .int .i64 0, .int .i64 0] rfl rfl (HasRow.of HBn1017.out rfl) rfl (by simp [Value.oneCell']) (by kernel_rfl) ?_
  intro w18 hw
  refine hK.out _ _ ?_
  clear hK K
  (try simp only [Act.put, sA, sB, sC])
  have HS18 := Lib.hid (show Since w w18 by rw [hw]; exact Since.setRow HS17.out HGn10.out _)
  have HBn418 := Lib.hid (show Blk w18 bn4 38 #[.int .i64 1, .int .i64 7, .int .i64 0, .int .i64 0, .bool true, .int .i64 5, .int .i64 0, .int .i64 0, .int .i64 0] by rw [hw]; exact Blk.row_far HBn417.out (Ne.symm HNn10n4.out) _)
  have HBn618 := Lib.hid (show Blk w18 bn6 38 #[.int .i64 0, .int .i64 0, .int .i64 0, .int .i64 0, .bool false, .int .i64 0, .int .i64 0, .int .i64 0, .int .i64 0] by rw [hw]; exact Blk.row_far HBn617.out (Ne.symm HNn10n6.out) _)
  have HBn818 := Lib.hid (show Blk w18 bn8 36 #[.int .i64 5, .int .i64 0, .int .i64 0, .int .i64 0] by rw [hw]; exact Blk.row_far HBn817.out (Ne.symm HNn10n8.out) _)
  have HBn1018 := Lib.hid (show Blk w18 bn10 38 #[.int .i64 1, .int .i64 7, .int .i64 0, .int .i64 1, .bool false, .int .i64 0, .int .i64 0, .int .i64 0, .int .i64 0] by rw [hw]; exact Blk.row HBn1017.out _)
  have HFa_18 := Lib.hid (show LO w.heap.size a1 k1 ([m5]) Sa_2 w18 by rw [hw]; exact LO.row_far HFa17.out HIn10_a.out _)
  have HFb_18 := Lib.hid (show LO w.heap.size b1 k3 ([]) Sb_4 w18 by rw [hw]; exact LO.row_far HFb17.out HIn10_b.out _)
  clear hw HS17 HBn417 HBn617 HBn817 HBn1017 HFa17 HFb17
  refine tkL (.bool true) (h := ?_)
  (try simp only [Act.put, sA, sB, sC])
  refine wpList_nil ?_
  go_upto_region 7 with fail
  refine wp_region_lit ?_
  refine tkL (.pointer (some ⟨a1, 0, none⟩)) (h := ?_)
  (try simp only [Act.put, sA, sB, sC])
  refine wpList_q (by rfl) (.agg #[.int .i64 1, .int .i64 7, .int .i64 0, .int .i64 1, .bool false, .int .i64 0, .int .i64 0, .int .i64 0, .int .i64 0]) ?he ?_
  case he => exact exec_load_row 38 _ _ HBn1018.out rfl rfl Try.underlying38 rfl (by kernel_rfl)
  (try simp only [Act.put, sA, sB, sC])
  refine wpList_wp (by rfl) (fun K hK => ?_)
  (try go_simp)
  refine (recvAckV HFa_18.out pB 0 0 (by decide) rfl rfl rfl (by first | rfl | decide | decide +kernel) rfl k4 (by first | rfl | (simp only [k1, k4]; congr 1 <;> first | rfl | decide | decide +kernel)) [] rfl #[.int .i64 1, .int .i64 7, .int .i64 0, .int .i64 1, .bool false, .int .i64 0, .int .i64 0, .int .i64 0, .int .i64 0] rfl).mono ?_
  rintro e w19 ⟨Sa_5, rfl, hobj, hupd, hfar⟩
  (try go_wp2_with fail)
  refine hK.out _ _ ?_
  clear hK K
  (try simp only [Act.put, sA, sB, sC])
  have HS19 := Lib.hid (Since.upd HS18.out hupd (LO.low HFa_18.out))
  have HBn419 := Lib.hid (Upd.blk hupd HBn418.out HIn4_a.out)
  have HIn4_a_19 := Lib.hid (nin_next hfar HIn4_a.out (Blk.lt HBn418.out))
  have HBn619 := Lib.hid (Upd.blk hupd HBn618.out HIn6_a.out)
  have HIn6_a_19 := Lib.hid (nin_next hfar HIn6_a.out (Blk.lt HBn618.out))
  have HBn819 := Lib.hid (Upd.blk hupd HBn818.out HIn8_a.out)
  have HIn8_a_19 := Lib.hid (nin_next hfar HIn8_a.out (Blk.lt HBn818.out))
  have HBn1019 := Lib.hid (Upd.blk hupd HBn1018.out HIn10_a.out)
  have HIn10_a_19 := Lib.hid (nin_next hfar HIn10_a.out (Blk.lt HBn1018.out))
  have HFb19 := Lib.hid (LO.upd hupd HFb_18.out (fun g hg h => HDDa_b_16.out g h hg))
  have HDDb_a_19 := Lib.hid (dis_next hfar (fun g hg h => HDDa_b_16.out g h hg) (LO.lt HFb_18.out))
  have HFa19 := Lib.hid hobj
  clear hupd hobj hfar HS18 HBn418 HBn618 HBn818 HBn1018 HFa_18 HFb_18
  refine wpList_nil ?_
  go_upto_region 8 with fail
  refine wp_region_lit ?_
  refine tkL (.bool true) (h := ?_)
  (try simp only [Act.put, sA, sB, sC])
  refine tkL (.bool true) (h := ?_)
  (try simp only [Act.put, sA, sB, sC])
  refine tkL (.bool true) (h := ?_)
  (try simp only [Act.put, sA, sB, sC])
  refine tkL (.bool true) (h := ?_)
  (try simp only [Act.put, sA, sB, sC])
  refine tkL (.bool true) (h := ?_)
  (try simp only [Act.put, sA, sB, sC])
  refine tkL (.bool false) (h := ?_)
  (try simp only [Act.put, sA, sB, sC])
  refine wpList_q (by rfl) (.bool true) ?he ?_
  case he => (go_simp; (try with_reducible rfl))
  (try simp only [Act.put, sA, sB, sC])
  refine tkL (.bool true) (h := ?_)
  (try simp only [Act.put, sA, sB, sC])
  refine tkL (.bool true) (h := ?_)
  (try simp only [Act.put, sA, sB, sC])
  refine tkL (.bool true) (h := ?_)
  (try simp only [Act.put, sA, sB, sC])
  refine tkL (.bool true) (h := ?_)
  (try simp only [Act.put, sA, sB, sC])
  refine tkL (.bool true) (h := ?_)
  (try simp only [Act.put, sA, sB, sC])
  refine tkL (.pointer (some ⟨bn8, 0, none⟩)) (h := ?_)
  (try simp only [Act.put, sA, sB, sC])
  refine wpList_q (by rfl) (.int .i64 5) ?he ?_
  case he => exact exec_cell 3 _ _ HBn819.out rfl rfl rfl Try.underlying3 rfl
  (try simp only [Act.put, sA, sB, sC])
  refine wpList_q (by rfl) (.bool true) ?he ?_
  case he => (go_simp; (try with_reducible rfl))
  (try simp only [Act.put, sA, sB, sC])
  refine tkL (.bool true) (h := ?_)
  (try simp only [Act.put, sA, sB, sC])
  refine tkL (.bool true) (h := ?_)
  (try simp only [Act.put, sA, sB, sC])
  refine tkL (.bool true) (h := ?_)
  (try simp only [Act.put, sA, sB, sC])
  refine tkL (.bool true) (h := ?_)
  (try simp only [Act.put, sA, sB, sC])
  refine tkL (.bool true) (h := ?_)
  (try simp only [Act.put, sA, sB, sC])
  refine tkL (.pointer (some ⟨bn10, 4, none⟩)) (h := ?_)
  (try simp only [Act.put, sA, sB, sC])
  refine wpList_q (by rfl) (.bool false) ?he ?_
  case he => exact exec_cell 4 _ _ HBn1019.out rfl rfl rfl Try.underlying4 rfl
  (try simp only [Act.put, sA, sB, sC])
  refine wpList_q (by rfl) (.bool true) ?he ?_
  case he => (go_simp; (try with_reducible rfl))
  (try simp only [Act.put, sA, sB, sC])
  refine tkL (.bool true) (h := ?_)
  (try simp only [Act.put, sA, sB, sC])
  refine tkL (.bool true) (h := ?_)
  (try simp only [Act.put, sA, sB, sC])
  refine tkL (.pointer (some ⟨bn10, 3, none⟩)) (h := ?_)
  (try simp only [Act.put, sA, sB, sC])
  refine wpList_q (by rfl) (.int .i64 1) ?he ?_
  case he => exact exec_cell 3 _ _ HBn1019.out rfl rfl rfl Try.underlying3 rfl
  (try simp only [Act.put, sA, sB, sC])
  refine wpList_q (by rfl) (.bool true) ?he ?_
  case he => (go_simp; (try with_reducible rfl))
  (try simp only [Act.put, sA, sB, sC])
  refine tkL (.bool true) (h := ?_)
  (try simp only [Act.put, sA, sB, sC])
  refine tkL (.bool true) (h := ?_)
  (try simp only [Act.put, sA, sB, sC])
  refine tkL (.pointer (some ⟨a1, 0, none⟩)) (h := ?_)
  (try simp only [Act.put, sA, sB, sC])
  refine wpList_wp (by rfl) (fun K hK => ?_)
  (try go_simp)
  refine (waitsV HFa19.out 0 rfl).mono ?_
  rintro e w20 ⟨rfl, hb⟩
  (try go_wp2_with fail)
  refine hK.out _ _ ?_
  clear hK K
  (try simp only [Act.put, sA, sB, sC])
  have HS20 := Lib.hid (Since.trans HS19.out hb)
  have HBn420 := Lib.hid (keep_blk hb HBn419.out)
  have HBn620 := Lib.hid (keep_blk hb HBn619.out)
  have HBn820 := Lib.hid (keep_blk hb HBn819.out)
  have HBn1020 := Lib.hid (keep_blk hb HBn1019.out)
  have HFa20 := Lib.hid (LO.keep hb HFa19.out)
  have HFb20 := Lib.hid (LO.keep hb HFb19.out)
  clear HS19 HBn419 HBn619 HBn819 HBn1019 HFa19 HFb19
  clear hb
  refine wpList_q (by rfl) (.bool true) ?he ?_
  case he => (go_simp; (try with_reducible rfl))
  (try simp only [Act.put, sA, sB, sC])
  refine tkL (.bool true) (h := ?_)
  (try simp only [Act.put, sA, sB, sC])
  refine tkL (.bool true) (h := ?_)
  (try simp only [Act.put, sA, sB, sC])
  refine tkL (.pointer (some ⟨a1, 0, none⟩)) (h := ?_)
  (try simp only [Act.put, sA, sB, sC])
  refine wpList_wp (by rfl) (fun K hK => ?_)
  (try go_simp)
  refine (epochV HFa20.out 7 rfl).mono ?_
  rintro e w21 ⟨rfl, hb⟩
  (try go_wp2_with fail)
  refine hK.out _ _ ?_
  clear hK K
  (try simp only [Act.put, sA, sB, sC])
  have HS21 := Lib.hid (Since.trans HS20.out hb)
  have HBn421 := Lib.hid (keep_blk hb HBn420.out)
  have HBn621 := Lib.hid (keep_blk hb HBn620.out)
  have HBn821 := Lib.hid (keep_blk hb HBn820.out)
  have HBn1021 := Lib.hid (keep_blk hb HBn1020.out)
  have HFa21 := Lib.hid (LO.keep hb HFa20.out)
  have HFb21 := Lib.hid (LO.keep hb HFb20.out)
  clear HS20 HBn420 HBn620 HBn820 HBn1020 HFa20 HFb20
  clear hb
  refine wpList_q (by rfl) (.bool true) ?he ?_
  case he => (go_simp; (try with_reducible rfl))
  (try simp only [Act.put, sA, sB, sC])
  refine tkL (.bool true) (h := ?_)
  (try simp only [Act.put, sA, sB, sC])
  refine tkL (.bool true) (h := ?_)
  (try simp only [Act.put, sA, sB, sC])
  refine wpList_nil ?_
  (try go_wp2_with fail)
  go_ret
  exact ⟨rfl, HS21.out⟩
end Go.Proofs.Ytlihhjcneedgnaa.Ln
