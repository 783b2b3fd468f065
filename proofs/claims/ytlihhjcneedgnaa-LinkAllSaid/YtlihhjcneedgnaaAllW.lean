/-
  LinkAll: walked.
  Conditions: what stands ahead of each.
-/
import Derived.Test.YtlihhjcneedgnaaProg
import Derived.Test.YtlihhjcneedgnaaAllC
import Derived.Test.YtlihhjcneedgnaaLnkE
import Derived.Test.YtlihhjcneedgnaaLnkD
import Derived.Test.YtlihhjcneedgnaaBoo
namespace Go.Proofs.Ytlihhjcneedgnaa.La
set_option linter.unusedVariables false
set_option linter.unusedSimpArgs false
open Go.Proofs.Ytlihhjcneedgnaa.Ln Go.RowKit Go.Proofs.Ytlihhjcneedgnaa.Ba Go.Proofs.Ytlihhjcneedgnaa.Mem Go.Proofs.Ytlihhjcneedgnaa.Ty Go.Proofs.Ytlihhjcneedgnaa.Tm Go.Proofs.Ytlihhjcneedgnaa.Tw
set_option maxRecDepth 100000
open Go.Proofs.Ytlihhjcneedgnaa.Bo (BoV)
attribute [local irreducible] Go.wpList
section
variable {lo q : Nat} {S : List Nat} {w : World}
theorem sendA1 {base sent k : Nat} {du st he : Int} (h : LO lo q (kA base du st he) (ms base sent) S w) (hb : base ≤ sent) (hk : sent ≤ 1000) (hs : sent < k) (h4 : sent < base + 4) :
    Calls Try.prog 14 #[.pointer (some ⟨q, 0, none⟩), .agg #[.int .i64 2, .int .i64 (sent : Int), .int .i64 0, .int .i64 0]] w fun e w' => ∃ S', e = .returned (.bool true) ∧ LO lo q (kA base du st he) (ms base (snd k base sent)) S' w' ∧ Upd S w w' ∧ ∀ g ∈ S', g ∈ S ∨ w.heap.size ≤ g := by
  have h1 := sendA h hb hk hs
  rw [decide_eq_true h4] at h1
  exact h1
theorem sendA0 {base sent k : Nat} {du st he : Int} (h : LO lo q (kA base du st he) (ms base sent) S w) (hb : base ≤ sent) (hk : sent ≤ 1000) (hs : sent < k) (h4 : ¬ sent < base + 4) :
    Calls Try.prog 14 #[.pointer (some ⟨q, 0, none⟩), .agg #[.int .i64 2, .int .i64 (sent : Int), .int .i64 0, .int .i64 0]] w fun e w' => ∃ S', e = .returned (.bool false) ∧ LO lo q (kA base du st he) (ms base (snd k base sent)) S' w' ∧ Upd S w w' ∧ ∀ g ∈ S', g ∈ S ∨ w.heap.size ≤ g := by
  have h1 := sendA h hb hk hs
  rw [decide_eq_false h4] at h1
  exact h1
end
set_option maxHeartbeats 4000000 in
theorem all (A : Option Addr) (len cap : Nat) (bs : Nat → Bool) (n : Int) (k : Nat) (w : World) (hX : BoV w A len bs) (hlen : len ≤ 140737488355328) (hn : 0 ≤ n ∧ n ≤ 255) (hk : (k : Int) = n % 12) : Calls Try.prog 4 #[.slice A len cap, .int .u8 n] w fun e w' => e = .returned (.bool true) ∧ Since w w' := by
  have HX := Lib.hid hX
  clear hX
  have HLEN := Lib.hid hlen
  have HN := Lib.hid hn
  have HK := Lib.hid hk
  clear hlen hn hk
  go_enter Try.func4, Try.ntmps4
  go_upto_region 1 with fail
  have HS1 := Lib.hid (Since.refl w)
  refine wp_region_lit ?_
  refine wpList_wp (by rfl) (fun K hK => ?_)
  (try go_simp)
  refine (configT _).mono ?_
  rintro e w2 ⟨rfl, hb⟩
  (try go_wp2_with fail)
  refine hK.out _ _ ?_
  clear hK K
  (try simp only [Act.put, sA, sB, sC])
  have HS2 := Lib.hid (Since.trans HS1.out hb)
  clear HS1 
  clear hb
  refine wpList_wp (by rfl) (fun K hK => ?_)
  refine wp_new (fun b => .pointer (some ⟨b, 0, none⟩)) 24 #[.int .i64 0, .int .i64 0, .int .i64 0, .int .i64 0, .int .i64 0, .int .i64 0, .int .i64 0, .int .i64 0, .int .i64 0, .int .i64 0, .int .i64 0, .int .i64 0, .int .i64 0, .int .i64 0, .int .i64 0, .int .i64 0, .int .i64 0, .int .i64 0] (by rintro b rfl; first | rfl | kernel_rfl) ?_
  intro bn5 w3 hge hB hb
  refine hK.out _ _ ?_
  clear hK K
  (try simp only [Act.put, sA, sB, sC])
  have HGn5 := Lib.hid (show w.heap.size ≤ bn5 by have := Since.size HS2.out; omega)
  have HS3 := Lib.hid (Since.trans HS2.out hb)
  clear HS2 
  clear hb hge
  have HBn53 := Lib.hid hB
  clear hB
  refine wpList_wp (by rfl) (fun K hK => ?_)
  refine wp_st_row 24 _ _ rfl #[.int .i64 0, .int .i64 0, .int .i64 0, .int .i64 0, .int .i64 0, .int .i64 0, .int .i64 0, .int .i64 0, .int .i64 0, .int .i64 0, .int .i64 0, .int .i64 0, .int .i64 0, .int .i64 2, .int .i64 9, .int .i64 3, .int .i64 50, .int .i64 4] rfl rfl (HasRow.of HBn53.out rfl) rfl (by simp [Value.oneCell']) (by kernel_rfl) ?_
  intro w4 hw
  refine hK.out _ _ ?_
  clear hK K
  (try simp only [Act.put, sA, sB, sC])
  have HS4 := Lib.hid (show Since w w4 by rw [hw]; exact Since.setRow HS3.out HGn5.out _)
  have HBn54 := Lib.hid (show Blk w4 bn5 24 #[.int .i64 0, .int .i64 0, .int .i64 0, .int .i64 0, .int .i64 0, .int .i64 0, .int .i64 0, .int .i64 0, .int .i64 0, .int .i64 0, .int .i64 0, .int .i64 0, .int .i64 0, .int .i64 2, .int .i64 9, .int .i64 3, .int .i64 50, .int .i64 4] by rw [hw]; exact Blk.row HBn53.out _)
  clear hw HS3 HBn53
  refine wpList_nil ?_
  go_upto_region 2 with fail
  refine wp_region_lit ?_
  refine wpList_q (by rfl) (.pointer (some ⟨bn5, 15, none⟩)) ?he ?_
  case he => (first | rfl | (go_simp; (try with_reducible rfl)))
  (try simp only [Act.put, sA, sB, sC])
  refine wpList_wp (by rfl) (fun K hK => ?_)
  refine wp_st_cell 3 _ _ rfl #[.int .i64 0, .int .i64 0, .int .i64 0, .int .i64 0, .int .i64 0, .int .i64 0, .int .i64 0, .int .i64 0, .int .i64 0, .int .i64 0, .int .i64 0, .int .i64 0, .int .i64 0, .int .i64 2, .int .i64 9, .int .i64 1073741824, .int .i64 50, .int .i64 4] (.int .i64 1073741824) rfl rfl HBn54.out (by show 15 < 18; decide) rfl (by first | rfl | simp [Value.oneCell']) (by kernel_rfl) ?_
  intro w5 hw
  refine hK.out _ _ ?_
  clear hK K
  (try simp only [Act.put, sA, sB, sC])
  have HS5 := Lib.hid (show Since w w5 by rw [hw]; exact Since.setRow HS4.out HGn5.out _)
  have HBn55 := Lib.hid (show Blk w5 bn5 24 #[.int .i64 0, .int .i64 0, .int .i64 0, .int .i64 0, .int .i64 0, .int .i64 0, .int .i64 0, .int .i64 0, .int .i64 0, .int .i64 0, .int .i64 0, .int .i64 0, .int .i64 0, .int .i64 2, .int .i64 9, .int .i64 1073741824, .int .i64 50, .int .i64 4] by rw [hw]; exact Blk.row HBn54.out _)
  clear hw HS4 HBn54
  refine wpList_q (by rfl) (.pointer (some ⟨bn5, 16, none⟩)) ?he ?_
  case he => (first | rfl | (go_simp; (try with_reducible rfl)))
  (try simp only [Act.put, sA, sB, sC])
  refine wpList_wp (by rfl) (fun K hK => ?_)
  refine wp_st_cell 3 _ _ rfl #[.int .i64 0, .int .i64 0, .int .i64 0, .int .i64 0, .int .i64 0, .int .i64 0, .int .i64 0, .int .i64 0, .int .i64 0, .int .i64 0, .int .i64 0, .int .i64 0, .int .i64 0, .int .i64 2, .int .i64 9, .int .i64 1073741824, .int .i64 1073741824, .int .i64 4] (.int .i64 1073741824) rfl rfl HBn55.out (by show 16 < 18; decide) rfl (by first | rfl | simp [Value.oneCell']) (by kernel_rfl) ?_
  intro w6 hw
  refine hK.out _ _ ?_
  clear hK K
  (try simp only [Act.put, sA, sB, sC])
  have HS6 := Lib.hid (show Since w w6 by rw [hw]; exact Since.setRow HS5.out HGn5.out _)
  have HBn56 := Lib.hid (show Blk w6 bn5 24 #[.int .i64 0, .int .i64 0, .int .i64 0, .int .i64 0, .int .i64 0, .int .i64 0, .int .i64 0, .int .i64 0, .int .i64 0, .int .i64 0, .int .i64 0, .int .i64 0, .int .i64 0, .int .i64 2, .int .i64 9, .int .i64 1073741824, .int .i64 1073741824, .int .i64 4] by rw [hw]; exact Blk.row HBn55.out _)
  clear hw HS5 HBn55
  refine wpList_nil ?_
  go_upto_region 3 with fail
  go_cut [6, 7] (fun s6 s7 wx => Hid (∃ ba : Nat, ∃ bb : Nat, s6 = .pointer (some ⟨ba, 0, none⟩) ∧ s7 = .pointer (some ⟨bb, 0, none⟩) ∧ Since w wx ∧ Blk wx bn5 24 #[.int .i64 0, .int .i64 0, .int .i64 0, .int .i64 0, .int .i64 0, .int .i64 0, .int .i64 0, .int .i64 0, .int .i64 0, .int .i64 0, .int .i64 0, .int .i64 0, .int .i64 0, .int .i64 2, .int .i64 9, .int .i64 1073741824, .int .i64 1073741824, .int .i64 4] ∧ Blk wx ba 88 #[.int .i64 0, .int .i64 0, .int .i64 0, .int .i64 0, .int .i64 0, .int .i64 0, .int .i64 0, .int .i64 0, .int .i64 0, .int .i64 0, .int .i64 0, .int .i64 0, .int .i64 0, .int .i64 2, .int .i64 9, .int .i64 1073741824, .int .i64 1073741824, .int .i64 4, .int .i64 0, .int .i64 (1 % 65536), .slice none 0 0, .int .i64 0, .int .i64 0, .int .i64 0, .int .i64 0, .bool false, .int .i64 (cl 0)] ∧ Blk wx bb 88 #[.int .i64 0, .int .i64 0, .int .i64 0, .int .i64 0, .int .i64 0, .int .i64 0, .int .i64 0, .int .i64 0, .int .i64 0, .int .i64 0, .int .i64 0, .int .i64 0, .int .i64 0, .int .i64 2, .int .i64 9, .int .i64 1073741824, .int .i64 1073741824, .int .i64 4, .int .i64 0, .int .i64 (1 % 65536), .slice none 0 0, .int .i64 0, .int .i64 0, .int .i64 0, .int .i64 0, .bool false, .int .i64 (cl 0)] ∧ w.heap.size ≤ ba ∧ ba ≠ bn5 ∧ w.heap.size ≤ bb ∧ bb ≠ bn5 ∧ bb ≠ ba))
  case first =>
    have hrK : ∀ W W' : World, Since W W' → (Since w W ∧ Blk W bn5 24 #[.int .i64 0, .int .i64 0, .int .i64 0, .int .i64 0, .int .i64 0, .int .i64 0, .int .i64 0, .int .i64 0, .int .i64 0, .int .i64 0, .int .i64 0, .int .i64 0, .int .i64 0, .int .i64 2, .int .i64 9, .int .i64 1073741824, .int .i64 1073741824, .int .i64 4]) → (Since w W' ∧ Blk W' bn5 24 #[.int .i64 0, .int .i64 0, .int .i64 0, .int .i64 0, .int .i64 0, .int .i64 0, .int .i64 0, .int .i64 0, .int .i64 0, .int .i64 0, .int .i64 0, .int .i64 0, .int .i64 0, .int .i64 2, .int .i64 9, .int .i64 1073741824, .int .i64 1073741824, .int .i64 4]) := fun W W' k ⟨h, h0⟩ => ⟨h.trans k, keep_blk k h0⟩
    have hrS : (fun W : World => Since w W ∧ Blk W bn5 24 #[.int .i64 0, .int .i64 0, .int .i64 0, .int .i64 0, .int .i64 0, .int .i64 0, .int .i64 0, .int .i64 0, .int .i64 0, .int .i64 0, .int .i64 0, .int .i64 0, .int .i64 0, .int .i64 2, .int .i64 9, .int .i64 1073741824, .int .i64 1073741824, .int .i64 4]) w6 := ⟨HS6.out, HBn56.out⟩
    have HRK := Lib.hid hrK
    have HRD := Lib.hid (show (fun W : World => Since w W ∧ Blk W bn5 24 #[.int .i64 0, .int .i64 0, .int .i64 0, .int .i64 0, .int .i64 0, .int .i64 0, .int .i64 0, .int .i64 0, .int .i64 0, .int .i64 0, .int .i64 0, .int .i64 0, .int .i64 0, .int .i64 2, .int .i64 9, .int .i64 1073741824, .int .i64 1073741824, .int .i64 4]) (World.drew w6) from hrK _ _ ((Since.refl w6).drew) hrS)
    clear hrK hrS
    refine wp_region_held_drew (S := fun W : World => Since w W ∧ Blk W bn5 24 #[.int .i64 0, .int .i64 0, .int .i64 0, .int .i64 0, .int .i64 0, .int .i64 0, .int .i64 0, .int .i64 0, .int .i64 0, .int .i64 0, .int .i64 0, .int .i64 0, .int .i64 0, .int .i64 2, .int .i64 9, .int .i64 1073741824, .int .i64 1073741824, .int .i64 4]) (by kernel_rfl) HRD.out (fun hHeld => ?_)
    refine wpAnyH_take (i := 0) (oi := ?o3__0) (v := .agg #[.int .i64 0, .int .i64 0, .int .i64 0, .int .i64 0, .int .i64 0, .int .i64 0, .int .i64 0, .int .i64 0, .int .i64 0, .int .i64 0, .int .i64 0, .int .i64 0, .int .i64 0, .int .i64 2, .int .i64 9, .int .i64 1073741824, .int .i64 1073741824, .int .i64 4]) ?h3__0 (by kernel_rfl) (by kernel_rfl) (by kernel_rfl) ?q3__0 ?y3__0 (by assumption) ?_
    case h3__0 => (first | (simp only [gA, gB, gC]; done) | (simp only [gA, gB, gC]; exact rfl))
    case q3__0 => exact fun _ _ _ h => h
    case y3__0 => (refine Or.inl ⟨rfl, ?_⟩; intro w hSw; exact exec_load_row 24 _ _ hSw.2 rfl rfl Try.underlying24 rfl (by kernel_rfl))
    (try simp only [Act.put, sA, sB, sC])
    refine wpAnyH_take (i := 2) (oi := ?o3__2) (v := .agg #[.int .i64 0, .int .i64 0, .int .i64 0, .int .i64 0, .int .i64 0, .int .i64 0, .int .i64 0, .int .i64 0, .int .i64 0, .int .i64 0, .int .i64 0, .int .i64 0, .int .i64 0, .int .i64 2, .int .i64 9, .int .i64 1073741824, .int .i64 1073741824, .int .i64 4]) ?h3__2 (by kernel_rfl) (by kernel_rfl) (by kernel_rfl) ?q3__2 ?y3__2 (by assumption) ?_
    case h3__2 => (first | (simp only [gA, gB, gC]; done) | (simp only [gA, gB, gC]; exact rfl))
    case q3__2 => exact fun _ _ _ h => h
    case y3__2 => (refine Or.inl ⟨rfl, ?_⟩; intro w hSw; exact exec_load_row 24 _ _ hSw.2 rfl rfl Try.underlying24 rfl (by kernel_rfl))
    (try simp only [Act.put, sA, sB, sC])
    refine wpAnyH_ready (rs := [1]) (by kernel_rfl) (by simp) ?_
    refine AllReadyH.cons (o := ?o3__1) ?h3__1 (fun K hK => ?_) AllReadyH.nil
    case h3__1 => (first | (simp only [gA, gB, gC]; done) | (simp only [gA, gB, gC]; exact rfl))
    (try go_simp)
    refine (newA cA 0 1 0 _).mono ?_
    rintro e w7 ⟨ba, rfl, hge, hB, hb⟩
    (try go_wp2_with fail)
    refine hK.out _ _ (by (apply HRK.out; exact hb; exact hHeld)) (fun hHeld2 => ?_)
    have HNan5 := Lib.hid (show ba ≠ bn5 by have := Blk.lt (hHeld.2); (try simp at this); (try simp at hge); omega)
    have HGa := Lib.hid (show w.heap.size ≤ ba by have := Since.size hHeld.1; (try simp at this); (try simp at hge); omega)
    have HXa := Lib.hid hB
    clear hB
    clear hge
    clear hK K hHeld hb
    have hHeld := hHeld2
    clear hHeld2
    (try simp only [Act.put, sA, sB, sC])
    refine wpAnyH_ready (rs := [3]) (by kernel_rfl) (by simp) ?_
    refine AllReadyH.cons (o := ?o3__3) ?h3__3 (fun K hK => ?_) AllReadyH.nil
    case h3__3 => (first | (simp only [gA, gB, gC]; done) | (simp only [gA, gB, gC]; exact rfl))
    (try go_simp)
    refine (newA cA 0 1 0 _).mono ?_
    rintro e w8 ⟨bb, rfl, hge, hB, hb⟩
    (try go_wp2_with fail)
    refine hK.out _ _ (by (apply HRK.out; exact hb; exact hHeld)) (fun hHeld2 => ?_)
    have HNba := Lib.hid (show bb ≠ ba by have := Blk.lt HXa.out; omega)
    have HXa2 := Lib.hid (keep_blk hb HXa.out)
    clear HXa
    have HNbn5 := Lib.hid (show bb ≠ bn5 by have := Blk.lt (hHeld.2); (try simp at this); (try simp at hge); omega)
    have HGb := Lib.hid (show w.heap.size ≤ bb by have := Since.size hHeld.1; (try simp at this); (try simp at hge); omega)
    have HXb := Lib.hid hB
    clear hB
    clear hge
    clear hK K hHeld hb
    have hHeld := hHeld2
    clear hHeld2
    (try simp only [Act.put, sA, sB, sC])
    refine wpAnyH_take (i := 4) (oi := ?o3__4) (v := .pointer (some ⟨ba, 0, none⟩)) ?h3__4 (by kernel_rfl) (by kernel_rfl) (by kernel_rfl) ?q3__4 ?y3__4 (by assumption) ?_
    case h3__4 => (first | (simp only [gA, gB, gC]; done) | (simp only [gA, gB, gC]; exact rfl))
    case q3__4 => exact fun _ _ _ h => h
    case y3__4 => (refine Or.inl ⟨rfl, ?_⟩; intro w hSw; (first | rfl | (go_simp; (try with_reducible rfl))))
    (try simp only [Act.put, sA, sB, sC])
    refine wpAnyH_take (i := 5) (oi := ?o3__5) (v := .pointer (some ⟨bb, 0, none⟩)) ?h3__5 (by kernel_rfl) (by kernel_rfl) (by kernel_rfl) ?q3__5 ?y3__5 (by assumption) ?_
    case h3__5 => (first | (simp only [gA, gB, gC]; done) | (simp only [gA, gB, gC]; exact rfl))
    case q3__5 => exact fun _ _ _ h => h
    case y3__5 => (refine Or.inl ⟨rfl, ?_⟩; intro w hSw; (first | rfl | (go_simp; (try with_reducible rfl))))
    (try simp only [Act.put, sA, sB, sC])
    refine wpAnyH_done (by kernel_rfl) ?_ _
    have HSd3 := Lib.hid hHeld.1
    have HBn5d3 := Lib.hid (hHeld.2)
    clear hHeld HRK HRD HS6 HBn56
    go_wp2_with fail
    go_meet
    case rel => exact Lib.hid ⟨ba, bb, rfl, rfl, HSd3.out, HBn5d3.out, HXa2.out, HXb.out, HGa.out, HNan5.out, HGb.out, HNbn5.out, HNba.out⟩
  case rest =>
    clear HS6 HBn56
    obtain ⟨ba, bb, rfl, rfl, g0, g1, g2, g3, g4, g5, g6, g7, g8⟩ := hcut.out
    clear hcut
    have HS56 := Lib.hid g0
    have HBn556 := Lib.hid g1
    have HBa56 := Lib.hid g2
    have HBb56 := Lib.hid g3
    have HGa := Lib.hid g4
    have HNan5 := Lib.hid g5
    have HGb := Lib.hid g6
    have HNbn5 := Lib.hid g7
    have HNba := Lib.hid g8
    clear g0 g1 g2 g3 g4 g5 g6 g7 g8
    have HFa0 := Lib.hid (show LO w.heap.size ba (kA 0 0 0 0) (ms 0 0) [ba] wc from ⟨HGa.out, none, 0, rfl, HBa56.out, World.ownsRow_nil _ _ _ _⟩)
    have HFb0 := Lib.hid (show LO w.heap.size bb (kB 0 false 0) [] [bb] wc from ⟨HGb.out, none, 0, rfl, HBb56.out, World.ownsRow_nil _ _ _ _⟩)
    have HDab := Lib.hid (show ∀ g ∈ [ba], g ∉ [bb] from fun g hg h => by have q1 := List.mem_singleton.1 hg; have q2 := List.mem_singleton.1 h; exact (Ne.symm HNba.out) (q1.symm.trans q2))
    go_upto_region 4 with fail
    refine wp_region_lit ?_
    refine wpList_q (by rfl) (.int .i64 0) ?he ?_
    case he => (first | rfl | (go_simp; (try with_reducible rfl)))
    (try simp only [Act.put, sA, sB, sC])
    refine wpList_q (by rfl) (.int .i64 0) ?he ?_
    case he => (first | rfl | (go_simp; (try with_reducible rfl)))
    (try simp only [Act.put, sA, sB, sC])
    refine wpList_nil ?_
    go_upto_region 5 with fail
    refine wp_region_lit ?_
    refine wpList_q (by rfl) (.int .u8 n) ?he ?_
    case he => (first | rfl | (go_simp; (try with_reducible rfl)))
    (try simp only [Act.put, sA, sB, sC])
    refine wpList_q (by rfl) (.int .u8 (n % 12)) ?he ?_
    case he => (have q := HN.out; have t := Int.tmod_eq_emod_of_nonneg (b := 12) q.1; go_simp; (first | done | rfl | (rw [t]; done) | (simp only [t, IntKind.wrap, IntKind.bits, IntKind.signed]; simp; omega) | omega))
    (try simp only [Act.put, sA, sB, sC])
    refine wpList_q (by rfl) (.int .i64 (k : Int)) ?he ?_
    case he => (have q := HK.out; go_simp; (first | done | rfl | (rw [q]; done) | (simp only [IntKind.wrap, IntKind.bits, IntKind.signed]; simp; omega) | omega))
    (try simp only [Act.put, sA, sB, sC])
    refine wpList_q (by rfl) (.int .i64 (k : Int)) ?he ?_
    case he => (first | rfl | (go_simp; (try with_reducible rfl)))
    (try simp only [Act.put, sA, sB, sC])
    refine wpList_nil ?_
    go_upto_region 6 with fail
    refine wp_region_lit ?_
    refine wpList_q (by rfl) (.int .i64 0) ?he ?_
    case he => (first | rfl | (go_simp; (try with_reducible rfl)))
    (try simp only [Act.put, sA, sB, sC])
    refine wpList_nil ?_
    go_wp2_with fail
    have HAI := Lib.hid (first k len)
    go_loopw [8, 9, 11] (fun s8 s9 s11 wr => ∃ (i base sent got : Nat) (du st ha hb : Int) (Sa Sb : List Nat), i ≤ 60 + 20 * k + len ∧ (i = 0 ∨ len ≤ 200) ∧ s8 = .int .i64 (sent : Int) ∧ s9 = .int .i64 (got : Int) ∧ s11 = .int .i64 (i : Int) ∧ Hid (AllI k len i base sent got du st ∧ (∀ g ∈ Sa, g ∉ Sb) ∧ Since w wr ∧ LO w.heap.size ba (kA base du st ha) (ms base sent) Sa wr ∧ LO w.heap.size bb (kB got false hb) [] Sb wr)) (fun s8 s9 s11 wq => ((60 + 20 * k + len : Nat) - intOf s11).toNat)
    case atStart => exact ⟨0, 0, 0, 0, 0, 0, 0, 0, [ba], [bb], Nat.zero_le _, .inl rfl, rfl, rfl, rfl, Lib.hid ⟨HAI.out, HDab.out, HS56.out, HFa0.out, HFb0.out⟩⟩
    case round =>
      obtain ⟨i, base, sent, got, du, st, ha, hb, Sa, Sb, hi, hi0, rfl, rfl, rfl, HO⟩ := hrel
      obtain ⟨e0, e1, g0, g1, g2⟩ := HO.out
      clear HO HS56 HBn556 HFa0 HFb0
      have HAI := Lib.hid e0
      have HDab := Lib.hid e1
      have HS106 := Lib.hid g0
      have HFa106 := Lib.hid g1
      have HFb106 := Lib.hid g2
      clear e0 e1 g0 g1 g2
      have HI := Lib.hid hi; have HI0 := Lib.hid hi0; clear hi hi0
      have HK12 := Lib.hid (show k ≤ 11 from by have q := HK.out; omega)
      by_cases hcs : i < 60 + 20 * k + len
      rotate_left
      · have HLT0 := Lib.hid hcs; clear hcs
        go_upto_region 7 with fail
        refine wp_region_lit ?_
        refine wpList_q (by rfl) (.int .i64 (i : Int)) ?he ?_
        case he => (first | rfl | (go_simp; (try with_reducible rfl)))
        (try simp only [Act.put, sA, sB, sC])
        refine wpList_q (by rfl) (.int .i64 (k : Int)) ?he ?_
        case he => (first | rfl | (go_simp; (try with_reducible rfl)))
        (try simp only [Act.put, sA, sB, sC])
        refine wpList_q (by rfl) (.int .i64 (20 * (k : Int))) ?he ?_
        case he => (go_simp; (first | done | (refine wr64 _ ?_ ?_ <;> (have q0 := HK12.out; omega)) | (have q0 := HK12.out; omega) | (have q0 := HK12.out; split <;> omega) | (have q0 := HK12.out; intro hh; omega)))
        (try simp only [Act.put, sA, sB, sC])
        refine wpList_q (by rfl) (.int .i64 (60 + 20 * (k : Int))) ?he ?_
        case he => (go_simp; (first | done | (refine wr64 _ ?_ ?_ <;> (have q0 := HK12.out; omega)) | (have q0 := HK12.out; omega) | (have q0 := HK12.out; split <;> omega) | (have q0 := HK12.out; intro hh; omega)))
        (try simp only [Act.put, sA, sB, sC])
        refine wpList_q (by rfl) (.slice A len cap) ?he ?_
        case he => (first | rfl | (go_simp; (try with_reducible rfl)))
        (try simp only [Act.put, sA, sB, sC])
        refine wpList_q (by rfl) (.int .i64 len) ?he ?_
        case he => (go_simp; (try with_reducible rfl))
        (try simp only [Act.put, sA, sB, sC])
        refine wpList_q (by rfl) (.int .i64 (60 + 20 * (k : Int) + (len : Int))) ?he ?_
        case he => (go_simp; (first | done | (refine wr64 _ ?_ ?_ <;> (have q0 := HK12.out; have q1 := HLEN.out; omega)) | (have q0 := HK12.out; have q1 := HLEN.out; omega) | (have q0 := HK12.out; have q1 := HLEN.out; split <;> omega) | (have q0 := HK12.out; have q1 := HLEN.out; intro hh; omega)))
        (try simp only [Act.put, sA, sB, sC])
        refine wpList_q (by rfl) (.bool false) ?he ?_
        case he => (have q0 := HLT0.out; go_simp; (first | done | rfl | omega))
        (try simp only [Act.put, sA, sB, sC])
        refine wpList_nil ?_
        have HZ := Lib.hid (show base = k ∧ sent = k ∧ got = k from last (n := len) (by have q1 := HLT0.out; have q2 := HI.out; have q3 := HAI.out; rw [show i = 60 + 20 * k + len by omega] at q3; exact q3))
        go_upto_region 23 with fail
        refine wp_region_lit ?_
        refine wpList_wp (by rfl) (fun K hK => ?_)
        (try go_simp)
        refine (ans _).mono ?_
        rintro e w107 ⟨rfl, hb⟩
        (try go_wp2_with fail)
        refine hK.out _ _ ?_
        clear hK K
        (try simp only [Act.put, sA, sB, sC])
        have HS107 := Lib.hid (Since.trans HS106.out hb)
        have HFa107 := Lib.hid (LO.keep hb HFa106.out)
        have HFb107 := Lib.hid (LO.keep hb HFb106.out)
        clear HS106 HFa106 HFb106
        clear hb
        refine wpList_q (by rfl) (.bool true) ?he ?_
        case he => (first | rfl | (go_simp; (try with_reducible rfl)))
        (try simp only [Act.put, sA, sB, sC])
        refine wpList_q (by rfl) (.int .i64 (sent : Int)) ?he ?_
        case he => (first | rfl | (go_simp; (try with_reducible rfl)))
        (try simp only [Act.put, sA, sB, sC])
        refine wpList_q (by rfl) (.int .i64 (k : Int)) ?he ?_
        case he => (first | rfl | (go_simp; (try with_reducible rfl)))
        (try simp only [Act.put, sA, sB, sC])
        refine wpList_q (by rfl) (.bool true) ?he ?_
        case he => (have q := HZ.out.2.1; go_simp; (first | done | rfl | omega))
        (try simp only [Act.put, sA, sB, sC])
        refine wpList_q (by rfl) (.bool true) ?he ?_
        case he => (first | rfl | (go_simp; (try with_reducible rfl)))
        (try simp only [Act.put, sA, sB, sC])
        refine wpList_q (by rfl) (.bool true) ?he ?_
        case he => (first | rfl | (go_simp; (try with_reducible rfl)))
        (try simp only [Act.put, sA, sB, sC])
        refine wpList_q (by rfl) (.int .i64 (got : Int)) ?he ?_
        case he => (first | rfl | (go_simp; (try with_reducible rfl)))
        (try simp only [Act.put, sA, sB, sC])
        refine wpList_q (by rfl) (.int .i64 (k : Int)) ?he ?_
        case he => (first | rfl | (go_simp; (try with_reducible rfl)))
        (try simp only [Act.put, sA, sB, sC])
        refine wpList_q (by rfl) (.bool true) ?he ?_
        case he => (have q := HZ.out.2.2; go_simp; (first | done | rfl | omega))
        (try simp only [Act.put, sA, sB, sC])
        refine wpList_q (by rfl) (.bool true) ?he ?_
        case he => (first | rfl | (go_simp; (try with_reducible rfl)))
        (try simp only [Act.put, sA, sB, sC])
        refine wpList_q (by rfl) (.bool true) ?he ?_
        case he => (first | rfl | (go_simp; (try with_reducible rfl)))
        (try simp only [Act.put, sA, sB, sC])
        refine wpList_q (by rfl) (.pointer (some ⟨ba, 0, none⟩)) ?he ?_
        case he => (first | rfl | (go_simp; (try with_reducible rfl)))
        (try simp only [Act.put, sA, sB, sC])
        refine wpList_wp (by rfl) (fun K hK => ?_)
        (try go_simp)
        refine (waitsV HFa107.out 0 (by rw [ms_len, HZ.out.1, HZ.out.2.1]; omega)).mono ?_
        rintro e w108 ⟨rfl, hb⟩
        (try go_wp2_with fail)
        refine hK.out _ _ ?_
        clear hK K
        (try simp only [Act.put, sA, sB, sC])
        have HS108 := Lib.hid (Since.trans HS107.out hb)
        have HFa108 := Lib.hid (LO.keep hb HFa107.out)
        have HFb108 := Lib.hid (LO.keep hb HFb107.out)
        clear HS107 HFa107 HFb107
        clear hb
        refine wpList_q (by rfl) (.bool true) ?he ?_
        case he => (go_simp; (try with_reducible rfl))
        (try simp only [Act.put, sA, sB, sC])
        refine wpList_q (by rfl) (.bool true) ?he ?_
        case he => (first | rfl | (go_simp; (try with_reducible rfl)))
        (try simp only [Act.put, sA, sB, sC])
        refine wpList_q (by rfl) (.bool true) ?he ?_
        case he => (first | rfl | (go_simp; (try with_reducible rfl)))
        (try simp only [Act.put, sA, sB, sC])
        refine wpList_nil ?_
        (try go_wp2_with fail)
        go_ret
        exact ⟨rfl, HS108.out⟩
      · have HLT0 := Lib.hid hcs; clear hcs
        go_upto_region 7 with fail
        refine wp_region_lit ?_
        refine wpList_q (by rfl) (.int .i64 (i : Int)) ?he ?_
        case he => (first | rfl | (go_simp; (try with_reducible rfl)))
        (try simp only [Act.put, sA, sB, sC])
        refine wpList_q (by rfl) (.int .i64 (k : Int)) ?he ?_
        case he => (first | rfl | (go_simp; (try with_reducible rfl)))
        (try simp only [Act.put, sA, sB, sC])
        refine wpList_q (by rfl) (.int .i64 (20 * (k : Int))) ?he ?_
        case he => (go_simp; (first | done | (refine wr64 _ ?_ ?_ <;> (have q0 := HK12.out; omega)) | (have q0 := HK12.out; omega) | (have q0 := HK12.out; split <;> omega) | (have q0 := HK12.out; intro hh; omega)))
        (try simp only [Act.put, sA, sB, sC])
        refine wpList_q (by rfl) (.int .i64 (60 + 20 * (k : Int))) ?he ?_
        case he => (go_simp; (first | done | (refine wr64 _ ?_ ?_ <;> (have q0 := HK12.out; omega)) | (have q0 := HK12.out; omega) | (have q0 := HK12.out; split <;> omega) | (have q0 := HK12.out; intro hh; omega)))
        (try simp only [Act.put, sA, sB, sC])
        refine wpList_q (by rfl) (.slice A len cap) ?he ?_
        case he => (first | rfl | (go_simp; (try with_reducible rfl)))
        (try simp only [Act.put, sA, sB, sC])
        refine wpList_q (by rfl) (.int .i64 len) ?he ?_
        case he => (go_simp; (try with_reducible rfl))
        (try simp only [Act.put, sA, sB, sC])
        refine wpList_q (by rfl) (.int .i64 (60 + 20 * (k : Int) + (len : Int))) ?he ?_
        case he => (go_simp; (first | done | (refine wr64 _ ?_ ?_ <;> (have q0 := HK12.out; have q1 := HLEN.out; omega)) | (have q0 := HK12.out; have q1 := HLEN.out; omega) | (have q0 := HK12.out; have q1 := HLEN.out; split <;> omega) | (have q0 := HK12.out; have q1 := HLEN.out; intro hh; omega)))
        (try simp only [Act.put, sA, sB, sC])
        refine wpList_q (by rfl) (.bool true) ?he ?_
        case he => (have q0 := HLT0.out; go_simp; (first | done | rfl | omega))
        (try simp only [Act.put, sA, sB, sC])
        refine wpList_nil ?_
        by_cases hcs : 200 < len
        rotate_left
        · have HL2 := Lib.hid hcs; clear hcs
          go_upto_region 9 with fail
          refine wp_region_lit ?_
          refine wpList_q (by rfl) (.slice A len cap) ?he ?_
          case he => (first | rfl | (go_simp; (try with_reducible rfl)))
          (try simp only [Act.put, sA, sB, sC])
          refine wpList_q (by rfl) (.int .i64 len) ?he ?_
          case he => (go_simp; (try with_reducible rfl))
          (try simp only [Act.put, sA, sB, sC])
          refine wpList_q (by rfl) (.bool false) ?he ?_
          case he => (have q0 := HL2.out; go_simp; (first | done | rfl | omega))
          (try simp only [Act.put, sA, sB, sC])
          refine wpList_nil ?_
          have HI5 := Lib.hid (show i ≤ 500 from by have q1 := HLT0.out; have q2 := HK12.out; have q3 := HL2.out; omega)
          have HBD := Lib.hid (show base ≤ sent ∧ sent ≤ 11 ∧ base ≤ got ∧ got ≤ base + 1 ∧ got ≤ sent ∧ 0 ≤ du ∧ du ≤ 1000 ∧ 0 ≤ st ∧ st ≤ 1000 from by have h := HAI.out; unfold AllI at h; have q1 := HI5.out; have q2 := HK12.out; have q3 := HL2.out; omega)
          have HSN := Lib.hid (snd_le HAI.out)
          go_upto_region 11 with fail
          go_cut [49] (fun s49 wx => Hid (∃ (Sa2 : List Nat) (bS : Bool), s49 = .bool bS ∧ ((bS = true ∧ snd k base sent = sent + 1) ∨ (bS = false ∧ snd k base sent = sent)) ∧ (∀ g ∈ Sa2, g ∉ Sb) ∧ Since w wx ∧ LO w.heap.size ba (kA base du st ha) (ms base (snd k base sent)) Sa2 wx ∧ LO w.heap.size bb (kB got false hb) [] Sb wx))
          case first =>
            by_cases hcs : sent < k
            rotate_left
            · have HSK := Lib.hid hcs; clear hcs
              refine wp_region_lit ?_
              refine wpList_q (by rfl) (.int .i64 (sent : Int)) ?he ?_
              case he => (first | rfl | (go_simp; (try with_reducible rfl)))
              (try simp only [Act.put, sA, sB, sC])
              refine wpList_q (by rfl) (.int .i64 (k : Int)) ?he ?_
              case he => (first | rfl | (go_simp; (try with_reducible rfl)))
              (try simp only [Act.put, sA, sB, sC])
              refine wpList_q (by rfl) (.bool false) ?he ?_
              case he => (have q0 := HSK.out; go_simp; (first | done | rfl | omega))
              (try simp only [Act.put, sA, sB, sC])
              refine wpList_q (by rfl) (.bool false) ?he ?_
              case he => (first | rfl | (go_simp; (try with_reducible rfl)))
              (try simp only [Act.put, sA, sB, sC])
              refine wpList_no (by rfl) ?_
              (try simp only [Act.put, sA, sB, sC])
              refine wpList_no (by rfl) ?_
              (try simp only [Act.put, sA, sB, sC])
              refine wpList_no (by rfl) ?_
              (try simp only [Act.put, sA, sB, sC])
              refine wpList_no (by rfl) ?_
              (try simp only [Act.put, sA, sB, sC])
              refine wpList_q (by rfl) (.bool false) ?he ?_
              case he => (first | rfl | (go_simp; (try with_reducible rfl)))
              (try simp only [Act.put, sA, sB, sC])
              refine wpList_nil ?_
              have HSE := Lib.hid (show snd k base sent = sent by unfold snd; rw [if_neg (fun h => HSK.out h.1)])
              go_wp2_with fail
              go_meet
              case rel => exact Lib.hid ⟨Sa, false, rfl, (.inr ⟨rfl, HSE.out⟩), HDab.out, HS106.out, (by rw [HSE.out]; exact HFa106.out), HFb106.out⟩
            · have HSK := Lib.hid hcs; clear hcs
              by_cases hcs : sent < base + 4
              rotate_left
              · have HW4 := Lib.hid hcs; clear hcs
                refine wp_region_lit ?_
                refine wpList_q (by rfl) (.int .i64 (sent : Int)) ?he ?_
                case he => (first | rfl | (go_simp; (try with_reducible rfl)))
                (try simp only [Act.put, sA, sB, sC])
                refine wpList_q (by rfl) (.int .i64 (k : Int)) ?he ?_
                case he => (first | rfl | (go_simp; (try with_reducible rfl)))
                (try simp only [Act.put, sA, sB, sC])
                refine wpList_q (by rfl) (.bool true) ?he ?_
                case he => (have q0 := HSK.out; go_simp; (first | done | rfl | omega))
                (try simp only [Act.put, sA, sB, sC])
                refine wpList_q (by rfl) (.bool true) ?he ?_
                case he => (first | rfl | (go_simp; (try with_reducible rfl)))
                (try simp only [Act.put, sA, sB, sC])
                refine wpList_q (by rfl) (.pointer (some ⟨ba, 0, none⟩)) ?he ?_
                case he => (first | rfl | (go_simp; (try with_reducible rfl)))
                (try simp only [Act.put, sA, sB, sC])
                refine wpList_q (by rfl) (.int .i64 (sent : Int)) ?he ?_
                case he => (first | rfl | (go_simp; (try with_reducible rfl)))
                (try simp only [Act.put, sA, sB, sC])
                refine wpList_q (by rfl) (.agg #[.int .i64 2, .int .i64 (sent : Int), .int .i64 0, .int .i64 0]) ?he ?_
                case he => kernel_rfl
                (try simp only [Act.put, sA, sB, sC])
                refine wpList_wp (by rfl) (fun K hK => ?_)
                (try go_simp)
                refine (sendA0 (k := k) HFa106.out HBD.out.1 (by have := HBD.out; omega) HSK.out HW4.out).mono ?_
                rintro e w107 ⟨Sa_1, rfl, hobj, hupd, hfar⟩
                (try go_wp2_with fail)
                refine hK.out _ _ ?_
                clear hK K
                (try simp only [Act.put, sA, sB, sC])
                have HS107 := Lib.hid (Since.upd HS106.out hupd (LO.low HFa106.out))
                have HFb107 := Lib.hid (LO.upd hupd HFb106.out (fun g hg h => HDab.out g h hg))
                have HDDb_a_107 := Lib.hid (dis_next hfar (fun g hg h => HDab.out g h hg) (LO.lt HFb106.out))
                have HFa107 := Lib.hid hobj
                clear hupd hobj hfar HS106 HFa106 HFb106
                refine wpList_q (by rfl) (.bool false) ?he ?_
                case he => (first | rfl | (go_simp; (try with_reducible rfl)))
                (try simp only [Act.put, sA, sB, sC])
                refine wpList_nil ?_
                have HSE := Lib.hid (show snd k base sent = sent by unfold snd; rw [if_neg (fun h => HW4.out h.2)])
                go_wp2_with fail
                go_meet
                case rel => exact Lib.hid ⟨Sa_1, false, rfl, (.inr ⟨rfl, HSE.out⟩), (fun g hg h => HDDb_a_107.out g h hg), HS107.out, HFa107.out, HFb107.out⟩
              · have HW4 := Lib.hid hcs; clear hcs
                refine wp_region_lit ?_
                refine wpList_q (by rfl) (.int .i64 (sent : Int)) ?he ?_
                case he => (first | rfl | (go_simp; (try with_reducible rfl)))
                (try simp only [Act.put, sA, sB, sC])
                refine wpList_q (by rfl) (.int .i64 (k : Int)) ?he ?_
                case he => (first | rfl | (go_simp; (try with_reducible rfl)))
                (try simp only [Act.put, sA, sB, sC])
                refine wpList_q (by rfl) (.bool true) ?he ?_
                case he => (have q0 := HSK.out; go_simp; (first | done | rfl | omega))
                (try simp only [Act.put, sA, sB, sC])
                refine wpList_q (by rfl) (.bool true) ?he ?_
                case he => (first | rfl | (go_simp; (try with_reducible rfl)))
                (try simp only [Act.put, sA, sB, sC])
                refine wpList_q (by rfl) (.pointer (some ⟨ba, 0, none⟩)) ?he ?_
                case he => (first | rfl | (go_simp; (try with_reducible rfl)))
                (try simp only [Act.put, sA, sB, sC])
                refine wpList_q (by rfl) (.int .i64 (sent : Int)) ?he ?_
                case he => (first | rfl | (go_simp; (try with_reducible rfl)))
                (try simp only [Act.put, sA, sB, sC])
                refine wpList_q (by rfl) (.agg #[.int .i64 2, .int .i64 (sent : Int), .int .i64 0, .int .i64 0]) ?he ?_
                case he => kernel_rfl
                (try simp only [Act.put, sA, sB, sC])
                refine wpList_wp (by rfl) (fun K hK => ?_)
                (try go_simp)
                refine (sendA1 (k := k) HFa106.out HBD.out.1 (by have := HBD.out; omega) HSK.out HW4.out).mono ?_
                rintro e w107 ⟨Sa_2, rfl, hobj, hupd, hfar⟩
                (try go_wp2_with fail)
                refine hK.out _ _ ?_
                clear hK K
                (try simp only [Act.put, sA, sB, sC])
                have HS107 := Lib.hid (Since.upd HS106.out hupd (LO.low HFa106.out))
                have HFb107 := Lib.hid (LO.upd hupd HFb106.out (fun g hg h => HDab.out g h hg))
                have HDDb_a_107 := Lib.hid (dis_next hfar (fun g hg h => HDab.out g h hg) (LO.lt HFb106.out))
                have HFa107 := Lib.hid hobj
                clear hupd hobj hfar HS106 HFa106 HFb106
                refine wpList_q (by rfl) (.bool true) ?he ?_
                case he => (first | rfl | (go_simp; (try with_reducible rfl)))
                (try simp only [Act.put, sA, sB, sC])
                refine wpList_nil ?_
                have HSE := Lib.hid (show snd k base sent = sent + 1 by unfold snd; rw [if_pos ⟨HSK.out, HW4.out⟩])
                go_wp2_with fail
                go_meet
                case rel => exact Lib.hid ⟨Sa_2, true, rfl, (.inl ⟨rfl, HSE.out⟩), (fun g hg h => HDDb_a_107.out g h hg), HS107.out, HFa107.out, HFb107.out⟩
          case rest =>
            clear HS106 HFa106 HFb106
            obtain ⟨Sa2, bS, rfl, x0, x1, g0, g1, g2⟩ := hcut.out
            clear hcut
            have HOS := Lib.hid x0; clear x0
            have HD2 := Lib.hid x1; clear x1
            have HS156 := Lib.hid g0; have HFa156 := Lib.hid g1; have HFb156 := Lib.hid g2; clear g0 g1 g2
            go_upto_if 49 with fail
            go_cut [8] (fun s8 wx => Hid (s8 = .int .i64 ((snd k base sent : Nat) : Int) ∧ wx = wc))
            case first =>
              rcases HOS.out with ⟨rfl, hse⟩ | ⟨rfl, hse⟩
              · have HSE := Lib.hid hse; clear hse
                go_upto_region 12 with fail
                refine wp_region_lit ?_
                refine wpList_q (by rfl) (.int .i64 (sent : Int)) ?he ?_
                case he => (first | rfl | (go_simp; (try with_reducible rfl)))
                (try simp only [Act.put, sA, sB, sC])
                refine wpList_q (by rfl) (.int .i64 ((sent : Int) + 1)) ?he ?_
                case he => (go_simp; (first | done | (refine wr64 _ ?_ ?_ <;> (have q0 := HBD.out; omega)) | (have q0 := HBD.out; omega) | (have q0 := HBD.out; split <;> omega) | (have q0 := HBD.out; intro hh; omega)))
                (try simp only [Act.put, sA, sB, sC])
                refine wpList_q (by rfl) (.int .i64 ((sent : Int) + 1)) ?he ?_
                case he => (first | rfl | (go_simp; (try with_reducible rfl)))
                (try simp only [Act.put, sA, sB, sC])
                refine wpList_nil ?_
                go_wp2_with fail
                go_meet
                case rel => exact Lib.hid ⟨by rw [HSE.out]; go_num, rfl⟩
              · have HSE := Lib.hid hse; clear hse
                go_wp2_with fail
                go_meet
                case rel => exact Lib.hid ⟨by rw [HSE.out], rfl⟩
            case rest =>
              obtain ⟨rfl, rfl⟩ := hcut.out
              clear hcut
              clear HOS
              clear HDab
              by_cases hcs : base < snd k base sent ∧ du ≤ (i : Int)
              rotate_left
              · have HDU := Lib.hid hcs; clear hcs
                go_upto_region 13 with fail
                refine wp_region_lit ?_
                refine wpList_q (by rfl) (.pointer (some ⟨ba, 0, none⟩)) ?he ?_
                case he => (first | rfl | (go_simp; (try with_reducible rfl)))
                (try simp only [Act.put, sA, sB, sC])
                refine wpList_q (by rfl) (.int .i64 (i : Int)) ?he ?_
                case he => (first | rfl | (go_simp; (try with_reducible rfl)))
                (try simp only [Act.put, sA, sB, sC])
                refine wpList_wp (by rfl) (fun K hK => ?_)
                (try go_simp)
                refine (pollA0 HFa156.out i (by have := HI5.out; omega) (by have q1 := HSN.out; have q2 := HK12.out; omega) (by have := HBD.out; omega) (by have := HBD.out; omega) (by have := HDU.out; omega)).mono ?_
                rintro e w157 ⟨rfl, hb⟩
                (try go_wp2_with fail)
                refine hK.out _ _ ?_
                clear hK K
                (try simp only [Act.put, sA, sB, sC])
                have HS157 := Lib.hid (Since.trans HS156.out hb)
                have HFa157 := Lib.hid (LO.keep hb HFa156.out)
                have HFb157 := Lib.hid (LO.keep hb HFb156.out)
                clear HS156 HFa156 HFb156
                clear hb
                refine wpList_q (by rfl) (.tuple #[.agg #[.int .i64 0, .int .i64 0, .int .i64 0, .int .i64 0, .bool false, .int .i64 0, .int .i64 0, .int .i64 0, .int .i64 0], .bool false]) ?he ?_
                case he => (first | rfl | (go_simp; (try with_reducible rfl)))
                (try simp only [Act.put, sA, sB, sC])
                refine wpList_q (by rfl) (.agg #[.int .i64 0, .int .i64 0, .int .i64 0, .int .i64 0, .bool false, .int .i64 0, .int .i64 0, .int .i64 0, .int .i64 0]) ?he ?_
                case he => (first | rfl | (go_simp; (try with_reducible rfl)))
                (try simp only [Act.put, sA, sB, sC])
                refine wpList_q (by rfl) (.bool false) ?he ?_
                case he => (first | rfl | (go_simp; (try with_reducible rfl)))
                (try simp only [Act.put, sA, sB, sC])
                refine wpList_wp (by rfl) (fun K hK => ?_)
                refine wp_new (fun b => .pointer (some ⟨b, 0, none⟩)) 38 #[.int .i64 0, .int .i64 0, .int .i64 0, .int .i64 0, .bool false, .int .i64 0, .int .i64 0, .int .i64 0, .int .i64 0] (by rintro b rfl; first | rfl | kernel_rfl) ?_
                intro bn12 w158 hge hB hb
                refine hK.out _ _ ?_
                clear hK K
                (try simp only [Act.put, sA, sB, sC])
                have HGn12 := Lib.hid (show w.heap.size ≤ bn12 by have := Since.size HS157.out; omega)
                have HIn12_a := Lib.hid (LO.far HFa157.out hge)
                have HIn12_b := Lib.hid (LO.far HFb157.out hge)
                have HS158 := Lib.hid (Since.trans HS157.out hb)
                have HFa158 := Lib.hid (LO.keep hb HFa157.out)
                have HFb158 := Lib.hid (LO.keep hb HFb157.out)
                clear HS157 HFa157 HFb157
                clear hb hge
                have HBn12158 := Lib.hid hB
                clear hB
                refine wpList_wp (by rfl) (fun K hK => ?_)
                refine wp_st_row 38 _ _ rfl #[.int .i64 0, .int .i64 0, .int .i64 0, .int .i64 0, .bool false, .int .i64 0, .int .i64 0, .int .i64 0, .int .i64 0] rfl rfl (HasRow.of HBn12158.out rfl) rfl (by simp [Value.oneCell']) (by kernel_rfl) ?_
                intro w159 hw
                refine hK.out _ _ ?_
                clear hK K
                (try simp only [Act.put, sA, sB, sC])
                have HS159 := Lib.hid (show Since w w159 by rw [hw]; exact Since.setRow HS158.out HGn12.out _)
                have HBn12159 := Lib.hid (show Blk w159 bn12 38 #[.int .i64 0, .int .i64 0, .int .i64 0, .int .i64 0, .bool false, .int .i64 0, .int .i64 0, .int .i64 0, .int .i64 0] by rw [hw]; exact Blk.row HBn12158.out _)
                have HFa_159 := Lib.hid (show LO w.heap.size ba (kA base du st ha) (ms base (snd k base sent)) Sa2 w159 by rw [hw]; exact LO.row_far HFa158.out HIn12_a.out _)
                have HFb_159 := Lib.hid (show LO w.heap.size bb (kB got false hb) [] Sb w159 by rw [hw]; exact LO.row_far HFb158.out HIn12_b.out _)
                clear hw HS158 HBn12158 HFa158 HFb158
                refine wpList_q (by rfl) (.bool false) ?he ?_
                case he => (first | rfl | (go_simp; (try with_reducible rfl)))
                (try simp only [Act.put, sA, sB, sC])
                refine wpList_nil ?_
                go_upto_region 14 with fail
                refine wp_region_lit ?_
                refine wpList_q (by rfl) (.bool false) ?he ?_
                case he => (first | rfl | (go_simp; (try with_reducible rfl)))
                (try simp only [Act.put, sA, sB, sC])
                refine wpList_q (by rfl) (.bool false) ?he ?_
                case he => (first | rfl | (go_simp; (try with_reducible rfl)))
                (try simp only [Act.put, sA, sB, sC])
                refine wpList_no (by rfl) ?_
                (try simp only [Act.put, sA, sB, sC])
                refine wpList_no (by rfl) ?_
                (try simp only [Act.put, sA, sB, sC])
                refine wpList_no (by rfl) ?_
                (try simp only [Act.put, sA, sB, sC])
                refine wpList_no (by rfl) ?_
                (try simp only [Act.put, sA, sB, sC])
                refine wpList_no (by rfl) ?_
                (try simp only [Act.put, sA, sB, sC])
                refine wpList_no (by rfl) ?_
                (try simp only [Act.put, sA, sB, sC])
                refine wpList_no (by rfl) ?_
                (try simp only [Act.put, sA, sB, sC])
                refine wpList_no (by rfl) ?_
                (try simp only [Act.put, sA, sB, sC])
                refine wpList_no (by rfl) ?_
                (try simp only [Act.put, sA, sB, sC])
                refine wpList_no (by rfl) ?_
                (try simp only [Act.put, sA, sB, sC])
                refine wpList_no (by rfl) ?_
                (try simp only [Act.put, sA, sB, sC])
                refine wpList_q (by rfl) (.bool false) ?he ?_
                case he => (first | rfl | (go_simp; (try with_reducible rfl)))
                (try simp only [Act.put, sA, sB, sC])
                refine wpList_nil ?_
                go_upto_region 20 with fail
                refine wp_region_lit ?_
                refine wpList_q (by rfl) (.pointer (some ⟨bb, 0, none⟩)) ?he ?_
                case he => (first | rfl | (go_simp; (try with_reducible rfl)))
                (try simp only [Act.put, sA, sB, sC])
                refine wpList_q (by rfl) (.int .i64 (i : Int)) ?he ?_
                case he => (first | rfl | (go_simp; (try with_reducible rfl)))
                (try simp only [Act.put, sA, sB, sC])
                refine wpList_wp (by rfl) (fun K hK => ?_)
                (try go_simp)
                refine (pollB0 HFb_159.out i).mono ?_
                rintro e w160 ⟨rfl, hb⟩
                (try go_wp2_with fail)
                refine hK.out _ _ ?_
                clear hK K
                (try simp only [Act.put, sA, sB, sC])
                have HS160 := Lib.hid (Since.trans HS159.out hb)
                have HBn12160 := Lib.hid (keep_blk hb HBn12159.out)
                have HFa160 := Lib.hid (LO.keep hb HFa_159.out)
                have HFb160 := Lib.hid (LO.keep hb HFb_159.out)
                clear HS159 HBn12159 HFa_159 HFb_159
                clear hb
                refine wpList_q (by rfl) (.tuple #[.agg #[.int .i64 0, .int .i64 0, .int .i64 0, .int .i64 0, .bool false, .int .i64 0, .int .i64 0, .int .i64 0, .int .i64 0], .bool false]) ?he ?_
                case he => (first | rfl | (go_simp; (try with_reducible rfl)))
                (try simp only [Act.put, sA, sB, sC])
                refine wpList_q (by rfl) (.agg #[.int .i64 0, .int .i64 0, .int .i64 0, .int .i64 0, .bool false, .int .i64 0, .int .i64 0, .int .i64 0, .int .i64 0]) ?he ?_
                case he => (first | rfl | (go_simp; (try with_reducible rfl)))
                (try simp only [Act.put, sA, sB, sC])
                refine wpList_q (by rfl) (.bool false) ?he ?_
                case he => (first | rfl | (go_simp; (try with_reducible rfl)))
                (try simp only [Act.put, sA, sB, sC])
                refine wpList_wp (by rfl) (fun K hK => ?_)
                refine wp_new (fun b => .pointer (some ⟨b, 0, none⟩)) 38 #[.int .i64 0, .int .i64 0, .int .i64 0, .int .i64 0, .bool false, .int .i64 0, .int .i64 0, .int .i64 0, .int .i64 0] (by rintro b rfl; first | rfl | kernel_rfl) ?_
                intro bn16 w161 hge hB hb
                refine hK.out _ _ ?_
                clear hK K
                (try simp only [Act.put, sA, sB, sC])
                have HNn16n12 := Lib.hid (show bn16 ≠ bn12 by have := Blk.lt HBn12160.out; omega)
                have HGn16 := Lib.hid (show w.heap.size ≤ bn16 by have := Since.size HS160.out; omega)
                have HIn16_a := Lib.hid (LO.far HFa160.out hge)
                have HIn16_b := Lib.hid (LO.far HFb160.out hge)
                have HS161 := Lib.hid (Since.trans HS160.out hb)
                have HBn12161 := Lib.hid (keep_blk hb HBn12160.out)
                have HFa161 := Lib.hid (LO.keep hb HFa160.out)
                have HFb161 := Lib.hid (LO.keep hb HFb160.out)
                clear HS160 HBn12160 HFa160 HFb160
                clear hb hge
                have HBn16161 := Lib.hid hB
                clear hB
                refine wpList_wp (by rfl) (fun K hK => ?_)
                refine wp_st_row 38 _ _ rfl #[.int .i64 0, .int .i64 0, .int .i64 0, .int .i64 0, .bool false, .int .i64 0, .int .i64 0, .int .i64 0, .int .i64 0] rfl rfl (HasRow.of HBn16161.out rfl) rfl (by simp [Value.oneCell']) (by kernel_rfl) ?_
                intro w162 hw
                refine hK.out _ _ ?_
                clear hK K
                (try simp only [Act.put, sA, sB, sC])
                have HS162 := Lib.hid (show Since w w162 by rw [hw]; exact Since.setRow HS161.out HGn16.out _)
                have HBn12162 := Lib.hid (show Blk w162 bn12 38 #[.int .i64 0, .int .i64 0, .int .i64 0, .int .i64 0, .bool false, .int .i64 0, .int .i64 0, .int .i64 0, .int .i64 0] by rw [hw]; exact Blk.row_far HBn12161.out (Ne.symm HNn16n12.out) _)
                have HBn16162 := Lib.hid (show Blk w162 bn16 38 #[.int .i64 0, .int .i64 0, .int .i64 0, .int .i64 0, .bool false, .int .i64 0, .int .i64 0, .int .i64 0, .int .i64 0] by rw [hw]; exact Blk.row HBn16161.out _)
                have HFa_162 := Lib.hid (show LO w.heap.size ba (kA base du st ha) (ms base (snd k base sent)) Sa2 w162 by rw [hw]; exact LO.row_far HFa161.out HIn16_a.out _)
                have HFb_162 := Lib.hid (show LO w.heap.size bb (kB got false hb) [] Sb w162 by rw [hw]; exact LO.row_far HFb161.out HIn16_b.out _)
                clear hw HS161 HBn12161 HBn16161 HFa161 HFb161
                refine wpList_q (by rfl) (.bool false) ?he ?_
                case he => (first | rfl | (go_simp; (try with_reducible rfl)))
                (try simp only [Act.put, sA, sB, sC])
                refine wpList_nil ?_
                go_upto_region 21 with fail
                refine wp_region_lit ?_
                refine wpList_q (by rfl) (.bool false) ?he ?_
                case he => (first | rfl | (go_simp; (try with_reducible rfl)))
                (try simp only [Act.put, sA, sB, sC])
                refine wpList_q (by rfl) (.bool false) ?he ?_
                case he => (first | rfl | (go_simp; (try with_reducible rfl)))
                (try simp only [Act.put, sA, sB, sC])
                refine wpList_no (by rfl) ?_
                (try simp only [Act.put, sA, sB, sC])
                refine wpList_no (by rfl) ?_
                (try simp only [Act.put, sA, sB, sC])
                refine wpList_no (by rfl) ?_
                (try simp only [Act.put, sA, sB, sC])
                refine wpList_no (by rfl) ?_
                (try simp only [Act.put, sA, sB, sC])
                refine wpList_no (by rfl) ?_
                (try simp only [Act.put, sA, sB, sC])
                refine wpList_no (by rfl) ?_
                (try simp only [Act.put, sA, sB, sC])
                refine wpList_no (by rfl) ?_
                (try simp only [Act.put, sA, sB, sC])
                refine wpList_no (by rfl) ?_
                (try simp only [Act.put, sA, sB, sC])
                refine wpList_no (by rfl) ?_
                (try simp only [Act.put, sA, sB, sC])
                refine wpList_no (by rfl) ?_
                (try simp only [Act.put, sA, sB, sC])
                refine wpList_no (by rfl) ?_
                (try simp only [Act.put, sA, sB, sC])
                refine wpList_no (by rfl) ?_
                (try simp only [Act.put, sA, sB, sC])
                refine wpList_no (by rfl) ?_
                (try simp only [Act.put, sA, sB, sC])
                refine wpList_no (by rfl) ?_
                (try simp only [Act.put, sA, sB, sC])
                refine wpList_no (by rfl) ?_
                (try simp only [Act.put, sA, sB, sC])
                refine wpList_q (by rfl) (.bool false) ?he ?_
                case he => (first | rfl | (go_simp; (try with_reducible rfl)))
                (try simp only [Act.put, sA, sB, sC])
                refine wpList_nil ?_
                go_upto_region 8 with fail
                refine wp_region_lit ?_
                refine wpList_q (by rfl) (.int .i64 (i : Int)) ?he ?_
                case he => (first | rfl | (go_simp; (try with_reducible rfl)))
                (try simp only [Act.put, sA, sB, sC])
                refine wpList_q (by rfl) (.int .i64 ((i : Int) + 1)) ?he ?_
                case he => (go_simp; (first | done | (refine wr64 _ ?_ ?_ <;> (have q0 := HI5.out; omega)) | (have q0 := HI5.out; omega) | (have q0 := HI5.out; split <;> omega) | (have q0 := HI5.out; intro hh; omega)))
                (try simp only [Act.put, sA, sB, sC])
                refine wpList_q (by rfl) (.int .i64 ((i : Int) + 1)) ?he ?_
                case he => (first | rfl | (go_simp; (try with_reducible rfl)))
                (try simp only [Act.put, sA, sB, sC])
                refine wpList_nil ?_
                go_wp2_with fail
                go_roundw
                case rel => exact ⟨i + 1, base, snd k base sent, got, du, st, ha, hb, Sa2, Sb, by have := HLT0.out; omega, .inr (by have := HL2.out; omega), rfl, rfl, by go_num, Lib.hid ⟨quiet HAI.out (by have q1 := HDU.out; have q2 := HSN.out; have q3 := HBD.out; omega), HD2.out, HS162.out, HFa_162.out, HFb_162.out⟩⟩
                case measure => have := HLT0.out; simp [intOf]; omega
              · have HDU := Lib.hid hcs; clear hcs
                go_upto_region 13 with fail
                refine wp_region_lit ?_
                refine wpList_q (by rfl) (.pointer (some ⟨ba, 0, none⟩)) ?he ?_
                case he => (first | rfl | (go_simp; (try with_reducible rfl)))
                (try simp only [Act.put, sA, sB, sC])
                refine wpList_q (by rfl) (.int .i64 (i : Int)) ?he ?_
                case he => (first | rfl | (go_simp; (try with_reducible rfl)))
                (try simp only [Act.put, sA, sB, sC])
                refine wpList_wp (by rfl) (fun K hK => ?_)
                (try go_simp)
                refine (pollA1 HFa156.out i (by have := HI5.out; omega) (by have q1 := HSN.out; have q2 := HK12.out; omega) (by have := HBD.out; omega) HDU.out.1 HDU.out.2 (by have := HBD.out; omega) (by have := HBD.out; omega)).mono ?_
                rintro e w157 ⟨Sa_3, rfl, hobj, hupd, hfar⟩
                (try go_wp2_with fail)
                refine hK.out _ _ ?_
                clear hK K
                (try simp only [Act.put, sA, sB, sC])
                have HS157 := Lib.hid (Since.upd HS156.out hupd (LO.low HFa156.out))
                have HFb157 := Lib.hid (LO.upd hupd HFb156.out (fun g hg h => HD2.out g h hg))
                have HDDb_a_157 := Lib.hid (dis_next hfar (fun g hg h => HD2.out g h hg) (LO.lt HFb156.out))
                have HFa157 := Lib.hid hobj
                clear hupd hobj hfar HS156 HFa156 HFb156
                refine wpList_q (by rfl) (.tuple #[.agg #[.int .i64 0, .int .i64 1, .int .i64 (base : Int), .int .i64 0, .bool true, .int .i64 2, .int .i64 (base : Int), .int .i64 0, .int .i64 0], .bool true]) ?he ?_
                case he => (first | rfl | (go_simp; (try with_reducible rfl)))
                (try simp only [Act.put, sA, sB, sC])
                refine wpList_q (by rfl) (.agg #[.int .i64 0, .int .i64 1, .int .i64 (base : Int), .int .i64 0, .bool true, .int .i64 2, .int .i64 (base : Int), .int .i64 0, .int .i64 0]) ?he ?_
                case he => (first | rfl | (go_simp; (try with_reducible rfl)))
                (try simp only [Act.put, sA, sB, sC])
                refine wpList_q (by rfl) (.bool true) ?he ?_
                case he => (first | rfl | (go_simp; (try with_reducible rfl)))
                (try simp only [Act.put, sA, sB, sC])
                refine wpList_wp (by rfl) (fun K hK => ?_)
                refine wp_new (fun b => .pointer (some ⟨b, 0, none⟩)) 38 #[.int .i64 0, .int .i64 0, .int .i64 0, .int .i64 0, .bool false, .int .i64 0, .int .i64 0, .int .i64 0, .int .i64 0] (by rintro b rfl; first | rfl | kernel_rfl) ?_
                intro bn12 w158 hge hB hb
                refine hK.out _ _ ?_
                clear hK K
                (try simp only [Act.put, sA, sB, sC])
                have HGn12 := Lib.hid (show w.heap.size ≤ bn12 by have := Since.size HS157.out; omega)
                have HIn12_a := Lib.hid (LO.far HFa157.out hge)
                have HIn12_b := Lib.hid (LO.far HFb157.out hge)
                have HS158 := Lib.hid (Since.trans HS157.out hb)
                have HFa158 := Lib.hid (LO.keep hb HFa157.out)
                have HFb158 := Lib.hid (LO.keep hb HFb157.out)
                clear HS157 HFa157 HFb157
                clear hb hge
                have HBn12158 := Lib.hid hB
                clear hB
                refine wpList_wp (by rfl) (fun K hK => ?_)
                refine wp_st_row 38 _ _ rfl #[.int .i64 0, .int .i64 1, .int .i64 (base : Int), .int .i64 0, .bool true, .int .i64 2, .int .i64 (base : Int), .int .i64 0, .int .i64 0] rfl rfl (HasRow.of HBn12158.out rfl) rfl (by simp [Value.oneCell']) (by kernel_rfl) ?_
                intro w159 hw
                refine hK.out _ _ ?_
                clear hK K
                (try simp only [Act.put, sA, sB, sC])
                have HS159 := Lib.hid (show Since w w159 by rw [hw]; exact Since.setRow HS158.out HGn12.out _)
                have HBn12159 := Lib.hid (show Blk w159 bn12 38 #[.int .i64 0, .int .i64 1, .int .i64 (base : Int), .int .i64 0, .bool true, .int .i64 2, .int .i64 (base : Int), .int .i64 0, .int .i64 0] by rw [hw]; exact Blk.row HBn12158.out _)
                have HFa_159 := Lib.hid (show LO w.heap.size ba (kA base ((i : Int) + pa 2 9 st) (st + 1) ha) (ms base (snd k base sent)) Sa_3 w159 by rw [hw]; exact LO.row_far HFa158.out HIn12_a.out _)
                have HFb_159 := Lib.hid (show LO w.heap.size bb (kB got false hb) [] Sb w159 by rw [hw]; exact LO.row_far HFb158.out HIn12_b.out _)
                clear hw HS158 HBn12158 HFa158 HFb158
                refine wpList_q (by rfl) (.bool true) ?he ?_
                case he => (first | rfl | (go_simp; (try with_reducible rfl)))
                (try simp only [Act.put, sA, sB, sC])
                refine wpList_nil ?_
                go_upto_region 14 with fail
                go_cut [71] (fun s71 wx => Hid (∃ dB : Bool, s71 = .bool dB ∧ ((dB = false ∧ i < len) ∨ dB = true) ∧ wx = w159))
                case first =>
                  by_cases hcs : i < len
                  rotate_left
                  · have HIL := Lib.hid hcs; clear hcs
                    refine wp_region_lit ?_
                    refine wpList_q (by rfl) (.bool true) ?he ?_
                    case he => (first | rfl | (go_simp; (try with_reducible rfl)))
                    (try simp only [Act.put, sA, sB, sC])
                    refine wpList_q (by rfl) (.bool true) ?he ?_
                    case he => (first | rfl | (go_simp; (try with_reducible rfl)))
                    (try simp only [Act.put, sA, sB, sC])
                    refine wpList_q (by rfl) (.int .i64 (i : Int)) ?he ?_
                    case he => (first | rfl | (go_simp; (try with_reducible rfl)))
                    (try simp only [Act.put, sA, sB, sC])
                    refine wpList_q (by rfl) (.slice A len cap) ?he ?_
                    case he => (first | rfl | (go_simp; (try with_reducible rfl)))
                    (try simp only [Act.put, sA, sB, sC])
                    refine wpList_q (by rfl) (.int .i64 len) ?he ?_
                    case he => (go_simp; (try with_reducible rfl))
                    (try simp only [Act.put, sA, sB, sC])
                    refine wpList_q (by rfl) (.bool true) ?he ?_
                    case he => (have q0 := HIL.out; go_simp; (first | done | rfl | omega))
                    (try simp only [Act.put, sA, sB, sC])
                    refine wpList_q (by rfl) (.bool true) ?he ?_
                    case he => (first | rfl | (go_simp; (try with_reducible rfl)))
                    (try simp only [Act.put, sA, sB, sC])
                    refine wpList_no (by rfl) ?_
                    (try simp only [Act.put, sA, sB, sC])
                    refine wpList_no (by rfl) ?_
                    (try simp only [Act.put, sA, sB, sC])
                    refine wpList_no (by rfl) ?_
                    (try simp only [Act.put, sA, sB, sC])
                    refine wpList_no (by rfl) ?_
                    (try simp only [Act.put, sA, sB, sC])
                    refine wpList_no (by rfl) ?_
                    (try simp only [Act.put, sA, sB, sC])
                    refine wpList_q (by rfl) (.bool true) ?he ?_
                    case he => (first | rfl | (go_simp; (try with_reducible rfl)))
                    (try simp only [Act.put, sA, sB, sC])
                    refine wpList_q (by rfl) (.bool true) ?he ?_
                    case he => (first | rfl | (go_simp; (try with_reducible rfl)))
                    (try simp only [Act.put, sA, sB, sC])
                    refine wpList_nil ?_
                    go_wp2_with fail
                    go_meet
                    case rel => exact Lib.hid ⟨true, rfl, .inr rfl, rfl⟩
                  · have HIL := Lib.hid hcs; clear hcs
                    obtain ⟨bL, oL, rfl, hcL⟩ : ∃ bL oL, A = some ⟨bL, oL, none⟩ ∧ ∀ j, j < len → w.cell? ⟨bL, oL + j, none⟩ = some (.bool (bs j)) := by rcases HX.out with h | ⟨b, o, e, h1, h2⟩; (exact absurd HIL.out (by omega)); exact ⟨b, o, e, h2⟩
                    by_cases hcs : bs i = true
                    rotate_left
                    · have HLO := Lib.hid hcs; clear hcs
                      have HCB := Lib.hid (show w.cell? ⟨bL, oL + i * 1, none⟩ = some (.bool false) by rw [Nat.mul_one, hcL i (by have := HIL.out; omega), (Bool.eq_false_iff.2 HLO.out)]); clear hcL
                      refine wp_region_lit ?_
                      refine wpList_q (by rfl) (.bool true) ?he ?_
                      case he => (first | rfl | (go_simp; (try with_reducible rfl)))
                      (try simp only [Act.put, sA, sB, sC])
                      refine wpList_q (by rfl) (.bool true) ?he ?_
                      case he => (first | rfl | (go_simp; (try with_reducible rfl)))
                      (try simp only [Act.put, sA, sB, sC])
                      refine wpList_q (by rfl) (.int .i64 (i : Int)) ?he ?_
                      case he => (first | rfl | (go_simp; (try with_reducible rfl)))
                      (try simp only [Act.put, sA, sB, sC])
                      refine wpList_q (by rfl) (.slice (some ⟨bL, oL, none⟩) len cap) ?he ?_
                      case he => (first | rfl | (go_simp; (try with_reducible rfl)))
                      (try simp only [Act.put, sA, sB, sC])
                      refine wpList_q (by rfl) (.int .i64 len) ?he ?_
                      case he => (go_simp; (try with_reducible rfl))
                      (try simp only [Act.put, sA, sB, sC])
                      refine wpList_q (by rfl) (.bool false) ?he ?_
                      case he => (have q0 := HIL.out; go_simp; (first | done | rfl | omega))
                      (try simp only [Act.put, sA, sB, sC])
                      refine wpList_q (by rfl) (.bool false) ?he ?_
                      case he => (first | rfl | (go_simp; (try with_reducible rfl)))
                      (try simp only [Act.put, sA, sB, sC])
                      refine wpList_q (by rfl) (.slice (some ⟨bL, oL, none⟩) len cap) ?he ?_
                      case he => (first | rfl | (go_simp; (try with_reducible rfl)))
                      (try simp only [Act.put, sA, sB, sC])
                      refine wpList_q (by rfl) (.int .i64 (i : Int)) ?he ?_
                      case he => (first | rfl | (go_simp; (try with_reducible rfl)))
                      (try simp only [Act.put, sA, sB, sC])
                      refine wpList_q (by rfl) (.pointer (some ⟨bL, (oL + i * 1), none⟩)) ?he ?_
                      case he => exact exec_index (i := i) (s := 1) 47 4 _ _ rfl rfl rfl (by have := HIL.out; omega) (by have := HIL.out; omega) Try.underlying47 (by kernel_rfl)
                      (try simp only [Act.put, sA, sB, sC])
                      refine wpList_q (by rfl) (.bool false) ?he ?_
                      case he => exact exec_at 4 _ _ (keep_cell HS159.out HCB.out) rfl rfl Try.underlying4 rfl
                      (try simp only [Act.put, sA, sB, sC])
                      refine wpList_q (by rfl) (.bool true) ?he ?_
                      case he => (go_simp; (try with_reducible rfl))
                      (try simp only [Act.put, sA, sB, sC])
                      refine wpList_q (by rfl) (.bool true) ?he ?_
                      case he => (first | rfl | (go_simp; (try with_reducible rfl)))
                      (try simp only [Act.put, sA, sB, sC])
                      refine wpList_q (by rfl) (.bool true) ?he ?_
                      case he => (first | rfl | (go_simp; (try with_reducible rfl)))
                      (try simp only [Act.put, sA, sB, sC])
                      refine wpList_nil ?_
                      go_wp2_with fail
                      go_meet
                      case rel => exact Lib.hid ⟨true, rfl, .inr rfl, rfl⟩
                    · have HLO := Lib.hid hcs; clear hcs
                      have HCB := Lib.hid (show w.cell? ⟨bL, oL + i * 1, none⟩ = some (.bool true) by rw [Nat.mul_one, hcL i (by have := HIL.out; omega), HLO.out]); clear hcL
                      refine wp_region_lit ?_
                      refine wpList_q (by rfl) (.bool true) ?he ?_
                      case he => (first | rfl | (go_simp; (try with_reducible rfl)))
                      (try simp only [Act.put, sA, sB, sC])
                      refine wpList_q (by rfl) (.bool true) ?he ?_
                      case he => (first | rfl | (go_simp; (try with_reducible rfl)))
                      (try simp only [Act.put, sA, sB, sC])
                      refine wpList_q (by rfl) (.int .i64 (i : Int)) ?he ?_
                      case he => (first | rfl | (go_simp; (try with_reducible rfl)))
                      (try simp only [Act.put, sA, sB, sC])
                      refine wpList_q (by rfl) (.slice (some ⟨bL, oL, none⟩) len cap) ?he ?_
                      case he => (first | rfl | (go_simp; (try with_reducible rfl)))
                      (try simp only [Act.put, sA, sB, sC])
                      refine wpList_q (by rfl) (.int .i64 len) ?he ?_
                      case he => (go_simp; (try with_reducible rfl))
                      (try simp only [Act.put, sA, sB, sC])
                      refine wpList_q (by rfl) (.bool false) ?he ?_
                      case he => (have q0 := HIL.out; go_simp; (first | done | rfl | omega))
                      (try simp only [Act.put, sA, sB, sC])
                      refine wpList_q (by rfl) (.bool false) ?he ?_
                      case he => (first | rfl | (go_simp; (try with_reducible rfl)))
                      (try simp only [Act.put, sA, sB, sC])
                      refine wpList_q (by rfl) (.slice (some ⟨bL, oL, none⟩) len cap) ?he ?_
                      case he => (first | rfl | (go_simp; (try with_reducible rfl)))
                      (try simp only [Act.put, sA, sB, sC])
                      refine wpList_q (by rfl) (.int .i64 (i : Int)) ?he ?_
                      case he => (first | rfl | (go_simp; (try with_reducible rfl)))
                      (try simp only [Act.put, sA, sB, sC])
                      refine wpList_q (by rfl) (.pointer (some ⟨bL, (oL + i * 1), none⟩)) ?he ?_
                      case he => exact exec_index (i := i) (s := 1) 47 4 _ _ rfl rfl rfl (by have := HIL.out; omega) (by have := HIL.out; omega) Try.underlying47 (by kernel_rfl)
                      (try simp only [Act.put, sA, sB, sC])
                      refine wpList_q (by rfl) (.bool true) ?he ?_
                      case he => exact exec_at 4 _ _ (keep_cell HS159.out HCB.out) rfl rfl Try.underlying4 rfl
                      (try simp only [Act.put, sA, sB, sC])
                      refine wpList_q (by rfl) (.bool false) ?he ?_
                      case he => (go_simp; (try with_reducible rfl))
                      (try simp only [Act.put, sA, sB, sC])
                      refine wpList_q (by rfl) (.bool false) ?he ?_
                      case he => (first | rfl | (go_simp; (try with_reducible rfl)))
                      (try simp only [Act.put, sA, sB, sC])
                      refine wpList_q (by rfl) (.bool false) ?he ?_
                      case he => (first | rfl | (go_simp; (try with_reducible rfl)))
                      (try simp only [Act.put, sA, sB, sC])
                      refine wpList_nil ?_
                      go_wp2_with fail
                      go_meet
                      case rel => exact Lib.hid ⟨false, rfl, .inl ⟨rfl, HIL.out⟩, rfl⟩
                case rest =>
                  obtain ⟨dB, rfl, x0, rfl⟩ := hcut.out
                  clear hcut
                  have HOD := Lib.hid x0; clear x0
                  go_upto_if 71 with fail
                  go_cut [9] (fun s9 wx => Hid (∃ (an : Bool) (got2 : Nat) (hb2 : Int) (Sb2 : List Nat), s9 = .int .i64 (got2 : Int) ∧ ((an = false ∧ got2 = got ∧ i < len) ∨ (an = true ∧ got2 = base + 1)) ∧ (∀ g ∈ Sa_3, g ∉ Sb2) ∧ Since w wx ∧ LO w.heap.size ba (kA base ((i : Int) + pa 2 9 st) (st + 1) ha) (ms base (snd k base sent)) Sa_3 wx ∧ LO w.heap.size bb (kB got2 an hb2) [] Sb2 wx))
                  case first =>
                    rcases HOD.out with ⟨rfl, hil⟩ | rfl
                    · have HIL := Lib.hid hil; clear hil
                      go_wp2_with fail
                      go_meet
                      case rel => exact Lib.hid ⟨false, got, hb, Sb, rfl, (.inl ⟨rfl, rfl, HIL.out⟩), (fun g hg h => HDDb_a_157.out g h hg), HS159.out, HFa_159.out, HFb_159.out⟩
                    · skip
                      by_cases hcs : base = got
                      rotate_left
                      · have HGB := Lib.hid hcs; clear hcs
                        go_upto_region 15 with fail
                        refine wp_region_lit ?_
                        refine wpList_q (by rfl) (.pointer (some ⟨bb, 0, none⟩)) ?he ?_
                        case he => (first | rfl | (go_simp; (try with_reducible rfl)))
                        (try simp only [Act.put, sA, sB, sC])
                        refine wpList_q (by rfl) (.agg #[.int .i64 0, .int .i64 1, .int .i64 (base : Int), .int .i64 0, .bool true, .int .i64 2, .int .i64 (base : Int), .int .i64 0, .int .i64 0]) ?he ?_
                        case he => exact exec_load_row 38 _ _ HBn12159.out rfl rfl Try.underlying38 rfl (by kernel_rfl)
                        (try simp only [Act.put, sA, sB, sC])
                        refine wpList_q (by rfl) (.int .i64 (i : Int)) ?he ?_
                        case he => (first | rfl | (go_simp; (try with_reducible rfl)))
                        (try simp only [Act.put, sA, sB, sC])
                        refine wpList_wp (by rfl) (fun K hK => ?_)
                        (try go_simp)
                        refine (recvB0 HFb_159.out base i (by have := HBD.out; omega) (by have q1 := HGB.out; have q2 := HBD.out; omega)).mono ?_
                        rintro e w160 ⟨Sb_4, rfl, hobj, hupd, hfar⟩
                        (try go_wp2_with fail)
                        refine hK.out _ _ ?_
                        clear hK K
                        (try simp only [Act.put, sA, sB, sC])
                        have HS160 := Lib.hid (Since.upd HS159.out hupd (LO.low HFb_159.out))
                        have HBn12160 := Lib.hid (Upd.blk hupd HBn12159.out HIn12_b.out)
                        have HIn12_b_160 := Lib.hid (nin_next hfar HIn12_b.out (Blk.lt HBn12159.out))
                        have HFa160 := Lib.hid (LO.upd hupd HFa_159.out (fun g hg h => HDDb_a_157.out g h hg))
                        have HDDa_b_160 := Lib.hid (dis_next hfar (fun g hg h => HDDb_a_157.out g h hg) (LO.lt HFa_159.out))
                        have HFb160 := Lib.hid hobj
                        clear hupd hobj hfar HS159 HBn12159 HFa_159 HFb_159
                        refine wpList_q (by rfl) (.tuple #[.agg #[.int .i64 0, .int .i64 0, .int .i64 0, .int .i64 0], .bool false]) ?he ?_
                        case he => (first | rfl | (go_simp; (try with_reducible rfl)))
                        (try simp only [Act.put, sA, sB, sC])
                        refine wpList_q (by rfl) (.agg #[.int .i64 0, .int .i64 0, .int .i64 0, .int .i64 0]) ?he ?_
                        case he => (first | rfl | (go_simp; (try with_reducible rfl)))
                        (try simp only [Act.put, sA, sB, sC])
                        refine wpList_q (by rfl) (.bool false) ?he ?_
                        case he => (first | rfl | (go_simp; (try with_reducible rfl)))
                        (try simp only [Act.put, sA, sB, sC])
                        refine wpList_wp (by rfl) (fun K hK => ?_)
                        refine wp_new (fun b => .pointer (some ⟨b, 0, none⟩)) 36 #[.int .i64 0, .int .i64 0, .int .i64 0, .int .i64 0] (by rintro b rfl; first | rfl | kernel_rfl) ?_
                        intro bn14 w161 hge hB hb
                        refine hK.out _ _ ?_
                        clear hK K
                        (try simp only [Act.put, sA, sB, sC])
                        have HNn14n12 := Lib.hid (show bn14 ≠ bn12 by have := Blk.lt HBn12160.out; omega)
                        have HGn14 := Lib.hid (show w.heap.size ≤ bn14 by have := Since.size HS160.out; omega)
                        have HIn14_a := Lib.hid (LO.far HFa160.out hge)
                        have HIn14_b := Lib.hid (LO.far HFb160.out hge)
                        have HS161 := Lib.hid (Since.trans HS160.out hb)
                        have HBn12161 := Lib.hid (keep_blk hb HBn12160.out)
                        have HFa161 := Lib.hid (LO.keep hb HFa160.out)
                        have HFb161 := Lib.hid (LO.keep hb HFb160.out)
                        clear HS160 HBn12160 HFa160 HFb160
                        clear hb hge
                        have HBn14161 := Lib.hid hB
                        clear hB
                        refine wpList_wp (by rfl) (fun K hK => ?_)
                        refine wp_st_row 36 _ _ rfl #[.int .i64 0, .int .i64 0, .int .i64 0, .int .i64 0] rfl rfl (HasRow.of HBn14161.out rfl) rfl (by simp [Value.oneCell']) (by kernel_rfl) ?_
                        intro w162 hw
                        refine hK.out _ _ ?_
                        clear hK K
                        (try simp only [Act.put, sA, sB, sC])
                        have HS162 := Lib.hid (show Since w w162 by rw [hw]; exact Since.setRow HS161.out HGn14.out _)
                        have HBn12162 := Lib.hid (show Blk w162 bn12 38 #[.int .i64 0, .int .i64 1, .int .i64 (base : Int), .int .i64 0, .bool true, .int .i64 2, .int .i64 (base : Int), .int .i64 0, .int .i64 0] by rw [hw]; exact Blk.row_far HBn12161.out (Ne.symm HNn14n12.out) _)
                        have HBn14162 := Lib.hid (show Blk w162 bn14 36 #[.int .i64 0, .int .i64 0, .int .i64 0, .int .i64 0] by rw [hw]; exact Blk.row HBn14161.out _)
                        have HFa_162 := Lib.hid (show LO w.heap.size ba (kA base ((i : Int) + pa 2 9 st) (st + 1) ha) (ms base (snd k base sent)) Sa_3 w162 by rw [hw]; exact LO.row_far HFa161.out HIn14_a.out _)
                        have HFb_162 := Lib.hid (show LO w.heap.size bb (kB got true (mx2 hb (cl i))) [] Sb_4 w162 by rw [hw]; exact LO.row_far HFb161.out HIn14_b.out _)
                        clear hw HS161 HBn12161 HBn14161 HFa161 HFb161
                        refine wpList_q (by rfl) (.bool false) ?he ?_
                        case he => (first | rfl | (go_simp; (try with_reducible rfl)))
                        (try simp only [Act.put, sA, sB, sC])
                        refine wpList_nil ?_
                        go_upto_region 16 with fail
                        refine wp_region_lit ?_
                        refine wpList_q (by rfl) (.bool false) ?he ?_
                        case he => (first | rfl | (go_simp; (try with_reducible rfl)))
                        (try simp only [Act.put, sA, sB, sC])
                        refine wpList_nil ?_
                        go_wp2_with fail
                        go_meet
                        case rel => exact Lib.hid ⟨true, got, (mx2 hb (cl i)), Sb_4, rfl, (.inr ⟨rfl, by have q1 := HGB.out; have q2 := HBD.out; omega⟩), HDDa_b_160.out, HS162.out, HFa_162.out, HFb_162.out⟩
                      · have HGB := Lib.hid hcs; clear hcs
                        go_upto_region 15 with fail
                        refine wp_region_lit ?_
                        refine wpList_q (by rfl) (.pointer (some ⟨bb, 0, none⟩)) ?he ?_
                        case he => (first | rfl | (go_simp; (try with_reducible rfl)))
                        (try simp only [Act.put, sA, sB, sC])
                        refine wpList_q (by rfl) (.agg #[.int .i64 0, .int .i64 1, .int .i64 (base : Int), .int .i64 0, .bool true, .int .i64 2, .int .i64 (base : Int), .int .i64 0, .int .i64 0]) ?he ?_
                        case he => exact exec_load_row 38 _ _ HBn12159.out rfl rfl Try.underlying38 rfl (by kernel_rfl)
                        (try simp only [Act.put, sA, sB, sC])
                        refine wpList_q (by rfl) (.int .i64 (i : Int)) ?he ?_
                        case he => (first | rfl | (go_simp; (try with_reducible rfl)))
                        (try simp only [Act.put, sA, sB, sC])
                        refine wpList_wp (by rfl) (fun K hK => ?_)
                        (try go_simp)
                        refine (recvB1 HFb_159.out base i (by have := HBD.out; omega) HGB.out).mono ?_
                        rintro e w160 ⟨Sb_4, rfl, hobj, hupd, hfar⟩
                        (try go_wp2_with fail)
                        refine hK.out _ _ ?_
                        clear hK K
                        (try simp only [Act.put, sA, sB, sC])
                        have HS160 := Lib.hid (Since.upd HS159.out hupd (LO.low HFb_159.out))
                        have HBn12160 := Lib.hid (Upd.blk hupd HBn12159.out HIn12_b.out)
                        have HIn12_b_160 := Lib.hid (nin_next hfar HIn12_b.out (Blk.lt HBn12159.out))
                        have HFa160 := Lib.hid (LO.upd hupd HFa_159.out (fun g hg h => HDDb_a_157.out g h hg))
                        have HDDa_b_160 := Lib.hid (dis_next hfar (fun g hg h => HDDb_a_157.out g h hg) (LO.lt HFa_159.out))
                        have HFb160 := Lib.hid hobj
                        clear hupd hobj hfar HS159 HBn12159 HFa_159 HFb_159
                        refine wpList_q (by rfl) (.tuple #[.agg #[.int .i64 2, .int .i64 (got : Int), .int .i64 0, .int .i64 0], .bool true]) ?he ?_
                        case he => (first | rfl | (go_simp; (try with_reducible rfl)))
                        (try simp only [Act.put, sA, sB, sC])
                        refine wpList_q (by rfl) (.agg #[.int .i64 2, .int .i64 (got : Int), .int .i64 0, .int .i64 0]) ?he ?_
                        case he => (first | rfl | (go_simp; (try with_reducible rfl)))
                        (try simp only [Act.put, sA, sB, sC])
                        refine wpList_q (by rfl) (.bool true) ?he ?_
                        case he => (first | rfl | (go_simp; (try with_reducible rfl)))
                        (try simp only [Act.put, sA, sB, sC])
                        refine wpList_wp (by rfl) (fun K hK => ?_)
                        refine wp_new (fun b => .pointer (some ⟨b, 0, none⟩)) 36 #[.int .i64 0, .int .i64 0, .int .i64 0, .int .i64 0] (by rintro b rfl; first | rfl | kernel_rfl) ?_
                        intro bn14 w161 hge hB hb
                        refine hK.out _ _ ?_
                        clear hK K
                        (try simp only [Act.put, sA, sB, sC])
                        have HNn14n12 := Lib.hid (show bn14 ≠ bn12 by have := Blk.lt HBn12160.out; omega)
                        have HGn14 := Lib.hid (show w.heap.size ≤ bn14 by have := Since.size HS160.out; omega)
                        have HIn14_a := Lib.hid (LO.far HFa160.out hge)
                        have HIn14_b := Lib.hid (LO.far HFb160.out hge)
                        have HS161 := Lib.hid (Since.trans HS160.out hb)
                        have HBn12161 := Lib.hid (keep_blk hb HBn12160.out)
                        have HFa161 := Lib.hid (LO.keep hb HFa160.out)
                        have HFb161 := Lib.hid (LO.keep hb HFb160.out)
                        clear HS160 HBn12160 HFa160 HFb160
                        clear hb hge
                        have HBn14161 := Lib.hid hB
                        clear hB
                        refine wpList_wp (by rfl) (fun K hK => ?_)
                        refine wp_st_row 36 _ _ rfl #[.int .i64 2, .int .i64 (got : Int), .int .i64 0, .int .i64 0] rfl rfl (HasRow.of HBn14161.out rfl) rfl (by simp [Value.oneCell']) (by kernel_rfl) ?_
                        intro w162 hw
                        refine hK.out _ _ ?_
                        clear hK K
                        (try simp only [Act.put, sA, sB, sC])
                        have HS162 := Lib.hid (show Since w w162 by rw [hw]; exact Since.setRow HS161.out HGn14.out _)
                        have HBn12162 := Lib.hid (show Blk w162 bn12 38 #[.int .i64 0, .int .i64 1, .int .i64 (base : Int), .int .i64 0, .bool true, .int .i64 2, .int .i64 (base : Int), .int .i64 0, .int .i64 0] by rw [hw]; exact Blk.row_far HBn12161.out (Ne.symm HNn14n12.out) _)
                        have HBn14162 := Lib.hid (show Blk w162 bn14 36 #[.int .i64 2, .int .i64 (got : Int), .int .i64 0, .int .i64 0] by rw [hw]; exact Blk.row HBn14161.out _)
                        have HFa_162 := Lib.hid (show LO w.heap.size ba (kA base ((i : Int) + pa 2 9 st) (st + 1) ha) (ms base (snd k base sent)) Sa_3 w162 by rw [hw]; exact LO.row_far HFa161.out HIn14_a.out _)
                        have HFb_162 := Lib.hid (show LO w.heap.size bb (kB (got + 1) true (mx2 hb (cl i))) [] Sb_4 w162 by rw [hw]; exact LO.row_far HFb161.out HIn14_b.out _)
                        clear hw HS161 HBn12161 HBn14161 HFa161 HFb161
                        refine wpList_q (by rfl) (.bool true) ?he ?_
                        case he => (first | rfl | (go_simp; (try with_reducible rfl)))
                        (try simp only [Act.put, sA, sB, sC])
                        refine wpList_nil ?_
                        go_upto_region 16 with fail
                        refine wp_region_lit ?_
                        refine wpList_q (by rfl) (.bool true) ?he ?_
                        case he => (first | rfl | (go_simp; (try with_reducible rfl)))
                        (try simp only [Act.put, sA, sB, sC])
                        refine wpList_nil ?_
                        go_upto_region 17 with fail
                        refine wp_region_lit ?_
                        refine wpList_q (by rfl) (.pointer (some ⟨bn14, 1, none⟩)) ?he ?_
                        case he => (first | rfl | (go_simp; (try with_reducible rfl)))
                        (try simp only [Act.put, sA, sB, sC])
                        refine wpList_q (by rfl) (.int .i64 (got : Int)) ?he ?_
                        case he => exact exec_cell 3 _ _ HBn14162.out rfl rfl rfl Try.underlying3 rfl
                        (try simp only [Act.put, sA, sB, sC])
                        refine wpList_q (by rfl) (.int .i64 (got : Int)) ?he ?_
                        case he => (first | rfl | (go_simp; (try with_reducible rfl)))
                        (try simp only [Act.put, sA, sB, sC])
                        refine wpList_q (by rfl) (.bool false) ?he ?_
                        case he => (go_simp; (try with_reducible rfl))
                        (try simp only [Act.put, sA, sB, sC])
                        refine wpList_nil ?_
                        go_upto_region 19 with fail
                        refine wp_region_lit ?_
                        refine wpList_q (by rfl) (.int .i64 (got : Int)) ?he ?_
                        case he => (first | rfl | (go_simp; (try with_reducible rfl)))
                        (try simp only [Act.put, sA, sB, sC])
                        refine wpList_q (by rfl) (.int .i64 ((got : Int) + 1)) ?he ?_
                        case he => (go_simp; (first | done | (refine wr64 _ ?_ ?_ <;> (have q0 := HBD.out; omega)) | (have q0 := HBD.out; omega) | (have q0 := HBD.out; split <;> omega) | (have q0 := HBD.out; intro hh; omega)))
                        (try simp only [Act.put, sA, sB, sC])
                        refine wpList_q (by rfl) (.int .i64 ((got : Int) + 1)) ?he ?_
                        case he => (first | rfl | (go_simp; (try with_reducible rfl)))
                        (try simp only [Act.put, sA, sB, sC])
                        refine wpList_nil ?_
                        go_wp2_with fail
                        go_meet
                        case rel => exact Lib.hid ⟨true, got + 1, (mx2 hb (cl i)), Sb_4, (by go_num), (.inr ⟨rfl, by have := HGB.out; omega⟩), HDDa_b_160.out, HS162.out, HFa_162.out, HFb_162.out⟩
                  case rest =>
                    clear HS159 HBn12159 HFa_159 HFb_159
                    obtain ⟨an, got2, hb2, Sb2, rfl, x0, x1, g0, g1, g2⟩ := hcut.out
                    clear hcut
                    have HOR := Lib.hid x0; clear x0
                    have HD3 := Lib.hid x1; clear x1
                    have HS209 := Lib.hid g0; have HFa209 := Lib.hid g1; have HFb209 := Lib.hid g2; clear g0 g1 g2
                    clear HOD
                    have HPA := Lib.hid (pa9 st)
                    rcases HOR.out with ⟨rfl, rfl, hil⟩ | ⟨rfl, hg2⟩
                    · have HIL := Lib.hid hil; clear hil HOR
                      go_upto_region 20 with fail
                      refine wp_region_lit ?_
                      refine wpList_q (by rfl) (.pointer (some ⟨bb, 0, none⟩)) ?he ?_
                      case he => (first | rfl | (go_simp; (try with_reducible rfl)))
                      (try simp only [Act.put, sA, sB, sC])
                      refine wpList_q (by rfl) (.int .i64 (i : Int)) ?he ?_
                      case he => (first | rfl | (go_simp; (try with_reducible rfl)))
                      (try simp only [Act.put, sA, sB, sC])
                      refine wpList_wp (by rfl) (fun K hK => ?_)
                      (try go_simp)
                      refine (pollB0 HFb209.out i).mono ?_
                      rintro e w210 ⟨rfl, hb⟩
                      (try go_wp2_with fail)
                      refine hK.out _ _ ?_
                      clear hK K
                      (try simp only [Act.put, sA, sB, sC])
                      have HS210 := Lib.hid (Since.trans HS209.out hb)
                      have HFa210 := Lib.hid (LO.keep hb HFa209.out)
                      have HFb210 := Lib.hid (LO.keep hb HFb209.out)
                      clear HS209 HFa209 HFb209
                      clear hb
                      refine wpList_q (by rfl) (.tuple #[.agg #[.int .i64 0, .int .i64 0, .int .i64 0, .int .i64 0, .bool false, .int .i64 0, .int .i64 0, .int .i64 0, .int .i64 0], .bool false]) ?he ?_
                      case he => (first | rfl | (go_simp; (try with_reducible rfl)))
                      (try simp only [Act.put, sA, sB, sC])
                      refine wpList_q (by rfl) (.agg #[.int .i64 0, .int .i64 0, .int .i64 0, .int .i64 0, .bool false, .int .i64 0, .int .i64 0, .int .i64 0, .int .i64 0]) ?he ?_
                      case he => (first | rfl | (go_simp; (try with_reducible rfl)))
                      (try simp only [Act.put, sA, sB, sC])
                      refine wpList_q (by rfl) (.bool false) ?he ?_
                      case he => (first | rfl | (go_simp; (try with_reducible rfl)))
                      (try simp only [Act.put, sA, sB, sC])
                      refine wpList_wp (by rfl) (fun K hK => ?_)
                      refine wp_new (fun b => .pointer (some ⟨b, 0, none⟩)) 38 #[.int .i64 0, .int .i64 0, .int .i64 0, .int .i64 0, .bool false, .int .i64 0, .int .i64 0, .int .i64 0, .int .i64 0] (by rintro b rfl; first | rfl | kernel_rfl) ?_
                      intro bn16 w211 hge hB hb
                      refine hK.out _ _ ?_
                      clear hK K
                      (try simp only [Act.put, sA, sB, sC])
                      have HGn16 := Lib.hid (show w.heap.size ≤ bn16 by have := Since.size HS210.out; omega)
                      have HIn16_a := Lib.hid (LO.far HFa210.out hge)
                      have HIn16_b := Lib.hid (LO.far HFb210.out hge)
                      have HS211 := Lib.hid (Since.trans HS210.out hb)
                      have HFa211 := Lib.hid (LO.keep hb HFa210.out)
                      have HFb211 := Lib.hid (LO.keep hb HFb210.out)
                      clear HS210 HFa210 HFb210
                      clear hb hge
                      have HBn16211 := Lib.hid hB
                      clear hB
                      refine wpList_wp (by rfl) (fun K hK => ?_)
                      refine wp_st_row 38 _ _ rfl #[.int .i64 0, .int .i64 0, .int .i64 0, .int .i64 0, .bool false, .int .i64 0, .int .i64 0, .int .i64 0, .int .i64 0] rfl rfl (HasRow.of HBn16211.out rfl) rfl (by simp [Value.oneCell']) (by kernel_rfl) ?_
                      intro w212 hw
                      refine hK.out _ _ ?_
                      clear hK K
                      (try simp only [Act.put, sA, sB, sC])
                      have HS212 := Lib.hid (show Since w w212 by rw [hw]; exact Since.setRow HS211.out HGn16.out _)
                      have HBn16212 := Lib.hid (show Blk w212 bn16 38 #[.int .i64 0, .int .i64 0, .int .i64 0, .int .i64 0, .bool false, .int .i64 0, .int .i64 0, .int .i64 0, .int .i64 0] by rw [hw]; exact Blk.row HBn16211.out _)
                      have HFa_212 := Lib.hid (show LO w.heap.size ba (kA base ((i : Int) + pa 2 9 st) (st + 1) ha) (ms base (snd k base sent)) Sa_3 w212 by rw [hw]; exact LO.row_far HFa211.out HIn16_a.out _)
                      have HFb_212 := Lib.hid (show LO w.heap.size bb (kB got2 false hb2) [] Sb2 w212 by rw [hw]; exact LO.row_far HFb211.out HIn16_b.out _)
                      clear hw HS211 HBn16211 HFa211 HFb211
                      refine wpList_q (by rfl) (.bool false) ?he ?_
                      case he => (first | rfl | (go_simp; (try with_reducible rfl)))
                      (try simp only [Act.put, sA, sB, sC])
                      refine wpList_nil ?_
                      go_upto_region 21 with fail
                      refine wp_region_lit ?_
                      refine wpList_q (by rfl) (.bool false) ?he ?_
                      case he => (first | rfl | (go_simp; (try with_reducible rfl)))
                      (try simp only [Act.put, sA, sB, sC])
                      refine wpList_q (by rfl) (.bool false) ?he ?_
                      case he => (first | rfl | (go_simp; (try with_reducible rfl)))
                      (try simp only [Act.put, sA, sB, sC])
                      refine wpList_no (by rfl) ?_
                      (try simp only [Act.put, sA, sB, sC])
                      refine wpList_no (by rfl) ?_
                      (try simp only [Act.put, sA, sB, sC])
                      refine wpList_no (by rfl) ?_
                      (try simp only [Act.put, sA, sB, sC])
                      refine wpList_no (by rfl) ?_
                      (try simp only [Act.put, sA, sB, sC])
                      refine wpList_no (by rfl) ?_
                      (try simp only [Act.put, sA, sB, sC])
                      refine wpList_no (by rfl) ?_
                      (try simp only [Act.put, sA, sB, sC])
                      refine wpList_no (by rfl) ?_
                      (try simp only [Act.put, sA, sB, sC])
                      refine wpList_no (by rfl) ?_
                      (try simp only [Act.put, sA, sB, sC])
                      refine wpList_no (by rfl) ?_
                      (try simp only [Act.put, sA, sB, sC])
                      refine wpList_no (by rfl) ?_
                      (try simp only [Act.put, sA, sB, sC])
                      refine wpList_no (by rfl) ?_
                      (try simp only [Act.put, sA, sB, sC])
                      refine wpList_no (by rfl) ?_
                      (try simp only [Act.put, sA, sB, sC])
                      refine wpList_no (by rfl) ?_
                      (try simp only [Act.put, sA, sB, sC])
                      refine wpList_no (by rfl) ?_
                      (try simp only [Act.put, sA, sB, sC])
                      refine wpList_no (by rfl) ?_
                      (try simp only [Act.put, sA, sB, sC])
                      refine wpList_q (by rfl) (.bool false) ?he ?_
                      case he => (first | rfl | (go_simp; (try with_reducible rfl)))
                      (try simp only [Act.put, sA, sB, sC])
                      refine wpList_nil ?_
                      go_upto_region 8 with fail
                      refine wp_region_lit ?_
                      refine wpList_q (by rfl) (.int .i64 (i : Int)) ?he ?_
                      case he => (first | rfl | (go_simp; (try with_reducible rfl)))
                      (try simp only [Act.put, sA, sB, sC])
                      refine wpList_q (by rfl) (.int .i64 ((i : Int) + 1)) ?he ?_
                      case he => (go_simp; (first | done | (refine wr64 _ ?_ ?_ <;> (have q0 := HI5.out; omega)) | (have q0 := HI5.out; omega) | (have q0 := HI5.out; split <;> omega) | (have q0 := HI5.out; intro hh; omega)))
                      (try simp only [Act.put, sA, sB, sC])
                      refine wpList_q (by rfl) (.int .i64 ((i : Int) + 1)) ?he ?_
                      case he => (first | rfl | (go_simp; (try with_reducible rfl)))
                      (try simp only [Act.put, sA, sB, sC])
                      refine wpList_nil ?_
                      go_wp2_with fail
                      go_roundw
                      case rel => exact ⟨i + 1, base, snd k base sent, got2, ((i : Int) + pa 2 9 st), (st + 1), ha, hb2, Sa_3, Sb2, by have := HLT0.out; omega, .inr (by have := HL2.out; omega), rfl, rfl, by go_num, Lib.hid ⟨lost1 HAI.out HPA.out.1 HPA.out.2 HIL.out, HD3.out, HS212.out, HFa_212.out, HFb_212.out⟩⟩
                      case measure => have := HLT0.out; simp [intOf]; omega
                    · have HG2 := Lib.hid hg2; clear hg2 HOR
                      go_upto_region 20 with fail
                      refine wp_region_lit ?_
                      refine wpList_q (by rfl) (.pointer (some ⟨bb, 0, none⟩)) ?he ?_
                      case he => (first | rfl | (go_simp; (try with_reducible rfl)))
                      (try simp only [Act.put, sA, sB, sC])
                      refine wpList_q (by rfl) (.int .i64 (i : Int)) ?he ?_
                      case he => (first | rfl | (go_simp; (try with_reducible rfl)))
                      (try simp only [Act.put, sA, sB, sC])
                      refine wpList_wp (by rfl) (fun K hK => ?_)
                      (try go_simp)
                      refine (pollB1 HFb209.out i).mono ?_
                      rintro e w210 ⟨Sb_4, rfl, hobj, hupd, hfar⟩
                      (try go_wp2_with fail)
                      refine hK.out _ _ ?_
                      clear hK K
                      (try simp only [Act.put, sA, sB, sC])
                      have HS210 := Lib.hid (Since.upd HS209.out hupd (LO.low HFb209.out))
                      have HFa210 := Lib.hid (LO.upd hupd HFa209.out HD3.out)
                      have HDDa_b_210 := Lib.hid (dis_next hfar HD3.out (LO.lt HFa209.out))
                      have HFb210 := Lib.hid hobj
                      clear hupd hobj hfar HS209 HFa209 HFb209
                      refine wpList_q (by rfl) (.tuple #[.agg #[.int .i64 0, .int .i64 1, .int .i64 0, .int .i64 (got2 : Int), .bool false, .int .i64 0, .int .i64 0, .int .i64 0, .int .i64 0], .bool true]) ?he ?_
                      case he => (first | rfl | (go_simp; (try with_reducible rfl)))
                      (try simp only [Act.put, sA, sB, sC])
                      refine wpList_q (by rfl) (.agg #[.int .i64 0, .int .i64 1, .int .i64 0, .int .i64 (got2 : Int), .bool false, .int .i64 0, .int .i64 0, .int .i64 0, .int .i64 0]) ?he ?_
                      case he => (first | rfl | (go_simp; (try with_reducible rfl)))
                      (try simp only [Act.put, sA, sB, sC])
                      refine wpList_q (by rfl) (.bool true) ?he ?_
                      case he => (first | rfl | (go_simp; (try with_reducible rfl)))
                      (try simp only [Act.put, sA, sB, sC])
                      refine wpList_wp (by rfl) (fun K hK => ?_)
                      refine wp_new (fun b => .pointer (some ⟨b, 0, none⟩)) 38 #[.int .i64 0, .int .i64 0, .int .i64 0, .int .i64 0, .bool false, .int .i64 0, .int .i64 0, .int .i64 0, .int .i64 0] (by rintro b rfl; first | rfl | kernel_rfl) ?_
                      intro bn16 w211 hge hB hb
                      refine hK.out _ _ ?_
                      clear hK K
                      (try simp only [Act.put, sA, sB, sC])
                      have HGn16 := Lib.hid (show w.heap.size ≤ bn16 by have := Since.size HS210.out; omega)
                      have HIn16_a := Lib.hid (LO.far HFa210.out hge)
                      have HIn16_b := Lib.hid (LO.far HFb210.out hge)
                      have HS211 := Lib.hid (Since.trans HS210.out hb)
                      have HFa211 := Lib.hid (LO.keep hb HFa210.out)
                      have HFb211 := Lib.hid (LO.keep hb HFb210.out)
                      clear HS210 HFa210 HFb210
                      clear hb hge
                      have HBn16211 := Lib.hid hB
                      clear hB
                      refine wpList_wp (by rfl) (fun K hK => ?_)
                      refine wp_st_row 38 _ _ rfl #[.int .i64 0, .int .i64 1, .int .i64 0, .int .i64 (got2 : Int), .bool false, .int .i64 0, .int .i64 0, .int .i64 0, .int .i64 0] rfl rfl (HasRow.of HBn16211.out rfl) rfl (by simp [Value.oneCell']) (by kernel_rfl) ?_
                      intro w212 hw
                      refine hK.out _ _ ?_
                      clear hK K
                      (try simp only [Act.put, sA, sB, sC])
                      have HS212 := Lib.hid (show Since w w212 by rw [hw]; exact Since.setRow HS211.out HGn16.out _)
                      have HBn16212 := Lib.hid (show Blk w212 bn16 38 #[.int .i64 0, .int .i64 1, .int .i64 0, .int .i64 (got2 : Int), .bool false, .int .i64 0, .int .i64 0, .int .i64 0, .int .i64 0] by rw [hw]; exact Blk.row HBn16211.out _)
                      have HFa_212 := Lib.hid (show LO w.heap.size ba (kA base ((i : Int) + pa 2 9 st) (st + 1) ha) (ms base (snd k base sent)) Sa_3 w212 by rw [hw]; exact LO.row_far HFa211.out HIn16_a.out _)
                      have HFb_212 := Lib.hid (show LO w.heap.size bb (kB got2 false hb2) [] Sb_4 w212 by rw [hw]; exact LO.row_far HFb211.out HIn16_b.out _)
                      clear hw HS211 HBn16211 HFa211 HFb211
                      refine wpList_q (by rfl) (.bool true) ?he ?_
                      case he => (first | rfl | (go_simp; (try with_reducible rfl)))
                      (try simp only [Act.put, sA, sB, sC])
                      refine wpList_nil ?_
                      by_cases hcs : i < len
                      rotate_left
                      · have HIL := Lib.hid hcs; clear hcs
                        go_upto_region 21 with fail
                        refine wp_region_lit ?_
                        refine wpList_q (by rfl) (.bool true) ?he ?_
                        case he => (first | rfl | (go_simp; (try with_reducible rfl)))
                        (try simp only [Act.put, sA, sB, sC])
                        refine wpList_q (by rfl) (.bool true) ?he ?_
                        case he => (first | rfl | (go_simp; (try with_reducible rfl)))
                        (try simp only [Act.put, sA, sB, sC])
                        refine wpList_q (by rfl) (.int .i64 (i : Int)) ?he ?_
                        case he => (first | rfl | (go_simp; (try with_reducible rfl)))
                        (try simp only [Act.put, sA, sB, sC])
                        refine wpList_q (by rfl) (.slice A len cap) ?he ?_
                        case he => (first | rfl | (go_simp; (try with_reducible rfl)))
                        (try simp only [Act.put, sA, sB, sC])
                        refine wpList_q (by rfl) (.int .i64 len) ?he ?_
                        case he => (go_simp; (try with_reducible rfl))
                        (try simp only [Act.put, sA, sB, sC])
                        refine wpList_q (by rfl) (.bool true) ?he ?_
                        case he => (have q0 := HIL.out; go_simp; (first | done | rfl | omega))
                        (try simp only [Act.put, sA, sB, sC])
                        refine wpList_q (by rfl) (.bool true) ?he ?_
                        case he => (first | rfl | (go_simp; (try with_reducible rfl)))
                        (try simp only [Act.put, sA, sB, sC])
                        refine wpList_no (by rfl) ?_
                        (try simp only [Act.put, sA, sB, sC])
                        refine wpList_no (by rfl) ?_
                        (try simp only [Act.put, sA, sB, sC])
                        refine wpList_no (by rfl) ?_
                        (try simp only [Act.put, sA, sB, sC])
                        refine wpList_no (by rfl) ?_
                        (try simp only [Act.put, sA, sB, sC])
                        refine wpList_no (by rfl) ?_
                        (try simp only [Act.put, sA, sB, sC])
                        refine wpList_no (by rfl) ?_
                        (try simp only [Act.put, sA, sB, sC])
                        refine wpList_no (by rfl) ?_
                        (try simp only [Act.put, sA, sB, sC])
                        refine wpList_no (by rfl) ?_
                        (try simp only [Act.put, sA, sB, sC])
                        refine wpList_no (by rfl) ?_
                        (try simp only [Act.put, sA, sB, sC])
                        refine wpList_q (by rfl) (.bool true) ?he ?_
                        case he => (first | rfl | (go_simp; (try with_reducible rfl)))
                        (try simp only [Act.put, sA, sB, sC])
                        refine wpList_q (by rfl) (.bool true) ?he ?_
                        case he => (first | rfl | (go_simp; (try with_reducible rfl)))
                        (try simp only [Act.put, sA, sB, sC])
                        refine wpList_nil ?_
                        go_upto_region 22 with fail
                        refine wp_region_lit ?_
                        refine wpList_q (by rfl) (.pointer (some ⟨ba, 0, none⟩)) ?he ?_
                        case he => (first | rfl | (go_simp; (try with_reducible rfl)))
                        (try simp only [Act.put, sA, sB, sC])
                        refine wpList_q (by rfl) (.agg #[.int .i64 0, .int .i64 1, .int .i64 0, .int .i64 (got2 : Int), .bool false, .int .i64 0, .int .i64 0, .int .i64 0, .int .i64 0]) ?he ?_
                        case he => exact exec_load_row 38 _ _ HBn16212.out rfl rfl Try.underlying38 rfl (by kernel_rfl)
                        (try simp only [Act.put, sA, sB, sC])
                        refine wpList_q (by rfl) (.int .i64 (i : Int)) ?he ?_
                        case he => (first | rfl | (go_simp; (try with_reducible rfl)))
                        (try simp only [Act.put, sA, sB, sC])
                        refine wpList_wp (by rfl) (fun K hK => ?_)
                        (try go_simp)
                        refine (recvA1 HFa_212.out got2 i (by have q1 := HSN.out; have q2 := HK12.out; omega) HDU.out.1 HG2.out).mono ?_
                        rintro e w213 ⟨Sa_5, rfl, hobj, hupd, hfar⟩
                        (try go_wp2_with fail)
                        refine hK.out _ _ ?_
                        clear hK K
                        (try simp only [Act.put, sA, sB, sC])
                        have HS213 := Lib.hid (Since.upd HS212.out hupd (LO.low HFa_212.out))
                        have HBn16213 := Lib.hid (Upd.blk hupd HBn16212.out HIn16_a.out)
                        have HIn16_a_213 := Lib.hid (nin_next hfar HIn16_a.out (Blk.lt HBn16212.out))
                        have HFb213 := Lib.hid (LO.upd hupd HFb_212.out (fun g hg h => HDDa_b_210.out g h hg))
                        have HDDb_a_213 := Lib.hid (dis_next hfar (fun g hg h => HDDa_b_210.out g h hg) (LO.lt HFb_212.out))
                        have HFa213 := Lib.hid hobj
                        clear hupd hobj hfar HS212 HBn16212 HFa_212 HFb_212
                        refine wpList_nil ?_
                        go_upto_region 8 with fail
                        refine wp_region_lit ?_
                        refine wpList_q (by rfl) (.int .i64 (i : Int)) ?he ?_
                        case he => (first | rfl | (go_simp; (try with_reducible rfl)))
                        (try simp only [Act.put, sA, sB, sC])
                        refine wpList_q (by rfl) (.int .i64 ((i : Int) + 1)) ?he ?_
                        case he => (go_simp; (first | done | (refine wr64 _ ?_ ?_ <;> (have q0 := HI5.out; omega)) | (have q0 := HI5.out; omega) | (have q0 := HI5.out; split <;> omega) | (have q0 := HI5.out; intro hh; omega)))
                        (try simp only [Act.put, sA, sB, sC])
                        refine wpList_q (by rfl) (.int .i64 ((i : Int) + 1)) ?he ?_
                        case he => (first | rfl | (go_simp; (try with_reducible rfl)))
                        (try simp only [Act.put, sA, sB, sC])
                        refine wpList_nil ?_
                        go_wp2_with fail
                        go_roundw
                        case rel => exact ⟨i + 1, base + 1, snd k base sent, got2, 0, 0, (mx2 ha (cl i)), hb2, Sa_5, Sb_4, by have := HLT0.out; omega, .inr (by have := HL2.out; omega), rfl, rfl, by go_num, Lib.hid ⟨(by have q := acked HAI.out HDU.out.1; rw [← HG2.out] at q ⊢; exact q), (fun g hg h => HDDb_a_213.out g h hg), HS213.out, HFa213.out, HFb213.out⟩⟩
                        case measure => have := HLT0.out; simp [intOf]; omega
                      · have HIL := Lib.hid hcs; clear hcs
                        obtain ⟨bL, oL, rfl, hcL⟩ : ∃ bL oL, A = some ⟨bL, oL, none⟩ ∧ ∀ j, j < len → w.cell? ⟨bL, oL + j, none⟩ = some (.bool (bs j)) := by rcases HX.out with h | ⟨b, o, e, h1, h2⟩; (exact absurd HIL.out (by omega)); exact ⟨b, o, e, h2⟩
                        by_cases hcs : bs (len - 1 - i) = true
                        rotate_left
                        · have HLO := Lib.hid hcs; clear hcs
                          have HCB := Lib.hid (show w.cell? ⟨bL, oL + (len - 1 - i) * 1, none⟩ = some (.bool false) by rw [Nat.mul_one, hcL (len - 1 - i) (by have := HIL.out; omega), (Bool.eq_false_iff.2 HLO.out)]); clear hcL
                          go_upto_region 21 with fail
                          refine wp_region_lit ?_
                          refine wpList_q (by rfl) (.bool true) ?he ?_
                          case he => (first | rfl | (go_simp; (try with_reducible rfl)))
                          (try simp only [Act.put, sA, sB, sC])
                          refine wpList_q (by rfl) (.bool true) ?he ?_
                          case he => (first | rfl | (go_simp; (try with_reducible rfl)))
                          (try simp only [Act.put, sA, sB, sC])
                          refine wpList_q (by rfl) (.int .i64 (i : Int)) ?he ?_
                          case he => (first | rfl | (go_simp; (try with_reducible rfl)))
                          (try simp only [Act.put, sA, sB, sC])
                          refine wpList_q (by rfl) (.slice (some ⟨bL, oL, none⟩) len cap) ?he ?_
                          case he => (first | rfl | (go_simp; (try with_reducible rfl)))
                          (try simp only [Act.put, sA, sB, sC])
                          refine wpList_q (by rfl) (.int .i64 len) ?he ?_
                          case he => (go_simp; (try with_reducible rfl))
                          (try simp only [Act.put, sA, sB, sC])
                          refine wpList_q (by rfl) (.bool false) ?he ?_
                          case he => (have q0 := HIL.out; go_simp; (first | done | rfl | omega))
                          (try simp only [Act.put, sA, sB, sC])
                          refine wpList_q (by rfl) (.bool false) ?he ?_
                          case he => (first | rfl | (go_simp; (try with_reducible rfl)))
                          (try simp only [Act.put, sA, sB, sC])
                          refine wpList_q (by rfl) (.slice (some ⟨bL, oL, none⟩) len cap) ?he ?_
                          case he => (first | rfl | (go_simp; (try with_reducible rfl)))
                          (try simp only [Act.put, sA, sB, sC])
                          refine wpList_q (by rfl) (.slice (some ⟨bL, oL, none⟩) len cap) ?he ?_
                          case he => (first | rfl | (go_simp; (try with_reducible rfl)))
                          (try simp only [Act.put, sA, sB, sC])
                          refine wpList_q (by rfl) (.int .i64 len) ?he ?_
                          case he => (go_simp; (try with_reducible rfl))
                          (try simp only [Act.put, sA, sB, sC])
                          refine wpList_q (by rfl) (.int .i64 ((len : Int) - 1)) ?he ?_
                          case he => (go_simp; (first | done | (refine wr64 _ ?_ ?_ <;> (have q0 := HIL.out; have q1 := HLEN.out; omega)) | (have q0 := HIL.out; have q1 := HLEN.out; omega) | (have q0 := HIL.out; have q1 := HLEN.out; split <;> omega) | (have q0 := HIL.out; have q1 := HLEN.out; intro hh; omega)))
                          (try simp only [Act.put, sA, sB, sC])
                          refine wpList_q (by rfl) (.int .i64 (i : Int)) ?he ?_
                          case he => (first | rfl | (go_simp; (try with_reducible rfl)))
                          (try simp only [Act.put, sA, sB, sC])
                          refine wpList_q (by rfl) (.int .i64 ((len : Int) - 1 - (i : Int))) ?he ?_
                          case he => (go_simp; (first | done | (refine wr64 _ ?_ ?_ <;> (have q0 := HIL.out; have q1 := HLEN.out; omega)) | (have q0 := HIL.out; have q1 := HLEN.out; omega) | (have q0 := HIL.out; have q1 := HLEN.out; split <;> omega) | (have q0 := HIL.out; have q1 := HLEN.out; intro hh; omega)))
                          (try simp only [Act.put, sA, sB, sC])
                          refine wpList_q (by rfl) (.pointer (some ⟨bL, (oL + (len - 1 - i) * 1), none⟩)) ?he ?_
                          case he => exact exec_index (i := (len - 1 - i)) (s := 1) 47 4 _ _ rfl rfl rfl (by have := HIL.out; omega) (by have := HIL.out; omega) Try.underlying47 (by kernel_rfl)
                          (try simp only [Act.put, sA, sB, sC])
                          refine wpList_q (by rfl) (.bool false) ?he ?_
                          case he => exact exec_at 4 _ _ (keep_cell HS212.out HCB.out) rfl rfl Try.underlying4 rfl
                          (try simp only [Act.put, sA, sB, sC])
                          refine wpList_q (by rfl) (.bool true) ?he ?_
                          case he => (go_simp; (try with_reducible rfl))
                          (try simp only [Act.put, sA, sB, sC])
                          refine wpList_q (by rfl) (.bool true) ?he ?_
                          case he => (first | rfl | (go_simp; (try with_reducible rfl)))
                          (try simp only [Act.put, sA, sB, sC])
                          refine wpList_q (by rfl) (.bool true) ?he ?_
                          case he => (first | rfl | (go_simp; (try with_reducible rfl)))
                          (try simp only [Act.put, sA, sB, sC])
                          refine wpList_nil ?_
                          go_upto_region 22 with fail
                          refine wp_region_lit ?_
                          refine wpList_q (by rfl) (.pointer (some ⟨ba, 0, none⟩)) ?he ?_
                          case he => (first | rfl | (go_simp; (try with_reducible rfl)))
                          (try simp only [Act.put, sA, sB, sC])
                          refine wpList_q (by rfl) (.agg #[.int .i64 0, .int .i64 1, .int .i64 0, .int .i64 (got2 : Int), .bool false, .int .i64 0, .int .i64 0, .int .i64 0, .int .i64 0]) ?he ?_
                          case he => exact exec_load_row 38 _ _ HBn16212.out rfl rfl Try.underlying38 rfl (by kernel_rfl)
                          (try simp only [Act.put, sA, sB, sC])
                          refine wpList_q (by rfl) (.int .i64 (i : Int)) ?he ?_
                          case he => (first | rfl | (go_simp; (try with_reducible rfl)))
                          (try simp only [Act.put, sA, sB, sC])
                          refine wpList_wp (by rfl) (fun K hK => ?_)
                          (try go_simp)
                          refine (recvA1 HFa_212.out got2 i (by have q1 := HSN.out; have q2 := HK12.out; omega) HDU.out.1 HG2.out).mono ?_
                          rintro e w213 ⟨Sa_5, rfl, hobj, hupd, hfar⟩
                          (try go_wp2_with fail)
                          refine hK.out _ _ ?_
                          clear hK K
                          (try simp only [Act.put, sA, sB, sC])
                          have HS213 := Lib.hid (Since.upd HS212.out hupd (LO.low HFa_212.out))
                          have HBn16213 := Lib.hid (Upd.blk hupd HBn16212.out HIn16_a.out)
                          have HIn16_a_213 := Lib.hid (nin_next hfar HIn16_a.out (Blk.lt HBn16212.out))
                          have HFb213 := Lib.hid (LO.upd hupd HFb_212.out (fun g hg h => HDDa_b_210.out g h hg))
                          have HDDb_a_213 := Lib.hid (dis_next hfar (fun g hg h => HDDa_b_210.out g h hg) (LO.lt HFb_212.out))
                          have HFa213 := Lib.hid hobj
                          clear hupd hobj hfar HS212 HBn16212 HFa_212 HFb_212
                          refine wpList_nil ?_
                          go_upto_region 8 with fail
                          refine wp_region_lit ?_
                          refine wpList_q (by rfl) (.int .i64 (i : Int)) ?he ?_
                          case he => (first | rfl | (go_simp; (try with_reducible rfl)))
                          (try simp only [Act.put, sA, sB, sC])
                          refine wpList_q (by rfl) (.int .i64 ((i : Int) + 1)) ?he ?_
                          case he => (go_simp; (first | done | (refine wr64 _ ?_ ?_ <;> (have q0 := HI5.out; omega)) | (have q0 := HI5.out; omega) | (have q0 := HI5.out; split <;> omega) | (have q0 := HI5.out; intro hh; omega)))
                          (try simp only [Act.put, sA, sB, sC])
                          refine wpList_q (by rfl) (.int .i64 ((i : Int) + 1)) ?he ?_
                          case he => (first | rfl | (go_simp; (try with_reducible rfl)))
                          (try simp only [Act.put, sA, sB, sC])
                          refine wpList_nil ?_
                          go_wp2_with fail
                          go_roundw
                          case rel => exact ⟨i + 1, base + 1, snd k base sent, got2, 0, 0, (mx2 ha (cl i)), hb2, Sa_5, Sb_4, by have := HLT0.out; omega, .inr (by have := HL2.out; omega), rfl, rfl, by go_num, Lib.hid ⟨(by have q := acked HAI.out HDU.out.1; rw [← HG2.out] at q ⊢; exact q), (fun g hg h => HDDb_a_213.out g h hg), HS213.out, HFa213.out, HFb213.out⟩⟩
                          case measure => have := HLT0.out; simp [intOf]; omega
                        · have HLO := Lib.hid hcs; clear hcs
                          have HCB := Lib.hid (show w.cell? ⟨bL, oL + (len - 1 - i) * 1, none⟩ = some (.bool true) by rw [Nat.mul_one, hcL (len - 1 - i) (by have := HIL.out; omega), HLO.out]); clear hcL
                          go_upto_region 21 with fail
                          refine wp_region_lit ?_
                          refine wpList_q (by rfl) (.bool true) ?he ?_
                          case he => (first | rfl | (go_simp; (try with_reducible rfl)))
                          (try simp only [Act.put, sA, sB, sC])
                          refine wpList_q (by rfl) (.bool true) ?he ?_
                          case he => (first | rfl | (go_simp; (try with_reducible rfl)))
                          (try simp only [Act.put, sA, sB, sC])
                          refine wpList_q (by rfl) (.int .i64 (i : Int)) ?he ?_
                          case he => (first | rfl | (go_simp; (try with_reducible rfl)))
                          (try simp only [Act.put, sA, sB, sC])
                          refine wpList_q (by rfl) (.slice (some ⟨bL, oL, none⟩) len cap) ?he ?_
                          case he => (first | rfl | (go_simp; (try with_reducible rfl)))
                          (try simp only [Act.put, sA, sB, sC])
                          refine wpList_q (by rfl) (.int .i64 len) ?he ?_
                          case he => (go_simp; (try with_reducible rfl))
                          (try simp only [Act.put, sA, sB, sC])
                          refine wpList_q (by rfl) (.bool false) ?he ?_
                          case he => (have q0 := HIL.out; go_simp; (first | done | rfl | omega))
                          (try simp only [Act.put, sA, sB, sC])
                          refine wpList_q (by rfl) (.bool false) ?he ?_
                          case he => (first | rfl | (go_simp; (try with_reducible rfl)))
                          (try simp only [Act.put, sA, sB, sC])
                          refine wpList_q (by rfl) (.slice (some ⟨bL, oL, none⟩) len cap) ?he ?_
                          case he => (first | rfl | (go_simp; (try with_reducible rfl)))
                          (try simp only [Act.put, sA, sB, sC])
                          refine wpList_q (by rfl) (.slice (some ⟨bL, oL, none⟩) len cap) ?he ?_
                          case he => (first | rfl | (go_simp; (try with_reducible rfl)))
                          (try simp only [Act.put, sA, sB, sC])
                          refine wpList_q (by rfl) (.int .i64 len) ?he ?_
                          case he => (go_simp; (try with_reducible rfl))
                          (try simp only [Act.put, sA, sB, sC])
                          refine wpList_q (by rfl) (.int .i64 ((len : Int) - 1)) ?he ?_
                          case he => (go_simp; (first | done | (refine wr64 _ ?_ ?_ <;> (have q0 := HIL.out; have q1 := HLEN.out; omega)) | (have q0 := HIL.out; have q1 := HLEN.out; omega) | (have q0 := HIL.out; have q1 := HLEN.out; split <;> omega) | (have q0 := HIL.out; have q1 := HLEN.out; intro hh; omega)))
                          (try simp only [Act.put, sA, sB, sC])
                          refine wpList_q (by rfl) (.int .i64 (i : Int)) ?he ?_
                          case he => (first | rfl | (go_simp; (try with_reducible rfl)))
                          (try simp only [Act.put, sA, sB, sC])
                          refine wpList_q (by rfl) (.int .i64 ((len : Int) - 1 - (i : Int))) ?he ?_
                          case he => (go_simp; (first | done | (refine wr64 _ ?_ ?_ <;> (have q0 := HIL.out; have q1 := HLEN.out; omega)) | (have q0 := HIL.out; have q1 := HLEN.out; omega) | (have q0 := HIL.out; have q1 := HLEN.out; split <;> omega) | (have q0 := HIL.out; have q1 := HLEN.out; intro hh; omega)))
                          (try simp only [Act.put, sA, sB, sC])
                          refine wpList_q (by rfl) (.pointer (some ⟨bL, (oL + (len - 1 - i) * 1), none⟩)) ?he ?_
                          case he => exact exec_index (i := (len - 1 - i)) (s := 1) 47 4 _ _ rfl rfl rfl (by have := HIL.out; omega) (by have := HIL.out; omega) Try.underlying47 (by kernel_rfl)
                          (try simp only [Act.put, sA, sB, sC])
                          refine wpList_q (by rfl) (.bool true) ?he ?_
                          case he => exact exec_at 4 _ _ (keep_cell HS212.out HCB.out) rfl rfl Try.underlying4 rfl
                          (try simp only [Act.put, sA, sB, sC])
                          refine wpList_q (by rfl) (.bool false) ?he ?_
                          case he => (go_simp; (try with_reducible rfl))
                          (try simp only [Act.put, sA, sB, sC])
                          refine wpList_q (by rfl) (.bool false) ?he ?_
                          case he => (first | rfl | (go_simp; (try with_reducible rfl)))
                          (try simp only [Act.put, sA, sB, sC])
                          refine wpList_q (by rfl) (.bool false) ?he ?_
                          case he => (first | rfl | (go_simp; (try with_reducible rfl)))
                          (try simp only [Act.put, sA, sB, sC])
                          refine wpList_nil ?_
                          go_upto_region 8 with fail
                          refine wp_region_lit ?_
                          refine wpList_q (by rfl) (.int .i64 (i : Int)) ?he ?_
                          case he => (first | rfl | (go_simp; (try with_reducible rfl)))
                          (try simp only [Act.put, sA, sB, sC])
                          refine wpList_q (by rfl) (.int .i64 ((i : Int) + 1)) ?he ?_
                          case he => (go_simp; (first | done | (refine wr64 _ ?_ ?_ <;> (have q0 := HI5.out; omega)) | (have q0 := HI5.out; omega) | (have q0 := HI5.out; split <;> omega) | (have q0 := HI5.out; intro hh; omega)))
                          (try simp only [Act.put, sA, sB, sC])
                          refine wpList_q (by rfl) (.int .i64 ((i : Int) + 1)) ?he ?_
                          case he => (first | rfl | (go_simp; (try with_reducible rfl)))
                          (try simp only [Act.put, sA, sB, sC])
                          refine wpList_nil ?_
                          go_wp2_with fail
                          go_roundw
                          case rel => exact ⟨i + 1, base, snd k base sent, got2, ((i : Int) + pa 2 9 st), (st + 1), ha, hb2, Sa_3, Sb_4, by have := HLT0.out; omega, .inr (by have := HL2.out; omega), rfl, rfl, by go_num, Lib.hid ⟨(by rw [HG2.out]; exact lost2 HAI.out HDU.out.1 HPA.out.1 HPA.out.2 HIL.out), HDDa_b_210.out, HS212.out, HFa_212.out, HFb_212.out⟩⟩
                          case measure => have := HLT0.out; simp [intOf]; omega
        · have HL2 := Lib.hid hcs; clear hcs
          go_upto_region 9 with fail
          refine wp_region_lit ?_
          refine wpList_q (by rfl) (.slice A len cap) ?he ?_
          case he => (first | rfl | (go_simp; (try with_reducible rfl)))
          (try simp only [Act.put, sA, sB, sC])
          refine wpList_q (by rfl) (.int .i64 len) ?he ?_
          case he => (go_simp; (try with_reducible rfl))
          (try simp only [Act.put, sA, sB, sC])
          refine wpList_q (by rfl) (.bool true) ?he ?_
          case he => (have q0 := HL2.out; go_simp; (first | done | rfl | omega))
          (try simp only [Act.put, sA, sB, sC])
          refine wpList_nil ?_
          go_upto_region 10 with fail
          refine wp_region_lit ?_
          refine wpList_wp (by rfl) (fun K hK => ?_)
          (try go_simp)
          refine (ans _).mono ?_
          rintro e w107 ⟨rfl, hb⟩
          (try go_wp2_with fail)
          refine hK.out _ _ ?_
          clear hK K
          (try simp only [Act.put, sA, sB, sC])
          have HS107 := Lib.hid (Since.trans HS106.out hb)
          have HFa107 := Lib.hid (LO.keep hb HFa106.out)
          have HFb107 := Lib.hid (LO.keep hb HFb106.out)
          clear HS106 HFa106 HFb106
          clear hb
          refine wpList_q (by rfl) (.bool true) ?he ?_
          case he => (first | rfl | (go_simp; (try with_reducible rfl)))
          (try simp only [Act.put, sA, sB, sC])
          refine wpList_nil ?_
          (try go_wp2_with fail)
          go_ret
          exact ⟨rfl, HS107.out⟩
theorem allF {H : Type} {enc : TypeId × Value → H} {x0 : DataW H × List MemPlace} (a0 : Option Addr) (len0 cap0 : Nat) (n : Int) (w : World)
    (h0 : ∃ m, DataW.trod enc Try.prog w 0 (fun _ => true) true m 47 (Value.cells (.slice a0 len0 cap0)).toList = some x0) (hn : (Lit.int .u8 n).wf = true) (hl : len0 ≤ 140737488355328) :
    Calls Try.prog 4 #[.slice a0 len0 cap0, .int .u8 n] w fun e w' => e = .returned (.bool true) ∧ Since w w' := by
  obtain ⟨m0, h0⟩ := h0
  obtain ⟨bs, hX, _⟩ := BoV.open_ h0
  have hn' : 0 ≤ n ∧ n ≤ 255 := by
    simp only [Lit.wf, IntKind.has, IntKind.min, IntKind.max, IntKind.bits, IntKind.signed] at hn
    simp at hn
    omega
  exact all a0 len0 cap0 bs n (n % 12).toNat w hX hl hn' (by omega)
theorem lenB {H : Type} {enc : TypeId × Value → H} {x0 : DataW H × List MemPlace} {a0 : Option Addr} {len0 cap0 : Nat} {w : World}
    (h0 : ∃ m, DataW.trod enc Try.prog w 0 (fun _ => true) true m 47 (Value.cells (.slice a0 len0 cap0)).toList = some x0) (hs : ∀ el sp, x0.1 = .slice el sp → (el.length + sp.length) * Try.prog.bytesOf 4 ≤ 140737488351232) : len0 ≤ 140737488355328 := by
  obtain ⟨m, h⟩ := h0
  have eb : Try.prog.bytesOf 4 = 1 := by kernel_rfl
  rcases Go.Deep.open_slice Try.underlying47 h with ⟨hcs, _⟩ | ⟨a', len', cap', m, n, D, Pl, hcs, hb, hlc, hcm, hm, hx, _⟩
  · simp [Value.cells] at hcs
    omega
  · simp [Value.cells] at hcs
    obtain ⟨rfl, rfl, rfl⟩ := hcs
    have h1 := hs _ _ (congrArg Prod.fst hx)
    rw [eb] at h1
    simp at h1
    omega
end Go.Proofs.Ytlihhjcneedgnaa.La
