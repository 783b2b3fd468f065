/-
  The walk of CrcSums: whatever bytes come in, in two parts, it answers true.
  Conditions: the contracts of the program's two calls.
-/
import Derived.Test.YtfggnchfkoifeaaCrcLaw
import Derived.OwnWalk
namespace Go.Proofs.Ytfggnchfkoifeaa.CsW
set_option linter.unusedVariables false
set_option linter.unusedSimpArgs false
open Go.RowKit
open Go.Proofs.Ytfggnchfkoifeaa.Cl Go.Proofs.Ytfggnchfkoifeaa.Cm Go.Proofs.Ytfggnchfkoifeaa.Byt Go.Proofs.Ytfggnchfkoifeaa.Mem Go.Proofs.Ytfggnchfkoifeaa.Cw

theorem infoB : (Try.prog.info? 5).map (fun i => (i.zero, i.size, i.bytes)) = some (some (.int .u8 0), 1, 1) := by kernel_rfl
set_option maxHeartbeats 1000000 in
theorem walkH (hS : SumSaid) (hM : MoreSaid) (a0 : Option Addr) (len0 cap0 : Nat) (y0 : List Int) (a1 : Option Addr) (len1 cap1 : Nat) (y1 : List Int) (w : World) (b0 : BV w a0 len0 y0) (b1 : BV w a1 len1 y1) (m0 : len0 ≤ 140737488351232) (m1 : len1 ≤ 140737488351232) :
    Calls Try.prog 3 #[.slice a0 len0 cap0, .slice a1 len1 cap1] w fun e w' => e = .returned (.bool true) ∧ Below w.heap.size w w' := by
  by_cases hbig : 20000 < len0 + len1
  · go_enter Try.func3, Try.ntmps3
    go_wp2_with (go_at_call 11; refine (ans hS hM _).mono ?_; rintro e w1 ⟨rfl, hb1⟩)
    go_ret
    exact ⟨rfl, hb1⟩
  · go_enter Try.func3, Try.ntmps3
    go_wp2_with (first | (at_builtin; refine wpList_append_b _ rfl (.tmp 13) (.tmp 14) _ rfl w.heap.size 5 Try.underlying22 infoB (.slice (some ⟨w.heap.size, 0, none⟩) 0 0) 0 [] rfl (own_empty w _ 1) a0 len0 cap0 y0 rfl (b0.alloc _) (by omega) (by simp) ?_; intro A1 c1 w1 hown1 hg1 hb1; simp only [Nat.zero_add, List.nil_append] at hown1) | (at_builtin; refine wpList_append_b _ rfl (.tmp 15) (.tmp 16) _ rfl w.heap.size 5 Try.underlying22 infoB (.slice A1 len0 c1) len0 y0 rfl hown1 a1 len1 cap1 y1 rfl (b1.below (((Below.refl _ _).alloc (Nat.le_refl _) _).trans hb1)) (by omega) (((Below.refl _ _).alloc (Nat.le_refl _) _).trans hb1).size ?_; intro A2 c2 w2 hown2 hg2 hb2) | fail)
    have HB2 : Below w.heap.size w w2 := (((Below.refl _ _).alloc (Nat.le_refl _) _).trans hb1).trans hb2
    have b0' := b0.below HB2
    have b1' := b1.below HB2
    have ball : BV w2 A2 (len0 + len1) (y0 ++ y1) := BV.of_own hown2 (fun z hz => by
      rcases List.mem_append.1 hz with h | h
      · exact b0.2.2.1 z h
      · exact b1.2.2.1 z h)
    have HB2' := Lib.hid HB2
    clear HB2 hown1 hg1 hb1 hown2 hg2 hb2 b0 b1
    have q0 := b0'
    have q1 := b1'
    have qa := ball
    clear b0' b1' ball
    have HB2 := HB2'
    clear HB2'
    go_wp2_with fail
    refine (ans hS hM _).mono ?_
    rintro e w3 ⟨rfl, hb3⟩
    replace q0 := q0.below hb3
    replace q1 := q1.below hb3
    replace qa := qa.below hb3
    have HB3 := Lib.hid (HB2.out.trans (hb3.mono HB2.out.size))
    clear hb3
    go_wp2_with fail
    refine (hS _ _ _ _ _ q0).mono ?_
    rintro e w4 ⟨rfl, hb4⟩
    replace q0 := q0.below hb4
    replace q1 := q1.below hb4
    replace qa := qa.below hb4
    have HB4 := Lib.hid (HB3.out.trans (hb4.mono HB3.out.size))
    clear hb4
    go_wp2_with fail
    refine (crcR _ _ _ _ _ q0).mono ?_
    rintro e _ ⟨rfl, rfl⟩
    go_wp2_with fail
    refine (hS _ _ _ _ _ qa).mono ?_
    rintro e w5 ⟨rfl, hb5⟩
    replace q0 := q0.below hb5
    replace q1 := q1.below hb5
    replace qa := qa.below hb5
    have HB5 := Lib.hid (HB4.out.trans (hb5.mono HB4.out.size))
    clear hb5
    go_wp2_with fail
    refine (crcR _ _ _ _ _ qa).mono ?_
    rintro e _ ⟨rfl, rfl⟩
    go_wp2_with fail
    refine (hS _ _ _ _ _ q0).mono ?_
    rintro e w6 ⟨rfl, hb6⟩
    replace q0 := q0.below hb6
    replace q1 := q1.below hb6
    replace qa := qa.below hb6
    have HB6 := Lib.hid (HB5.out.trans (hb6.mono HB5.out.size))
    clear hb6
    go_wp2_with fail
    refine (hM _ _ _ _ _ _ _ rfl q1).mono ?_
    rintro e w7 ⟨rfl, hb7⟩
    replace q0 := q0.below hb7
    replace q1 := q1.below hb7
    replace qa := qa.below hb7
    have HB7 := Lib.hid (HB6.out.trans (hb7.mono HB6.out.size))
    clear hb7
    go_wp2_with fail
    refine (hS _ _ _ _ _ qa).mono ?_
    rintro e w8 ⟨rfl, hb8⟩
    replace q0 := q0.below hb8
    replace q1 := q1.below hb8
    replace qa := qa.below hb8
    have HB8 := Lib.hid (HB7.out.trans (hb8.mono HB7.out.size))
    clear hb8
    go_wp2_with fail
    go_ret
    exact ⟨rfl, HB8.out⟩
end Go.Proofs.Ytfggnchfkoifeaa.CsW
