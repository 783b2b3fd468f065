/-
  The walk of CrcLays: whatever three texts come in, it answers true.
  Conditions: the contracts of the program's two calls.
-/
import Derived.Test.YtfggnchfkoifeaaCrcLaw
import Derived.OwnWalk
import Derived.RegionTactic
import Derived.ChangeAlike
import Derived.Deep.RegionHeld3
namespace Go.Proofs.Ytfggnchfkoifeaa.CyW
set_option linter.unusedVariables false
set_option linter.unusedSimpArgs false
open Go.RowKit
open Go.Proofs.Ytfggnchfkoifeaa.Cl Go.Proofs.Ytfggnchfkoifeaa.Cm Go.Proofs.Ytfggnchfkoifeaa.Byt Go.Proofs.Ytfggnchfkoifeaa.Mem Go.Proofs.Ytfggnchfkoifeaa.Cw

/-- The bytes laid over one another, the first k of n, zeros behind. -/
def lay (y0 y1 y2 : List Int) (n : Nat) : Nat → List Int
  | 0 => List.replicate n 0
  | k + 1 => (lay y0 y1 y2 n k).set k (xb (xb (y0.getD k 0) (y1.getD k 0)) (y2.getD k 0))
theorem lay_length (y0 y1 y2 : List Int) (n k : Nat) : (lay y0 y1 y2 n k).length = n := by
  induction k with
  | zero => simp [lay]
  | succ k ih => simp [lay, ih]
theorem lay_get (y0 y1 y2 : List Int) (n k i : Nat) (hi : i < n) (hk : i < k) : (lay y0 y1 y2 n k)[i]? = some (xb (xb (y0.getD i 0) (y1.getD i 0)) (y2.getD i 0)) := by
  induction k with
  | zero => omega
  | succ k ih =>
    rw [lay]
    by_cases h : i = k
    · subst h
      rw [List.getElem?_set_self (by rw [lay_length]; exact hi)]
    · rw [List.getElem?_set_ne (by omega)]
      exact ih (by omega)
theorem lay_done (y0 y1 y2 : List Int) (n : Nat) (h0 : n ≤ y0.length) (h1 : n ≤ y1.length) (h2 : n ≤ y2.length) :
    lay y0 y1 y2 n n = List.zipWith xb (List.zipWith xb (y0.take n) (y1.take n)) (y2.take n) := by
  apply List.ext_getElem?
  intro i
  by_cases hi : i < n
  · rw [lay_get _ _ _ _ _ _ hi hi]
    have e0 : i < y0.length := by omega
    have e1 : i < y1.length := by omega
    have e2 : i < y2.length := by omega
    simp [List.getElem?_zipWith, List.getElem?_take, hi, e0, e1, e2, List.getD]
  · rw [List.getElem?_eq_none (by rw [lay_length]; omega), List.getElem?_eq_none (by simp; omega)]
theorem take_isB {y : List Int} (h : ∀ z ∈ y, isB z) (n : Nat) : ∀ z ∈ y.take n, isB z := fun z hz => h z (List.mem_of_mem_take hz)
theorem lay_isB (y0 y1 y2 : List Int) (n : Nat) (h0 : n ≤ y0.length) (h1 : n ≤ y1.length) (h2 : n ≤ y2.length) (k0 : ∀ z ∈ y0, isB z) (k1 : ∀ z ∈ y1, isB z) (k2 : ∀ z ∈ y2, isB z) :
    ∀ z ∈ lay y0 y1 y2 n n, isB z := by
  intro z hz
  rw [List.mem_iff_getElem?] at hz
  obtain ⟨i, hi⟩ := hz
  have hin : i < n := by
    have := (List.getElem?_eq_some_iff.1 hi).1
    rwa [lay_length] at this
  rw [lay_get _ _ _ _ _ _ hin hin] at hi
  have g : ∀ y : List Int, n ≤ y.length → (∀ z ∈ y, isB z) → isB (y.getD i 0) := fun y hy hB => by
    have : y.getD i 0 = y[i]'(by omega) := by simp [List.getD, show i < y.length by omega]
    rw [this]; exact hB _ (List.getElem_mem _)
  have := xb_isB (xb_isB (g y0 h0 k0) (g y1 h1 k1)) (g y2 h2 k2)
  have e : xb (xb (y0.getD i 0) (y1.getD i 0)) (y2.getD i 0) = z := by injection hi
  rwa [← e]
theorem sum_three (y0 y1 y2 : List Int) (n : Nat) (h0 : n ≤ y0.length) (h1 : n ≤ y1.length) (h2 : n ≤ y2.length) (k0 : ∀ z ∈ y0, isB z) (k1 : ∀ z ∈ y1, isB z) (k2 : ∀ z ∈ y2, isB z) :
    crcN (lay y0 y1 y2 n n) = bits .xor .u32 (bits .xor .u32 (crcN (y0.take n)) (crcN (y1.take n))) (crcN (y2.take n)) := by
  rw [lay_done y0 y1 y2 n h0 h1 h2]
  unfold crcN
  rw [crcZ_three _ _ _ (by simp; omega) (by simp; omega) (take_isB k0 n) (take_isB k1 n) (take_isB k2 n)]
  rw [BitVec.toNat_xor, BitVec.toNat_xor]
  have e1 := u32_xor_nat (crcZ (y0.take n)).toNat (crcZ (y1.take n)).toNat (crcZ (y0.take n)).isLt (crcZ (y1.take n)).isLt
  rw [e1]
  have hlt : (crcZ (y0.take n)).toNat ^^^ (crcZ (y1.take n)).toNat < 4294967296 := by
    have := Nat.xor_lt_two_pow (n := 32) (crcZ (y0.take n)).isLt (crcZ (y1.take n)).isLt
    simpa using this
  have e2 := u32_xor_nat ((crcZ (y0.take n)).toNat ^^^ (crcZ (y1.take n)).toNat) (crcZ (y2.take n)).toNat hlt (crcZ (y2.take n)).isLt
  rw [e2]
theorem infoB : (Try.prog.info? 5).map (fun i => (i.zero, i.size, i.bytes)) = some (some (.int .u8 0), 1, 1) := by kernel_rfl
set_option maxHeartbeats 1000000 in
theorem walkH (hS : SumSaid) (hM : MoreSaid) (a0 : Option Addr) (len0 cap0 : Nat) (y0 : List Int) (a1 : Option Addr) (len1 cap1 : Nat) (y1 : List Int) (a2 : Option Addr) (len2 cap2 : Nat) (y2 : List Int) (w : World)
    (b0 : BV w a0 len0 y0) (b1 : BV w a1 len1 y1) (b2 : BV w a2 len2 y2) (m0 : len0 ≤ 140737488351232) (m1 : len1 ≤ 140737488351232) (m2 : len2 ≤ 140737488351232) (c0 : len0 ≤ cap0) (c1 : len1 ≤ cap1) (c2 : len2 ≤ cap2) :
    Calls Try.prog 5 #[.slice a0 len0 cap0, .slice a1 len1 cap1, .slice a2 len2 cap2] w fun e w' => e = .returned (.bool true) ∧ Below w.heap.size w w' := by
  obtain ⟨i0, hi0, hz0, hz1, hz2⟩ := info_parts infoB
  rcases (show (len0 ≤ len1 ∧ len0 ≤ len2) ∨ (len1 < len0 ∧ len1 ≤ len2) ∨ (len2 < len0 ∧ len2 < len1) by omega) with ⟨l1, l2⟩ | ⟨l1, l2⟩ | ⟨l1, l2⟩
  · by_cases hbig : 2000 < len0
    · go_enter Try.func5, Try.ntmps5
      go_wp2_with (go_at_call 11; refine (ans hS hM _).mono ?_; rintro e w1 ⟨rfl, hb1⟩)
      go_ret
      exact ⟨rfl, hb1⟩
    · by_cases hN : len0 = 0
      · have cc0 : (len0 : Int) ≤ cap0 := by omega
        have cc1 : (len0 : Int) ≤ cap1 := by omega
        have cc2 : (len0 : Int) ≤ cap2 := by omega
        have hle : (len0 : Int) ≤ 0 := by omega
        have hle' : len0 ≤ 0 := by omega
        have HN := Lib.hid hN
        clear hN
        go_enter Try.func5, Try.ntmps5
        go_wp2_with (at_make; refine wpList_make_full _ rfl (.tmp 20) (.tmp 20) _ rfl w.heap.size 5 i0 (.int .u8 0) 1 Try.underlying22 hi0 hz0 hz1 .i64 .i64 (len0 : Int) (len0 : Int) len0 rfl rfl rfl rfl (by rw [hz2]; omega) (by unfold maxLen; omega) (Nat.le_refl _) ?_; intro w1 hown1 hg1)
        have HB1 := Lib.hid ((Below.refl w.heap.size w).grown hg1 (Nat.le_refl _) (fun _ h => by cases h))
        have qx : BV w1 (some ⟨w.heap.size, 0, none⟩) len0 [] := ⟨HN.out.symm, by omega, by simp, .inl HN.out⟩
        have q0 : BV w1 a0 0 [] := BV.nil _ _
        have q1 : BV w1 a1 0 [] := BV.nil _ _
        have q2 : BV w1 a2 0 [] := BV.nil _ _
        have ht : (crcN [] == bits .xor .u32 (bits .xor .u32 (crcN []) (crcN [])) (crcN [])) = true := by decide +kernel
        obtain ⟨yx, hyx⟩ : ∃ yx : List Int, yx = [] := ⟨_, rfl⟩
        rw [← hyx] at qx q0 q1 q2 ht
        obtain ⟨wr, rfl⟩ : ∃ wr : World, wr = w1 := ⟨_, rfl⟩
        have QX := Lib.hid qx
        have Q0 := Lib.hid q0
        have Q1 := Lib.hid q1
        have Q2 := Lib.hid q2
        clear hg1 hown1 qx q0 q1 q2 hyx b0 b1 b2
        go_loop [9] (fun i => i = .int .i64 0) (fun _ => 0)
        case atStart => exact rfl
        case round =>
          obtain rfl := hrel
          go_wp2
          go_region_held3 (fun W => Since wr W) (first | assumption | exact Since.refl _ | exact Since.drew _ | (refine Since.trans ?_ hb3; assumption)) (first | (go_at_call 11; refine (ans hS hM _).mono ?_; rintro e w3 ⟨rfl, hb3⟩) | (go_at_call 12; have qq := QX.out.since (by assumption); (with_reducible refine (SumSaid.on hS _ _ _ _ _ qq).mono ?_); clear qq; rintro e w3 ⟨rfl, hb3⟩) | (go_at_call 12; have qq := Q0.out.since (by assumption); (with_reducible refine (SumSaid.on hS _ _ _ _ _ qq).mono ?_); clear qq; rintro e w3 ⟨rfl, hb3⟩) | (go_at_call 12; have qq := Q1.out.since (by assumption); (with_reducible refine (SumSaid.on hS _ _ _ _ _ qq).mono ?_); clear qq; rintro e w3 ⟨rfl, hb3⟩) | (go_at_call 12; have qq := Q2.out.since (by assumption); (with_reducible refine (SumSaid.on hS _ _ _ _ _ qq).mono ?_); clear qq; rintro e w3 ⟨rfl, hb3⟩))
          go_wp2
          go_ret
          have hh : Since wr w3 := by assumption
          exact ⟨rfl, HB1.out.trans (Below.mono hh HB1.out.size)⟩
      · obtain ⟨p0, o0, rfl, g0, f0⟩ := b0.addr (by omega)
        obtain ⟨p1, o1, rfl, g1, f1⟩ := b1.addr (by omega)
        obtain ⟨p2, o2, rfl, g2, f2⟩ := b2.addr (by omega)
        have cc0 : (len0 : Int) ≤ cap0 := by omega
        have cc1 : (len0 : Int) ≤ cap1 := by omega
        have cc2 : (len0 : Int) ≤ cap2 := by omega
        have F0 := Lib.hid f0
        have F1 := Lib.hid f1
        have F2 := Lib.hid f2
        clear f0 f1 f2
        go_enter Try.func5, Try.ntmps5
        go_wp2_with (at_make; refine wpList_make_full _ rfl (.tmp 20) (.tmp 20) _ rfl w.heap.size 5 i0 (.int .u8 0) 1 Try.underlying22 hi0 hz0 hz1 .i64 .i64 (len0 : Int) (len0 : Int) len0 rfl rfl rfl rfl (by rw [hz2]; omega) (by unfold maxLen; omega) (Nat.le_refl _) ?_; intro w1 hown1 hg1)
        have hst : w1.ownsRow w.heap.size 5 1 (.slice (some ⟨w.heap.size, 0, none⟩) len0 len0) len0 (cells (lay y0 y1 y2 len0 0)) := by
          have e : cells (lay y0 y1 y2 len0 0) = (madeCells (Value.int .u8 0).cells (len0 * 1)).toList := (made_zero len0).symm
          rw [e]; exact hown1
        have HB1 := Lib.hid ((Below.refl w.heap.size w).grown hg1 (Nat.le_refl _) (fun _ h => by cases h))
        clear hg1 hown1
        go_loopw [9] (fun i wr => ∃ k : Nat, k ≤ len0 ∧ i = .int .i64 k ∧ wr.ownsRow w.heap.size 5 1 (.slice (some ⟨w.heap.size, 0, none⟩) len0 len0) len0 (cells (lay y0 y1 y2 len0 k)) ∧ Below w.heap.size w wr) (fun i _ => len0 - (intOf i).toNat)
        case atStart => exact ⟨0, by omega, rfl, hst, HB1.out⟩
        case round =>
          obtain ⟨k, hk, rfl, hown, hbel⟩ := hrel
          by_cases hlt : k < len0
          · have hfr := hown.frozenAt k
            have hcx := hown.cellAt k (by omega)
            obtain ⟨old, hold⟩ : ∃ old, (lay y0 y1 y2 len0 k)[k]? = some old := ⟨_, List.getElem?_eq_getElem (by rw [lay_length]; omega)⟩
            rw [show (cells (lay y0 y1 y2 len0 k))[k]? = some (.int .u8 old) by simp [cells, hold]] at hcx
            have c0' := (hbel.cell (p := ⟨p0, o0 + k, none⟩) g0).trans (F0.out k (by omega))
            have c1' := (hbel.cell (p := ⟨p1, o1 + k, none⟩) g1).trans (F1.out k (by omega))
            have c2' := (hbel.cell (p := ⟨p2, o2 + k, none⟩) g2).trans (F2.out k (by omega))
            have HO := Lib.hid hown
            have HB := Lib.hid hbel
            clear hown hbel hold
            generalize hd0 : y0.getD k 0 = d0 at c0'
            generalize hd1 : y1.getD k 0 = d1 at c1'
            generalize hd2 : y2.getD k 0 = d2 at c2'
            have H0 := Lib.hid hd0
            have H1 := Lib.hid hd1
            have H2 := Lib.hid hd2
            clear hd0 hd1 hd2
            go_wp2
            go_region
            all_goals go_wp2
            all_goals go_roundw
            case rel =>
              refine ⟨k + 1, by omega, by go_num, ?_, (HB.out.drew).setCell (Nat.le_refl _) _⟩
              have h1 := (HO.out.drew.stored k (.int .u8 (xb (xb d0 d1) d2))).1
              have h2 : cells (lay y0 y1 y2 len0 (k + 1)) = (cells (lay y0 y1 y2 len0 k)).set k (.int .u8 (xb (xb d0 d1) d2)) := by
                rw [lay, H0.out, H1.out, H2.out]
                unfold cells
                rw [List.map_set]
              rw [h2]
              exact h1
            case measure => simp [intOf]; omega
          · obtain rfl : len0 = k := by omega
            have hB' : ∀ z ∈ lay y0 y1 y2 len0 len0, isB z := lay_isB y0 y1 y2 len0 (by rw [b0.1]; omega) (by rw [b1.1]; omega) (by rw [b2.1]; omega) b0.2.2.1 b1.2.2.1 b2.2.2.1
            have qx : BV wr (some ⟨w.heap.size, 0, none⟩) len0 (lay y0 y1 y2 len0 len0) := BV.of_own hown hB'
            have q0 := (b0.below hbel).cut (k := len0) (by omega)
            have q1 := (b1.below hbel).cut (k := len0) (by omega)
            have q2 := (b2.below hbel).cut (k := len0) (by omega)
            have ht : (crcN (lay y0 y1 y2 len0 len0) == bits .xor .u32 (bits .xor .u32 (crcN (y0.take len0)) (crcN (y1.take len0))) (crcN (y2.take len0))) = true :=
              beq_iff_eq.2 (sum_three y0 y1 y2 len0 (by rw [b0.1]; omega) (by rw [b1.1]; omega) (by rw [b2.1]; omega) b0.2.2.1 b1.2.2.1 b2.2.2.1)
            generalize lay y0 y1 y2 len0 len0 = yx at qx ht
            generalize y0.take len0 = z0 at q0 ht
            generalize y1.take len0 = z1 at q1 ht
            generalize y2.take len0 = z2 at q2 ht
            have HB := Lib.hid hbel
            have QX := Lib.hid qx
            have Q0 := Lib.hid q0
            have Q1 := Lib.hid q1
            have Q2 := Lib.hid q2
            clear hown hbel hB' HB1 F0 F1 F2 b0 b1 b2 qx q0 q1 q2
            go_wp2
            go_region_held3 (fun W => Since wr W) (first | assumption | exact Since.refl _ | exact Since.drew _ | (refine Since.trans ?_ hb3; assumption)) (first | (go_at_call 11; refine (ans hS hM _).mono ?_; rintro e w3 ⟨rfl, hb3⟩) | (go_at_call 12; have qq := QX.out.since (by assumption); (with_reducible refine (SumSaid.on hS _ _ _ _ _ qq).mono ?_); clear qq; rintro e w3 ⟨rfl, hb3⟩) | (go_at_call 12; have qq := Q0.out.since (by assumption); (with_reducible refine (SumSaid.on hS _ _ _ _ _ qq).mono ?_); clear qq; rintro e w3 ⟨rfl, hb3⟩) | (go_at_call 12; have qq := Q1.out.since (by assumption); (with_reducible refine (SumSaid.on hS _ _ _ _ _ qq).mono ?_); clear qq; rintro e w3 ⟨rfl, hb3⟩) | (go_at_call 12; have qq := Q2.out.since (by assumption); (with_reducible refine (SumSaid.on hS _ _ _ _ _ qq).mono ?_); clear qq; rintro e w3 ⟨rfl, hb3⟩))
            go_wp2
            go_ret
            have hh : Since wr w3 := by assumption
            exact ⟨rfl, HB.out.trans (Below.mono hh HB.out.size)⟩
  · by_cases hbig : 2000 < len1
    · go_enter Try.func5, Try.ntmps5
      go_wp2_with (go_at_call 11; refine (ans hS hM _).mono ?_; rintro e w1 ⟨rfl, hb1⟩)
      go_ret
      exact ⟨rfl, hb1⟩
    · by_cases hN : len1 = 0
      · have cc0 : (len1 : Int) ≤ cap0 := by omega
        have cc1 : (len1 : Int) ≤ cap1 := by omega
        have cc2 : (len1 : Int) ≤ cap2 := by omega
        have hle : (len1 : Int) ≤ 0 := by omega
        have hle' : len1 ≤ 0 := by omega
        have HN := Lib.hid hN
        clear hN
        go_enter Try.func5, Try.ntmps5
        go_wp2_with (at_make; refine wpList_make_full _ rfl (.tmp 20) (.tmp 20) _ rfl w.heap.size 5 i0 (.int .u8 0) 1 Try.underlying22 hi0 hz0 hz1 .i64 .i64 (len1 : Int) (len1 : Int) len1 rfl rfl rfl rfl (by rw [hz2]; omega) (by unfold maxLen; omega) (Nat.le_refl _) ?_; intro w1 hown1 hg1)
        have HB1 := Lib.hid ((Below.refl w.heap.size w).grown hg1 (Nat.le_refl _) (fun _ h => by cases h))
        have qx : BV w1 (some ⟨w.heap.size, 0, none⟩) len1 [] := ⟨HN.out.symm, by omega, by simp, .inl HN.out⟩
        have q0 : BV w1 a0 0 [] := BV.nil _ _
        have q1 : BV w1 a1 0 [] := BV.nil _ _
        have q2 : BV w1 a2 0 [] := BV.nil _ _
        have ht : (crcN [] == bits .xor .u32 (bits .xor .u32 (crcN []) (crcN [])) (crcN [])) = true := by decide +kernel
        obtain ⟨yx, hyx⟩ : ∃ yx : List Int, yx = [] := ⟨_, rfl⟩
        rw [← hyx] at qx q0 q1 q2 ht
        obtain ⟨wr, rfl⟩ : ∃ wr : World, wr = w1 := ⟨_, rfl⟩
        have QX := Lib.hid qx
        have Q0 := Lib.hid q0
        have Q1 := Lib.hid q1
        have Q2 := Lib.hid q2
        clear hg1 hown1 qx q0 q1 q2 hyx b0 b1 b2
        go_loop [9] (fun i => i = .int .i64 0) (fun _ => 0)
        case atStart => exact rfl
        case round =>
          obtain rfl := hrel
          go_wp2
          go_region_held3 (fun W => Since wr W) (first | assumption | exact Since.refl _ | exact Since.drew _ | (refine Since.trans ?_ hb3; assumption)) (first | (go_at_call 11; refine (ans hS hM _).mono ?_; rintro e w3 ⟨rfl, hb3⟩) | (go_at_call 12; have qq := QX.out.since (by assumption); (with_reducible refine (SumSaid.on hS _ _ _ _ _ qq).mono ?_); clear qq; rintro e w3 ⟨rfl, hb3⟩) | (go_at_call 12; have qq := Q0.out.since (by assumption); (with_reducible refine (SumSaid.on hS _ _ _ _ _ qq).mono ?_); clear qq; rintro e w3 ⟨rfl, hb3⟩) | (go_at_call 12; have qq := Q1.out.since (by assumption); (with_reducible refine (SumSaid.on hS _ _ _ _ _ qq).mono ?_); clear qq; rintro e w3 ⟨rfl, hb3⟩) | (go_at_call 12; have qq := Q2.out.since (by assumption); (with_reducible refine (SumSaid.on hS _ _ _ _ _ qq).mono ?_); clear qq; rintro e w3 ⟨rfl, hb3⟩))
          go_wp2
          go_ret
          have hh : Since wr w3 := by assumption
          exact ⟨rfl, HB1.out.trans (Below.mono hh HB1.out.size)⟩
      · obtain ⟨p0, o0, rfl, g0, f0⟩ := b0.addr (by omega)
        obtain ⟨p1, o1, rfl, g1, f1⟩ := b1.addr (by omega)
        obtain ⟨p2, o2, rfl, g2, f2⟩ := b2.addr (by omega)
        have cc0 : (len1 : Int) ≤ cap0 := by omega
        have cc1 : (len1 : Int) ≤ cap1 := by omega
        have cc2 : (len1 : Int) ≤ cap2 := by omega
        have F0 := Lib.hid f0
        have F1 := Lib.hid f1
        have F2 := Lib.hid f2
        clear f0 f1 f2
        go_enter Try.func5, Try.ntmps5
        go_wp2_with (at_make; refine wpList_make_full _ rfl (.tmp 20) (.tmp 20) _ rfl w.heap.size 5 i0 (.int .u8 0) 1 Try.underlying22 hi0 hz0 hz1 .i64 .i64 (len1 : Int) (len1 : Int) len1 rfl rfl rfl rfl (by rw [hz2]; omega) (by unfold maxLen; omega) (Nat.le_refl _) ?_; intro w1 hown1 hg1)
        have hst : w1.ownsRow w.heap.size 5 1 (.slice (some ⟨w.heap.size, 0, none⟩) len1 len1) len1 (cells (lay y0 y1 y2 len1 0)) := by
          have e : cells (lay y0 y1 y2 len1 0) = (madeCells (Value.int .u8 0).cells (len1 * 1)).toList := (made_zero len1).symm
          rw [e]; exact hown1
        have HB1 := Lib.hid ((Below.refl w.heap.size w).grown hg1 (Nat.le_refl _) (fun _ h => by cases h))
        clear hg1 hown1
        go_loopw [9] (fun i wr => ∃ k : Nat, k ≤ len1 ∧ i = .int .i64 k ∧ wr.ownsRow w.heap.size 5 1 (.slice (some ⟨w.heap.size, 0, none⟩) len1 len1) len1 (cells (lay y0 y1 y2 len1 k)) ∧ Below w.heap.size w wr) (fun i _ => len1 - (intOf i).toNat)
        case atStart => exact ⟨0, by omega, rfl, hst, HB1.out⟩
        case round =>
          obtain ⟨k, hk, rfl, hown, hbel⟩ := hrel
          by_cases hlt : k < len1
          · have hfr := hown.frozenAt k
            have hcx := hown.cellAt k (by omega)
            obtain ⟨old, hold⟩ : ∃ old, (lay y0 y1 y2 len1 k)[k]? = some old := ⟨_, List.getElem?_eq_getElem (by rw [lay_length]; omega)⟩
            rw [show (cells (lay y0 y1 y2 len1 k))[k]? = some (.int .u8 old) by simp [cells, hold]] at hcx
            have c0' := (hbel.cell (p := ⟨p0, o0 + k, none⟩) g0).trans (F0.out k (by omega))
            have c1' := (hbel.cell (p := ⟨p1, o1 + k, none⟩) g1).trans (F1.out k (by omega))
            have c2' := (hbel.cell (p := ⟨p2, o2 + k, none⟩) g2).trans (F2.out k (by omega))
            have HO := Lib.hid hown
            have HB := Lib.hid hbel
            clear hown hbel hold
            generalize hd0 : y0.getD k 0 = d0 at c0'
            generalize hd1 : y1.getD k 0 = d1 at c1'
            generalize hd2 : y2.getD k 0 = d2 at c2'
            have H0 := Lib.hid hd0
            have H1 := Lib.hid hd1
            have H2 := Lib.hid hd2
            clear hd0 hd1 hd2
            go_wp2
            go_region
            all_goals go_wp2
            all_goals go_roundw
            case rel =>
              refine ⟨k + 1, by omega, by go_num, ?_, (HB.out.drew).setCell (Nat.le_refl _) _⟩
              have h1 := (HO.out.drew.stored k (.int .u8 (xb (xb d0 d1) d2))).1
              have h2 : cells (lay y0 y1 y2 len1 (k + 1)) = (cells (lay y0 y1 y2 len1 k)).set k (.int .u8 (xb (xb d0 d1) d2)) := by
                rw [lay, H0.out, H1.out, H2.out]
                unfold cells
                rw [List.map_set]
              rw [h2]
              exact h1
            case measure => simp [intOf]; omega
          · obtain rfl : len1 = k := by omega
            have hB' : ∀ z ∈ lay y0 y1 y2 len1 len1, isB z := lay_isB y0 y1 y2 len1 (by rw [b0.1]; omega) (by rw [b1.1]; omega) (by rw [b2.1]; omega) b0.2.2.1 b1.2.2.1 b2.2.2.1
            have qx : BV wr (some ⟨w.heap.size, 0, none⟩) len1 (lay y0 y1 y2 len1 len1) := BV.of_own hown hB'
            have q0 := (b0.below hbel).cut (k := len1) (by omega)
            have q1 := (b1.below hbel).cut (k := len1) (by omega)
            have q2 := (b2.below hbel).cut (k := len1) (by omega)
            have ht : (crcN (lay y0 y1 y2 len1 len1) == bits .xor .u32 (bits .xor .u32 (crcN (y0.take len1)) (crcN (y1.take len1))) (crcN (y2.take len1))) = true :=
              beq_iff_eq.2 (sum_three y0 y1 y2 len1 (by rw [b0.1]; omega) (by rw [b1.1]; omega) (by rw [b2.1]; omega) b0.2.2.1 b1.2.2.1 b2.2.2.1)
            generalize lay y0 y1 y2 len1 len1 = yx at qx ht
            generalize y0.take len1 = z0 at q0 ht
            generalize y1.take len1 = z1 at q1 ht
            generalize y2.take len1 = z2 at q2 ht
            have HB := Lib.hid hbel
            have QX := Lib.hid qx
            have Q0 := Lib.hid q0
            have Q1 := Lib.hid q1
            have Q2 := Lib.hid q2
            clear hown hbel hB' HB1 F0 F1 F2 b0 b1 b2 qx q0 q1 q2
            go_wp2
            go_region_held3 (fun W => Since wr W) (first | assumption | exact Since.refl _ | exact Since.drew _ | (refine Since.trans ?_ hb3; assumption)) (first | (go_at_call 11; refine (ans hS hM _).mono ?_; rintro e w3 ⟨rfl, hb3⟩) | (go_at_call 12; have qq := QX.out.since (by assumption); (with_reducible refine (SumSaid.on hS _ _ _ _ _ qq).mono ?_); clear qq; rintro e w3 ⟨rfl, hb3⟩) | (go_at_call 12; have qq := Q0.out.since (by assumption); (with_reducible refine (SumSaid.on hS _ _ _ _ _ qq).mono ?_); clear qq; rintro e w3 ⟨rfl, hb3⟩) | (go_at_call 12; have qq := Q1.out.since (by assumption); (with_reducible refine (SumSaid.on hS _ _ _ _ _ qq).mono ?_); clear qq; rintro e w3 ⟨rfl, hb3⟩) | (go_at_call 12; have qq := Q2.out.since (by assumption); (with_reducible refine (SumSaid.on hS _ _ _ _ _ qq).mono ?_); clear qq; rintro e w3 ⟨rfl, hb3⟩))
            go_wp2
            go_ret
            have hh : Since wr w3 := by assumption
            exact ⟨rfl, HB.out.trans (Below.mono hh HB.out.size)⟩
  · by_cases hbig : 2000 < len2
    · go_enter Try.func5, Try.ntmps5
      go_wp2_with (go_at_call 11; refine (ans hS hM _).mono ?_; rintro e w1 ⟨rfl, hb1⟩)
      go_ret
      exact ⟨rfl, hb1⟩
    · by_cases hN : len2 = 0
      · have cc0 : (len2 : Int) ≤ cap0 := by omega
        have cc1 : (len2 : Int) ≤ cap1 := by omega
        have cc2 : (len2 : Int) ≤ cap2 := by omega
        have hle : (len2 : Int) ≤ 0 := by omega
        have hle' : len2 ≤ 0 := by omega
        have HN := Lib.hid hN
        clear hN
        go_enter Try.func5, Try.ntmps5
        go_wp2_with (at_make; refine wpList_make_full _ rfl (.tmp 20) (.tmp 20) _ rfl w.heap.size 5 i0 (.int .u8 0) 1 Try.underlying22 hi0 hz0 hz1 .i64 .i64 (len2 : Int) (len2 : Int) len2 rfl rfl rfl rfl (by rw [hz2]; omega) (by unfold maxLen; omega) (Nat.le_refl _) ?_; intro w1 hown1 hg1)
        have HB1 := Lib.hid ((Below.refl w.heap.size w).grown hg1 (Nat.le_refl _) (fun _ h => by cases h))
        have qx : BV w1 (some ⟨w.heap.size, 0, none⟩) len2 [] := ⟨HN.out.symm, by omega, by simp, .inl HN.out⟩
        have q0 : BV w1 a0 0 [] := BV.nil _ _
        have q1 : BV w1 a1 0 [] := BV.nil _ _
        have q2 : BV w1 a2 0 [] := BV.nil _ _
        have ht : (crcN [] == bits .xor .u32 (bits .xor .u32 (crcN []) (crcN [])) (crcN [])) = true := by decide +kernel
        obtain ⟨yx, hyx⟩ : ∃ yx : List Int, yx = [] := ⟨_, rfl⟩
        rw [← hyx] at qx q0 q1 q2 ht
        obtain ⟨wr, rfl⟩ : ∃ wr : World, wr = w1 := ⟨_, rfl⟩
        have QX := Lib.hid qx
        have Q0 := Lib.hid q0
        have Q1 := Lib.hid q1
        have Q2 := Lib.hid q2
        clear hg1 hown1 qx q0 q1 q2 hyx b0 b1 b2
        go_loop [9] (fun i => i = .int .i64 0) (fun _ => 0)
        case atStart => exact rfl
        case round =>
          obtain rfl := hrel
          go_wp2
          go_region_held3 (fun W => Since wr W) (first | assumption | exact Since.refl _ | exact Since.drew _ | (refine Since.trans ?_ hb3; assumption)) (first | (go_at_call 11; refine (ans hS hM _).mono ?_; rintro e w3 ⟨rfl, hb3⟩) | (go_at_call 12; have qq := QX.out.since (by assumption); (with_reducible refine (SumSaid.on hS _ _ _ _ _ qq).mono ?_); clear qq; rintro e w3 ⟨rfl, hb3⟩) | (go_at_call 12; have qq := Q0.out.since (by assumption); (with_reducible refine (SumSaid.on hS _ _ _ _ _ qq).mono ?_); clear qq; rintro e w3 ⟨rfl, hb3⟩) | (go_at_call 12; have qq := Q1.out.since (by assumption); (with_reducible refine (SumSaid.on hS _ _ _ _ _ qq).mono ?_); clear qq; rintro e w3 ⟨rfl, hb3⟩) | (go_at_call 12; have qq := Q2.out.since (by assumption); (with_reducible refine (SumSaid.on hS _ _ _ _ _ qq).mono ?_); clear qq; rintro e w3 ⟨rfl, hb3⟩))
          go_wp2
          go_ret
          have hh : Since wr w3 := by assumption
          exact ⟨rfl, HB1.out.trans (Below.mono hh HB1.out.size)⟩
      · obtain ⟨p0, o0, rfl, g0, f0⟩ := b0.addr (by omega)
        obtain ⟨p1, o1, rfl, g1, f1⟩ := b1.addr (by omega)
        obtain ⟨p2, o2, rfl, g2, f2⟩ := b2.addr (by omega)
        have cc0 : (len2 : Int) ≤ cap0 := by omega
        have cc1 : (len2 : Int) ≤ cap1 := by omega
        have cc2 : (len2 : Int) ≤ cap2 := by omega
        have F0 := Lib.hid f0
        have F1 := Lib.hid f1
        have F2 := Lib.hid f2
        clear f0 f1 f2
        go_enter Try.func5, Try.ntmps5
        go_wp2_with (at_make; refine wpList_make_full _ rfl (.tmp 20) (.tmp 20) _ rfl w.heap.size 5 i0 (.int .u8 0) 1 Try.underlying22 hi0 hz0 hz1 .i64 .i64 (len2 : Int) (len2 : Int) len2 rfl rfl rfl rfl (by rw [hz2]; omega) (by unfold maxLen; omega) (Nat.le_refl _) ?_; intro w1 hown1 hg1)
        have hst : w1.ownsRow w.heap.size 5 1 (.slice (some ⟨w.heap.size, 0, none⟩) len2 len2) len2 (cells (lay y0 y1 y2 len2 0)) := by
          have e : cells (lay y0 y1 y2 len2 0) = (madeCells (Value.int .u8 0).cells (len2 * 1)).toList := (made_zero len2).symm
          rw [e]; exact hown1
        have HB1 := Lib.hid ((Below.refl w.heap.size w).grown hg1 (Nat.le_refl _) (fun _ h => by cases h))
        clear hg1 hown1
        go_loopw [9] (fun i wr => ∃ k : Nat, k ≤ len2 ∧ i = .int .i64 k ∧ wr.ownsRow w.heap.size 5 1 (.slice (some ⟨w.heap.size, 0, none⟩) len2 len2) len2 (cells (lay y0 y1 y2 len2 k)) ∧ Below w.heap.size w wr) (fun i _ => len2 - (intOf i).toNat)
        case atStart => exact ⟨0, by omega, rfl, hst, HB1.out⟩
        case round =>
          obtain ⟨k, hk, rfl, hown, hbel⟩ := hrel
          by_cases hlt : k < len2
          · have hfr := hown.frozenAt k
            have hcx := hown.cellAt k (by omega)
            obtain ⟨old, hold⟩ : ∃ old, (lay y0 y1 y2 len2 k)[k]? = some old := ⟨_, List.getElem?_eq_getElem (by rw [lay_length]; omega)⟩
            rw [show (cells (lay y0 y1 y2 len2 k))[k]? = some (.int .u8 old) by simp [cells, hold]] at hcx
            have c0' := (hbel.cell (p := ⟨p0, o0 + k, none⟩) g0).trans (F0.out k (by omega))
            have c1' := (hbel.cell (p := ⟨p1, o1 + k, none⟩) g1).trans (F1.out k (by omega))
            have c2' := (hbel.cell (p := ⟨p2, o2 + k, none⟩) g2).trans (F2.out k (by omega))
            have HO := Lib.hid hown
            have HB := Lib.hid hbel
            clear hown hbel hold
            generalize hd0 : y0.getD k 0 = d0 at c0'
            generalize hd1 : y1.getD k 0 = d1 at c1'
            generalize hd2 : y2.getD k 0 = d2 at c2'
            have H0 := Lib.hid hd0
            have H1 := Lib.hid hd1
            have H2 := Lib.hid hd2
            clear hd0 hd1 hd2
            go_wp2
            go_region
            all_goals go_wp2
            all_goals go_roundw
            case rel =>
              refine ⟨k + 1, by omega, by go_num, ?_, (HB.out.drew).setCell (Nat.le_refl _) _⟩
              have h1 := (HO.out.drew.stored k (.int .u8 (xb (xb d0 d1) d2))).1
              have h2 : cells (lay y0 y1 y2 len2 (k + 1)) = (cells (lay y0 y1 y2 len2 k)).set k (.int .u8 (xb (xb d0 d1) d2)) := by
                rw [lay, H0.out, H1.out, H2.out]
                unfold cells
                rw [List.map_set]
              rw [h2]
              exact h1
            case measure => simp [intOf]; omega
          · obtain rfl : len2 = k := by omega
            have hB' : ∀ z ∈ lay y0 y1 y2 len2 len2, isB z := lay_isB y0 y1 y2 len2 (by rw [b0.1]; omega) (by rw [b1.1]; omega) (by rw [b2.1]; omega) b0.2.2.1 b1.2.2.1 b2.2.2.1
            have qx : BV wr (some ⟨w.heap.size, 0, none⟩) len2 (lay y0 y1 y2 len2 len2) := BV.of_own hown hB'
            have q0 := (b0.below hbel).cut (k := len2) (by omega)
            have q1 := (b1.below hbel).cut (k := len2) (by omega)
            have q2 := (b2.below hbel).cut (k := len2) (by omega)
            have ht : (crcN (lay y0 y1 y2 len2 len2) == bits .xor .u32 (bits .xor .u32 (crcN (y0.take len2)) (crcN (y1.take len2))) (crcN (y2.take len2))) = true :=
              beq_iff_eq.2 (sum_three y0 y1 y2 len2 (by rw [b0.1]; omega) (by rw [b1.1]; omega) (by rw [b2.1]; omega) b0.2.2.1 b1.2.2.1 b2.2.2.1)
            generalize lay y0 y1 y2 len2 len2 = yx at qx ht
            generalize y0.take len2 = z0 at q0 ht
            generalize y1.take len2 = z1 at q1 ht
            generalize y2.take len2 = z2 at q2 ht
            have HB := Lib.hid hbel
            have QX := Lib.hid qx
            have Q0 := Lib.hid q0
            have Q1 := Lib.hid q1
            have Q2 := Lib.hid q2
            clear hown hbel hB' HB1 F0 F1 F2 b0 b1 b2 qx q0 q1 q2
            go_wp2
            go_region_held3 (fun W => Since wr W) (first | assumption | exact Since.refl _ | exact Since.drew _ | (refine Since.trans ?_ hb3; assumption)) (first | (go_at_call 11; refine (ans hS hM _).mono ?_; rintro e w3 ⟨rfl, hb3⟩) | (go_at_call 12; have qq := QX.out.since (by assumption); (with_reducible refine (SumSaid.on hS _ _ _ _ _ qq).mono ?_); clear qq; rintro e w3 ⟨rfl, hb3⟩) | (go_at_call 12; have qq := Q0.out.since (by assumption); (with_reducible refine (SumSaid.on hS _ _ _ _ _ qq).mono ?_); clear qq; rintro e w3 ⟨rfl, hb3⟩) | (go_at_call 12; have qq := Q1.out.since (by assumption); (with_reducible refine (SumSaid.on hS _ _ _ _ _ qq).mono ?_); clear qq; rintro e w3 ⟨rfl, hb3⟩) | (go_at_call 12; have qq := Q2.out.since (by assumption); (with_reducible refine (SumSaid.on hS _ _ _ _ _ qq).mono ?_); clear qq; rintro e w3 ⟨rfl, hb3⟩))
            go_wp2
            go_ret
            have hh : Since wr w3 := by assumption
            exact ⟨rfl, HB.out.trans (Below.mono hh HB.out.size)⟩
end Go.Proofs.Ytfggnchfkoifeaa.CyW
