/-
  What is wanted by the last of these texts, part 12.
  No condition.
-/
import Derived.Test.YtpacieocmogjeaaKGv11
import Derived.Test.YtpacieocmogjeaaKGv1
import Derived.Test.YtpacieocmogjeaaKGv10
namespace Go.Proofs.Ytpacieocmogjeaa.Et
set_option linter.unusedVariables false
set_option linter.unusedSimpArgs false
open Go.RowKit Go.Proofs.Ytpacieocmogjeaa.Ba Go.Proofs.Ytpacieocmogjeaa.Mo Go.Proofs.Ytpacieocmogjeaa.Ty Go.Proofs.Ytpacieocmogjeaa.Mem Go.Proofs.Ytpacieocmogjeaa.St
open Go.Proofs.Ytpacieocmogjeaa.Do (hd hd_lo hd_hi spanR)
open Go.Proofs.Ytpacieocmogjeaa.Cs (CV carC fitC)
set_option maxRecDepth 100000
/-- The best of the first k, and its cost. -/
def bl (c : CfgV) (f cw : Int) (cs : Nat → CarV) : Nat → Int × Int
  | 0 => (-1, 0)
  | k + 1 => if ((cs k).mo = 0 ∧ (cs k).br = false) ∧ ((bl c f cw cs k).1 < 0 ∨ coV c (cs k) f cw < (bl c f cw cs k).2) then ((k : Int), coV c (cs k) f cw) else bl c f cw cs k
theorem bl_inv (c : CfgV) (f cw : Int) (cs : Nat → CarV) : ∀ k : Nat, ((bl c f cw cs k).1 = -1) ∨ ∃ q : Nat, q < k ∧ (bl c f cw cs k).1 = (q : Int) ∧ (bl c f cw cs k).2 = coV c (cs q) f cw
  | 0 => .inl rfl
  | k + 1 => by
    have ih := bl_inv c f cw cs k
    unfold bl
    split
    · exact .inr ⟨k, by omega, rfl, rfl⟩
    · rcases ih with h | ⟨q, h1, h2⟩
      · exact .inl h
      · exact .inr ⟨q, by omega, h2⟩
def inH (x : CarV) (f cw : Int) : Prop := wiB x.un x.wy f cw = true
theorem fit_R {x : CarV} (h : fitC x) : R x.sp ∧ R x.su ∧ R x.sd := by
  obtain ⟨h1, h2, h3⟩ := h
  have a := bounds_u64 h1
  have b := bounds_u64 h2
  have d := bounds_u64 h3
  exact ⟨by unfold R; omega, by unfold R; omega, by unfold R; omega⟩
def Own6 (c : CfgV) (f cw : Int) (cs : Nat → CarV) (w wr : World) (k : Nat) (B L : Int) : Prop := bl c f cw cs k = (B, L) ∧ Since w wr ∧ Blk wr w.heap.size 23 #[.int .i64 c.ca, .int .i64 c.fl, .int .i64 c.ft, .int .i64 c.se, .int .i64 c.dr, .int .i64 c.dw, .int .i64 c.ho, .int .i64 c.re, .int .i64 c.yi, .int .i64 c.qu, .int .i64 c.qo, .int .i64 c.lo, .int .i64 c.sl, .int .i64 c.rt, .int .i64 c.cp, .int .i64 c.tr, .int .i64 c.de, .int .i64 c.wi] ∧ Blk wr (w.heap.size + 1) 32 #[.int .i64 f, .int .i64 cw]
set_option maxHeartbeats 4000000 in
theorem bestT (c : CfgV) (f cw : Int) (a : Option Addr) (len cap : Nat) (cs : Nat → CarV) (w : World) (h : CV w a len cs) (hl : len ≤ 9223372036854775807) (hfit : ∀ i, i < len → fitC (cs i)) (hin : ∀ i, i < len → inH (cs i) f cw) : Calls Try.prog 13 #[.agg #[.int .i64 c.ca, .int .i64 c.fl, .int .i64 c.ft, .int .i64 c.se, .int .i64 c.dr, .int .i64 c.dw, .int .i64 c.ho, .int .i64 c.re, .int .i64 c.yi, .int .i64 c.qu, .int .i64 c.qo, .int .i64 c.lo, .int .i64 c.sl, .int .i64 c.rt, .int .i64 c.cp, .int .i64 c.tr, .int .i64 c.de, .int .i64 c.wi], .slice a len cap, .agg #[.int .i64 f, .int .i64 cw]] w fun e w' => e = .returned (.int .i64 (bl c f cw cs len).1) ∧ Since w w' := by
  have hlI : (len : Int) ≤ 9223372036854775807 := by omega
  have HL := Lib.hid h; have HF := Lib.hid hfit; have HI := Lib.hid hin
  clear h hfit hin
  go_enter Try.func13, Try.ntmps13
  go_wp2_with fail
  go_loopw [7, 8, 14] (fun be le i wr => ∃ k : Nat, k ≤ len ∧ i = .int .i64 k ∧ ∃ B L : Int, be = .int .i64 B ∧ le = .int .i64 L ∧ Hid (Own6 c f cw cs w wr k B L)) (fun _ _ i _ => ((len : Int) - intOf i).toNat)
  case atStart => exact ⟨0, by omega, rfl, -1, 0, rfl, rfl, Lib.hid ⟨rfl, (by repeat (first | exact Since.refl _ | assumption | refine Since.setCell ?_ (by first | (simp; done) | (simp; omega)) _ | refine Since.drew ?_ | refine Since.drewN ?_ _ | refine Since.alloc ?_ _ | refine Since.trans ?_ (by assumption) | refine Since.trans ?_ (Hid.out (by assumption)))), (Blk.new w _ _).alloc _, by have h := Blk.new (w.alloc (.cells #[.int .i64 c.ca, .int .i64 c.fl, .int .i64 c.ft, .int .i64 c.se, .int .i64 c.dr, .int .i64 c.dw, .int .i64 c.ho, .int .i64 c.re, .int .i64 c.yi, .int .i64 c.qu, .int .i64 c.qo, .int .i64 c.lo, .int .i64 c.sl, .int .i64 c.rt, .int .i64 c.cp, .int .i64 c.tr, .int .i64 c.de, .int .i64 c.wi] 23)) 32 #[.int .i64 f, .int .i64 cw]; simpa using h⟩⟩
  case round =>
    obtain ⟨k, hk, rfl, B, L, rfl, rfl, HO⟩ := hrel
    by_cases hlt : k < len
    · have hk0 : (k : Int) < (len : Int) := by omega
      have hk1 : (0 : Int) ≤ (k : Int) := by omega
      have HJ := Lib.hid hlt
      obtain ⟨b, off, rfl, hb, hc⟩ := (HL.out.keep HO.out.2.1).at_ hlt
      have l0 : wr.cell? ⟨b, off + k * 15, none⟩ = some (.int .i64 (cs k).ds) := hc k hlt 0 _ rfl
      have l1 : wr.cell? ⟨b, off + k * 15 + 1, none⟩ = some (.int .i64 (cs k).da) := hc k hlt 1 _ rfl
      have l2 : wr.cell? ⟨b, off + k * 15 + 2, none⟩ = some (.int .i64 (cs k).un) := hc k hlt 2 _ rfl
      have l3 : wr.cell? ⟨b, off + k * 15 + 3, none⟩ = some (.int .i64 (cs k).wy) := hc k hlt 3 _ rfl
      have l4 : wr.cell? ⟨b, off + k * 15 + 4, none⟩ = some (.int .i64 (cs k).ti) := hc k hlt 4 _ rfl
      have l5 : wr.cell? ⟨b, off + k * 15 + 5, none⟩ = some (.int .i64 (cs k).ju) := hc k hlt 5 _ rfl
      have l6 : wr.cell? ⟨b, off + k * 15 + 6, none⟩ = some (.int .i64 (cs k).lo) := hc k hlt 6 _ rfl
      have l7 : wr.cell? ⟨b, off + k * 15 + 7, none⟩ = some (.bool (cs k).bl) := hc k hlt 7 _ rfl
      have l8 : wr.cell? ⟨b, off + k * 15 + 8, none⟩ = some (.bool (cs k).br) := hc k hlt 8 _ rfl
      have l9 : wr.cell? ⟨b, off + k * 15 + 9, none⟩ = some (.int .i64 (cs k).mo) := hc k hlt 9 _ rfl
      have l10 : wr.cell? ⟨b, off + k * 15 + 10, none⟩ = some (.int .i64 (cs k).ta) := hc k hlt 10 _ rfl
      have l11 : wr.cell? ⟨b, off + k * 15 + 11, none⟩ = some (.bool (cs k).ho) := hc k hlt 11 _ rfl
      have l12 : wr.cell? ⟨b, off + k * 15 + 12, none⟩ = some (.int .u64 (cs k).sp) := hc k hlt 12 _ rfl
      have l13 : wr.cell? ⟨b, off + k * 15 + 13, none⟩ = some (.int .u64 (cs k).su) := hc k hlt 13 _ rfl
      have l14 : wr.cell? ⟨b, off + k * 15 + 14, none⟩ = some (.int .u64 (cs k).sd) := hc k hlt 14 _ rfl
      clear hc
      have hBL : (bl c f cw cs k).1 = B ∧ (bl c f cw cs k).2 = L := by rw [HO.out.1]; exact ⟨rfl, rfl⟩
      have HS := Lib.hid HO.out.2.1; have HC := Lib.hid HO.out.2.2.1; have HK := Lib.hid HO.out.2.2.2; have HP := Lib.hid HO.out.1
      have hwh := (wiB_iff _ _ _ _).1 (HI.out k hlt)
      have hR := fit_R (HF.out k hlt)
      have HW := Lib.hid hwh; have HR := Lib.hid hR; clear hwh hR HO
      obtain ⟨hB1, hB2⟩ := hBL
      have HB1 := Lib.hid hB1; have HB2 := Lib.hid hB2
      by_cases hm : (cs k).mo = 0
      · have m1 : ((cs k).mo == 0) = true := by simpa using hm
        have m2 : ((cs k).mo != 0) = false := by simpa using hm
        cases hbr : (cs k).br
        · rw [hbr] at l8
          obtain ⟨w0, w1', g0, g1, v0, v1, y0, y1⟩ := HW.out
          clear HW
          have hcost := fun W => costT c (cs k) f cw w0 w1' g0 g1 HR.out.1 HR.out.2.1 HR.out.2.2 W
          rw [hbr] at hcost
          have HCO := Lib.hid hcost; have HM := Lib.hid hm; have HBR := Lib.hid hbr; clear hcost hm hbr hB1 hB2
          go_wp2_with (first | (refine wpList_load_row rfl 23 _ rfl _ rfl 23 _ (0, 0) _ (HC.out.alloc _) Try.underlying23 rfl (by kernel_rfl) ?_) | (refine wpList_load_row rfl 32 _ rfl _ rfl 32 _ (0, 0) _ (HK.out.alloc _) Try.underlying32 rfl (by kernel_rfl) ?_))
          refine (HCO.out _).mono ?_
          rintro e w2 ⟨rfl, hb2⟩
          have HC2 := Lib.hid (keep_blk hb2 (HC.out.alloc _)); have HK2 := Lib.hid (keep_blk hb2 (HK.out.alloc _)); have HS2 := Lib.hid ((HS.out.alloc _).trans hb2); clear hb2 HCO
          generalize hco : coV c (cs k) f cw = C0
          by_cases t1 : B < 0
          · have HN := Lib.hid (show bl c f cw cs (k + 1) = ((k : Int), C0) by rw [bl, if_pos ⟨⟨HM.out, HBR.out⟩, .inl (by rw [HB1.out]; exact t1)⟩, hco])
            clear hco
            go_wp2_with fail
            go_roundw
            case rel => exact ⟨k + 1, by have := HJ.out; omega, by go_num, (k : Int), C0, rfl, rfl, Lib.hid ⟨HN.out, HS2.out, HC2.out, HK2.out⟩⟩
            case measure => have := HJ.out; simp [intOf]; omega
          · by_cases t2 : C0 < L
            · have HN := Lib.hid (show bl c f cw cs (k + 1) = ((k : Int), C0) by rw [bl, if_pos ⟨⟨HM.out, HBR.out⟩, .inr (by rw [HB2.out, hco]; exact t2)⟩, hco])
              clear hco
              go_wp2_with fail
              go_roundw
              case rel => exact ⟨k + 1, by have := HJ.out; omega, by go_num, (k : Int), C0, rfl, rfl, Lib.hid ⟨HN.out, HS2.out, HC2.out, HK2.out⟩⟩
              case measure => have := HJ.out; simp [intOf]; omega
            · have HN := Lib.hid (show bl c f cw cs (k + 1) = (B, L) by rw [bl, if_neg (by rw [HB1.out, HB2.out, hco]; intro h; rcases h.2 with h | h <;> omega)]; exact HP.out)
              clear hco
              go_wp2_with fail
              go_roundw
              case rel => exact ⟨k + 1, by have := HJ.out; omega, by go_num, B, L, rfl, rfl, Lib.hid ⟨HN.out, HS2.out, HC2.out, HK2.out⟩⟩
              case measure => have := HJ.out; simp [intOf]; omega
        · rw [hbr] at l8
          have HN := Lib.hid (show bl c f cw cs (k + 1) = (B, L) by rw [bl, if_neg (by intro h; rw [hbr] at h; exact absurd h.1.2 (by decide))]; exact HP.out)
          clear hm hbr hB1 hB2
          go_wp2_with fail
          go_roundw
          case rel => exact ⟨k + 1, by have := HJ.out; omega, by go_num, B, L, rfl, rfl, Lib.hid ⟨HN.out, HS.out.alloc _, HC.out.alloc _, HK.out.alloc _⟩⟩
          case measure => have := HJ.out; simp [intOf]; omega
      · have m1 : ((cs k).mo == 0) = false := by simpa using hm
        have m2 : ((cs k).mo != 0) = true := by simpa using hm
        have HN := Lib.hid (show bl c f cw cs (k + 1) = (B, L) by rw [bl, if_neg (by intro h; exact hm h.1.1)]; exact HP.out)
        clear hm hB1 hB2
        go_wp2_with fail
        go_roundw
        case rel => exact ⟨k + 1, by have := HJ.out; omega, by go_num, B, L, rfl, rfl, Lib.hid ⟨HN.out, HS.out.alloc _, HC.out.alloc _, HK.out.alloc _⟩⟩
        case measure => have := HJ.out; simp [intOf]; omega
    · obtain rfl : k = len := by omega
      have HH := Lib.hid (show B = (bl c f cw cs k).1 by rw [HO.out.1])
      have HS := Lib.hid HO.out.2.1
      go_wp2
      go_ret
      exact ⟨ret_int HH.out, HS.out⟩
end Go.Proofs.Ytpacieocmogjeaa.Et
namespace Go.Proofs.Ytpacieocmogjeaa.Gr
set_option linter.unusedVariables false
set_option linter.unusedSimpArgs false
open Go.RowKit Go.Proofs.Ytpacieocmogjeaa.Ba Go.Proofs.Ytpacieocmogjeaa.Mem Go.Proofs.Ytpacieocmogjeaa.Ty Go.Proofs.Ytpacieocmogjeaa.Mo Go.Proofs.Ytpacieocmogjeaa.St
open Go.Proofs.Ytpacieocmogjeaa.Ct (cfgA carA)
theorem wrG (x : Int) (h0 : -9223372036854775808 ≤ x) (h1 : x ≤ 9223372036854775807) : IntKind.i64.wrap x = x := by
  simp only [IntKind.wrap, IntKind.bits, IntKind.signed]; simp; omega
structure WaitV where
  fl : Int
  wy : Int
  ca : Int
  si : Int
deriving DecidableEq
def waitL (a : WaitV) : List Value := [.int .i64 a.fl, .int .i64 a.wy, .int .i64 a.ca, .int .i64 a.si]
def waitA (a : WaitV) : Array Value := #[.int .i64 a.fl, .int .i64 a.wy, .int .i64 a.ca, .int .i64 a.si]
def carL (x : CarV) : List Value := [.int .i64 x.ds, .int .i64 x.da, .int .i64 x.un, .int .i64 x.wy, .int .i64 x.ti, .int .i64 x.ju, .int .i64 x.lo, .bool x.bl, .bool x.br, .int .i64 x.mo, .int .i64 x.ta, .bool x.ho, .int .u64 x.sp, .int .u64 x.su, .int .u64 x.sd]
theorem waitL_len (a : WaitV) : (waitL a).length = 4 := rfl
theorem carL_len (x : CarV) : (carL x).length = 15 := rfl
theorem waitL_one (a : WaitV) : ∀ u ∈ waitL a, u.oneCell' = true := by
  intro u hu
  simp only [waitL, List.mem_cons, List.not_mem_nil, or_false] at hu
  rcases hu with rfl | rfl | rfl | rfl <;> rfl
theorem carL_one (x : CarV) : ∀ u ∈ carL x, u.oneCell' = true := by
  intro u hu
  simp only [carL, List.mem_cons, List.not_mem_nil, or_false] at hu
  rcases hu with rfl | rfl | rfl | rfl | rfl | rfl | rfl | rfl | rfl | rfl | rfl | rfl | rfl | rfl | rfl <;> rfl
theorem waits_one (ls : List WaitV) : ∀ u ∈ rowsOf waitL ls, u.oneCell' = true := rowsOf_one' waitL_one ls
theorem cars_one (ls : List CarV) : ∀ u ∈ rowsOf carL ls, u.oneCell' = true := rowsOf_one' carL_one ls
structure GrV where
  c : CfgV
  cars : List CarV
  waits : List WaitV
  now : Int
def grpA (G : GrV) (v1 v2 : Value) : Array Value := #[.int .i64 G.c.ca, .int .i64 G.c.fl, .int .i64 G.c.ft, .int .i64 G.c.se, .int .i64 G.c.dr, .int .i64 G.c.dw, .int .i64 G.c.ho, .int .i64 G.c.re, .int .i64 G.c.yi, .int .i64 G.c.qu, .int .i64 G.c.qo, .int .i64 G.c.lo, .int .i64 G.c.sl, .int .i64 G.c.rt, .int .i64 G.c.cp, .int .i64 G.c.tr, .int .i64 G.c.de, .int .i64 G.c.wi, v1, v2, .int .i64 G.now]
/-- The cars' row, the waits' row. -/
def CarsAt (lo : Nat) (A : Option Addr) (n c : Nat) (ls : List CarV) (w : World) : Prop := w.ownsRow lo 30 15 (.slice A n c) n (rowsOf carL ls)
def WaitsAt (lo : Nat) (A : Option Addr) (n c : Nat) (ls : List WaitV) (w : World) : Prop := w.ownsRow lo 55 4 (.slice A n c) n (rowsOf waitL ls)
/-- The group q of world w; S: its blocks, all from lo on. -/
def GO (lo q : Nat) (G : GrV) (S : List Nat) (w : World) : Prop :=
  lo ≤ q ∧ ∃ A1 c1 A2 c2, S = q :: (blkOf A1 ++ blkOf A2) ∧ Blk w q 67 (grpA G (.slice A1 G.cars.length c1) (.slice A2 G.waits.length c2)) ∧
    CarsAt lo A1 G.cars.length c1 G.cars w ∧ WaitsAt lo A2 G.waits.length c2 G.waits w
section
variable {w w' : World} {lo q b : Nat} {G : GrV} {S T : List Nat}
theorem GO.keep (k : Since w w') (h : GO lo q G S w) : GO lo q G S w' := by
  obtain ⟨h0, A1, c1, A2, c2, rfl, B, O1, O2⟩ := h
  exact ⟨h0, A1, c1, A2, c2, rfl, keep_blk k B, keep_own k O1, keep_own k O2⟩
theorem GO.upd (k : Upd T w w') (h : GO lo q G S w) (hT : ∀ g ∈ S, g ∉ T) : GO lo q G S w' := by
  obtain ⟨h0, A1, c1, A2, c2, rfl, B, O1, O2⟩ := h
  exact ⟨h0, A1, c1, A2, c2, rfl, k.blk B (hT _ (by simp)), k.own O1 (fun g hg => hT g (by simp [hg])), k.own O2 (fun g hg => hT g (by simp [hg]))⟩
theorem GO.low (h : GO lo q G S w) : ∀ g ∈ S, lo ≤ g := by
  obtain ⟨h0, A1, c1, A2, c2, rfl, B, O1, O2⟩ := h
  intro g hg
  rcases List.mem_cons.1 hg with rfl | hg
  · exact h0
  · rcases List.mem_append.1 hg with hg | hg
    · exact own_low O1 g hg
    · exact own_low O2 g hg
theorem GO.lt (h : GO lo q G S w) : ∀ g ∈ S, g < w.heap.size := by
  obtain ⟨h0, A1, c1, A2, c2, rfl, B, O1, O2⟩ := h
  intro g hg
  rcases List.mem_cons.1 hg with rfl | hg
  · exact B.lt
  · rcases List.mem_append.1 hg with hg | hg
    · exact own_lt O1 g hg
    · exact own_lt O2 g hg
theorem GO.far (h : GO lo q G S w) (hb : w.heap.size ≤ b) : b ∉ S := fun hm => by have := h.lt b hm; omega
theorem GO.row_far (h : GO lo q G S w) (hb : b ∉ S) (cs : Array Value) : GO lo q G S (w.setRow b cs) :=
  h.upd (T := [b]) ((Upd.refl _ w).setRow (.inl (by simp)) cs) (fun g hg hgb => hb (by simpa using (List.mem_singleton.1 hgb) ▸ hg))
theorem GO.base {lo' : Nat} (h : GO lo q G S w) (hb : lo' ≤ lo) : GO lo' q G S w := by
  obtain ⟨h0, A1, c1, A2, c2, rfl, B, O1, O2⟩ := h
  exact ⟨by omega, A1, c1, A2, c2, rfl, B, own_base O1 hb, own_base O2 hb⟩
end
/-- What is changed of one car. -/
def GrV.car (G : GrV) (i : Nat) (x : CarV) : GrV := { G with cars := G.cars.set i x }
/-- One car of a group, by itself, and the group with another one in its place. -/
theorem GO.open_car {w : World} {lo q i : Nat} {G : GrV} {S : List Nat} (h : GO lo q G S w) (hi : i < G.cars.length) :
    ∃ g c1 v2 P S1, Blk w q 67 (grpA G (.slice (some ⟨g, 0, none⟩) G.cars.length c1) v2) ∧ P.length = i * 15 ∧ Blk w g 30 (el P (carA G.cars[i]) S1) ∧
      ∀ y w0 w', Since w w0 → Blk w' g 30 (el P (carA y) S1) → Upd [g] w0 w' → GO lo q (G.car i y) S w' ∧ Upd S w w' := by
  obtain ⟨h0, A1, c1, A2, c2, rfl, B, O1, O2⟩ := h
  obtain ⟨g, rfl⟩ := own_addr O1 (by omega)
  obtain ⟨P, S1, hP, hB, hback⟩ := own_el carL_len O1 hi
  have hqg : q ≠ g := Blk.ne_ B hB (by decide)
  have hA2 : g ∉ blkOf A2 := own_ne_ty O2 hB (by decide)
  refine ⟨g, c1, _, P, S1, B, by rw [hP, Nat.zero_add], hB, fun y w0 w' hs hB' hu => ?_⟩
  have hu2 : Upd [g] w w' := (Upd.of_since (S := [g]) hs).comp hu (fun _ h => .inl h)
  refine ⟨⟨h0, _, c1, A2, c2, rfl, ?_, ?_, hu2.own O2 (fun k hk hk2 => hA2 (List.mem_singleton.1 hk2 ▸ hk))⟩, hu2.mono (fun k hk _ => by rw [List.mem_singleton.1 hk]; simp [blkOf])⟩
  · have := hu2.blk B (fun hm => hqg (List.mem_singleton.1 hm))
    simpa [grpA, GrV.car, List.length_set] using this
  · have := hback y w' hB'
    simpa [CarsAt, GrV.car, List.length_set] using this
/-- The same with the waits' row at hand. -/
theorem GO.open_all {w : World} {lo q i : Nat} {G : GrV} {S : List Nat} (h : GO lo q G S w) (hi : i < G.cars.length) :
    ∃ g c1 A2 c2 P S1, Blk w q 67 (grpA G (.slice (some ⟨g, 0, none⟩) G.cars.length c1) (.slice A2 G.waits.length c2)) ∧ WaitsAt lo A2 G.waits.length c2 G.waits w ∧ P.length = i * 15 ∧ Blk w g 30 (el P (carA G.cars[i]) S1) ∧ g ∉ blkOf A2 ∧ q ∉ blkOf A2 ∧ q ≠ g ∧
      ∀ y ws w0 w', ws.length = G.waits.length → Since w w0 → Blk w' g 30 (el P (carA y) S1) → WaitsAt lo A2 G.waits.length c2 ws w' → Upd (g :: blkOf A2) w0 w' → GO lo q { G.car i y with waits := ws } S w' ∧ Upd S w w' := by
  obtain ⟨h0, A1, c1, A2, c2, rfl, B, O1, O2⟩ := h
  obtain ⟨g, rfl⟩ := own_addr O1 (by omega)
  obtain ⟨P, S1, hP, hB, hback⟩ := own_el carL_len O1 hi
  have hqg : q ≠ g := Blk.ne_ B hB (by decide)
  have hA2 : g ∉ blkOf A2 := own_ne_ty O2 hB (by decide)
  have hqA : q ∉ blkOf A2 := own_ne_ty O2 B (by decide)
  refine ⟨g, c1, A2, c2, P, S1, B, O2, by rw [hP, Nat.zero_add], hB, hA2, hqA, hqg, fun y ws w0 w' hlen hs hB' hW hu => ?_⟩
  have hu2 : Upd (g :: blkOf A2) w w' := (Upd.of_since (S := g :: blkOf A2) hs).comp hu (fun _ h => .inl h)
  refine ⟨⟨h0, _, c1, A2, c2, rfl, ?_, ?_, ?_⟩, hu2.mono (fun k hk _ => by
    rcases List.mem_cons.1 hk with h | h
    · rw [h]; simp [blkOf]
    · exact List.mem_cons_of_mem _ (List.mem_append.2 (.inr h)))⟩
  · have := hu2.blk B (fun hm => by rcases List.mem_cons.1 hm with h | h; exact hqg h; exact hqA h)
    simpa [grpA, GrV.car, List.length_set, hlen] using this
  · have := hback y w' hB'
    simpa [CarsAt, GrV.car, List.length_set] using this
  · simpa [hlen] using hW
end Go.Proofs.Ytpacieocmogjeaa.Gr
