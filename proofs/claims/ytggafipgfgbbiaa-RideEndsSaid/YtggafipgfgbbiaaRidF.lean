/-
  The steps of a lease, each as one function: the program's and the reference's answer it alike.
  No condition.
-/
import Derived.Test.YtggafipgfgbbiaaRidT
import Derived.Test.YtggafipgfgbbiaaRidRa
import Derived.Test.YtggafipgfgbbiaaRidRb
import Derived.Test.YtggafipgfgbbiaaRidH
import Derived.Test.YtggafipgfgbbiaaRidHRa
import Derived.Test.YtggafipgfgbbiaaRidHRb
import Derived.Test.YtggafipgfgbbiaaRidHRc
namespace Go.Proofs.Ytggafipgfgbbiaa.Ri
set_option linter.unusedVariables false
set_option linter.unusedSimpArgs false
open Go.RowKit Go.Proofs.Ytggafipgfgbbiaa.Ba Go.Proofs.Ytggafipgfgbbiaa.Mo Go.Proofs.Ytggafipgfgbbiaa.Ty Go.Proofs.Ytggafipgfgbbiaa.Mem Go.Proofs.Ytggafipgfgbbiaa.Tm Go.Proofs.Ytggafipgfgbbiaa.Tw
open Go.Proofs.Ytggafipgfgbbiaa.Ce (ms ms_lo ms_hi massT nearT nr)
open Go.Proofs.Ytggafipgfgbbiaa.Fl (massR)
set_option maxRecDepth 100000
theorem two (b : Bool) : b = true ∨ b = false := by cases b <;> simp
def tickV (c : CfgV) (l : LeaseV) (x : CarV) (now : Int) : LeaseV × Option MsgV × Bool :=
  if x.br = true ∨ cl l.un ≤ cl now then ((⟨l.se, l.fl, l.fm, l.to, l.ma, l.ca, l.ph, l.un, l.re, l.gr⟩ : LeaseV), some ⟨16, l.ph, 0, 0⟩, true)
  else if l.ph = 1 ∧ opB x l.fm = true then ((⟨l.se, l.fl, l.fm, l.to, l.ma, l.ca, 2, cl (cl now + cl (sp c.ho)), l.re, l.gr⟩ : LeaseV), some ⟨8, l.fm, 0, 0⟩, false)
  else if l.ph = 3 ∧ opB x l.to = true then ((⟨l.se, l.fl, l.fm, l.to, l.ma, l.ca, 4, cl (cl now + cl (sp c.ho)), l.re, l.gr⟩ : LeaseV), some ⟨12, l.to, 0, 0⟩, false)
  else ((⟨l.se, l.fl, l.fm, l.to, l.ma, l.ca, l.ph, l.un, l.re, l.gr⟩ : LeaseV), none, false)
theorem tickT (c : CfgV) (l : LeaseV) (x : CarV) (now : Int) (w : World) : Calls Try.prog 50 #[.agg #[.int .i64 c.ca, .int .i64 c.fl, .int .i64 c.ft, .int .i64 c.se, .int .i64 c.dr, .int .i64 c.dw, .int .i64 c.ho, .int .i64 c.re, .int .i64 c.yi, .int .i64 c.qu, .int .i64 c.qo, .int .i64 c.lo, .int .i64 c.sl, .int .i64 c.rt, .int .i64 c.cp, .int .i64 c.tr, .int .i64 c.de, .int .i64 c.wi], .agg #[.int .i64 l.se, .int .i64 l.fl, .int .i64 l.fm, .int .i64 l.to, .int .i64 l.ma, .int .i64 l.ca, .int .i64 l.ph, .int .i64 l.un, .int .i64 l.re, .int .i64 l.gr], .agg #[.int .i64 x.ds, .int .i64 x.da, .int .i64 x.un, .int .i64 x.wy, .int .i64 x.ti, .int .i64 x.ju, .int .i64 x.lo, .bool x.bl, .bool x.br, .int .i64 x.mo, .int .i64 x.ta, .bool x.ho, .int .u64 x.sp, .int .u64 x.su, .int .u64 x.sd], .int .i64 now] w (Said w (tickV c l x now)) := by
  unfold tickV
  rcases two x.br with h0 | h0
  · rw [if_pos (Or.inl h0)]; exact tickA c l x now h0 w
  · by_cases h1 : cl l.un ≤ cl now
    · rw [if_pos (Or.inr h1)]; exact tickB c l x now h0 (decide_eq_true h1) w
    · rw [if_neg (by rw [h0]; simp [h1])]
      by_cases p1 : l.ph = 1
      · rcases two (opB x l.fm) with h3 | h3
        · rw [if_pos ⟨p1, h3⟩]; exact tickC c l x now h0 (decide_eq_false h1) p1 h3 w
        · rw [if_neg (by rw [h3]; simp), if_neg (by rw [p1]; simp)]; exact tickE c l x now h0 (decide_eq_false h1) p1 h3 w
      · rw [if_neg (by intro h; exact p1 h.1)]
        by_cases p3 : l.ph = 3
        · rcases two (opB x l.to) with h3 | h3
          · rw [if_pos ⟨p3, h3⟩]; exact tickD c l x now h0 (decide_eq_false h1) p3 h3 w
          · rw [if_neg (by rw [h3]; simp)]; exact tickF c l x now h0 (decide_eq_false h1) p3 h3 w
        · rw [if_neg (by intro h; exact p3 h.1)]; exact tickG c l x now h0 (decide_eq_false h1) (by simpa using p1) (by simpa using p3) w
theorem op_q0 {x : CarV} {f : Int} (h : lvB x.un = true) (k : (x.ds == 2) = true) : opB x f = (lvN x.un == f) := by unfold opB; rw [h, k]; simp
theorem op_q1 {x : CarV} {f : Int} (k : (x.ds == 2) = false) : opB x f = false := by unfold opB; rw [k]; simp
theorem op_q2 {x : CarV} {f : Int} (h : lvB x.un = false) : opB x f = false := by unfold opB; rw [h]; simp
theorem rideR (c : CfgV) (l : LeaseV) (x : CarV) (now : Int) (hu : cl l.un = l.un) (w : World) : Calls Try.prog 51 #[.agg #[.int .i64 c.ca, .int .i64 c.fl, .int .i64 c.ft, .int .i64 c.se, .int .i64 c.dr, .int .i64 c.dw, .int .i64 c.ho, .int .i64 c.re, .int .i64 c.yi, .int .i64 c.qu, .int .i64 c.qo, .int .i64 c.lo, .int .i64 c.sl, .int .i64 c.rt, .int .i64 c.cp, .int .i64 c.tr, .int .i64 c.de, .int .i64 c.wi], .agg #[.int .i64 l.se, .int .i64 l.fl, .int .i64 l.fm, .int .i64 l.to, .int .i64 l.ma, .int .i64 l.ca, .int .i64 l.ph, .int .i64 l.un, .int .i64 l.re, .int .i64 l.gr], .agg #[.int .i64 x.ds, .int .i64 x.da, .int .i64 x.un, .int .i64 x.wy, .int .i64 x.ti, .int .i64 x.ju, .int .i64 x.lo, .bool x.bl, .bool x.br, .int .i64 x.mo, .int .i64 x.ta, .bool x.ho, .int .u64 x.sp, .int .u64 x.su, .int .u64 x.sd], .int .i64 now] w (Said w (tickV c l x now)) := by
  unfold tickV
  rw [hu]
  rcases two (lvB x.un) with k0 | k0
  · rcases two (x.ds == 2) with k1 | k1
    · rcases two x.br with h0 | h0
      · rw [if_pos (Or.inl h0)]; exact rideRA0 c l x now h0 k0 k1 w
      · by_cases h1 : l.un ≤ cl now
        · rw [if_pos (Or.inr h1)]; exact rideRB0 c l x now h0 h1 k0 k1 w
        · rw [if_neg (by rw [h0]; simp [h1])]
          rw [op_q0 k0 k1, op_q0 k0 k1]
          by_cases p1 : l.ph = 1
          · rcases two (lvN x.un == l.fm) with h3 | h3
            · rw [if_pos ⟨p1, h3⟩]; have h := rideRC c l x now h0 h1 p1 h3 k0 k1 w; rw [show lvN x.un = l.fm by simpa using h3] at h; exact h
            · rw [if_neg (by rw [h3]; simp), if_neg (by rw [p1]; simp)]; exact rideRE0 c l x now h0 h1 p1 h3 k0 k1 w
          · rw [if_neg (by intro h; exact p1 h.1)]
            by_cases p3 : l.ph = 3
            · rcases two (lvN x.un == l.to) with h3 | h3
              · rw [if_pos ⟨p3, h3⟩]; have h := rideRD c l x now h0 h1 p3 h3 k0 k1 w; rw [show lvN x.un = l.to by simpa using h3] at h; exact h
              · rw [if_neg (by rw [h3]; simp)]; exact rideRF0 c l x now h0 h1 p3 h3 k0 k1 w
            · rw [if_neg (by intro h; exact p3 h.1)]; exact rideRG0 c l x now h0 h1 (by simpa using p1) (by simpa using p3) k0 k1 w
    · rcases two x.br with h0 | h0
      · rw [if_pos (Or.inl h0)]; exact rideRA1 c l x now h0 k0 k1 w
      · by_cases h1 : l.un ≤ cl now
        · rw [if_pos (Or.inr h1)]; exact rideRB1 c l x now h0 h1 k0 k1 w
        · rw [if_neg (by rw [h0]; simp [h1])]
          rw [op_q1 k1, op_q1 k1, if_neg (by simp), if_neg (by simp)]
          by_cases p1 : l.ph = 1
          · exact rideRE1 c l x now h0 h1 p1 k0 k1 w
          · by_cases p3 : l.ph = 3
            · exact rideRF1 c l x now h0 h1 p3 k0 k1 w
            · exact rideRG1 c l x now h0 h1 (by simpa using p1) (by simpa using p3) k0 k1 w
  · rcases two x.br with h0 | h0
    · rw [if_pos (Or.inl h0)]; exact rideRA2 c l x now h0 k0 w
    · by_cases h1 : l.un ≤ cl now
      · rw [if_pos (Or.inr h1)]; exact rideRB2 c l x now h0 h1 k0 w
      · rw [if_neg (by rw [h0]; simp [h1])]
        rw [op_q2 k0, op_q2 k0, if_neg (by simp), if_neg (by simp)]
        by_cases p1 : l.ph = 1
        · exact rideRE2 c l x now h0 h1 p1 k0 w
        · by_cases p3 : l.ph = 3
          · exact rideRF2 c l x now h0 h1 p3 k0 w
          · exact rideRG2 c l x now h0 h1 (by simpa using p1) (by simpa using p3) k0 w
def hearV (c : CfgV) (l : LeaseV) (x : CarV) (now : Int) (m : MsgV) : LeaseV × Option MsgV × Bool :=
  if m.ki = 9 ∧ l.ph = 2 then (if nr x.lo l.ma c.sl = true then ((⟨l.se, l.fl, l.fm, l.to, l.ma, l.ca, 3, cl (cl now + cl (trV c)), l.re, l.gr⟩ : LeaseV), some ⟨10, 0, 0, 0⟩, false) else ((⟨l.se, l.fl, l.fm, l.to, l.ma, l.ca, l.ph, l.un, l.re, l.gr⟩ : LeaseV), some ⟨11, ms x.lo, 0, 0⟩, false))
  else if m.ki = 13 ∧ l.ph = 4 then ((⟨l.se, l.fl, l.fm, l.to, l.ma, l.ca, l.ph, l.un, l.re, l.gr⟩ : LeaseV), some ⟨14, 0, 0, 0⟩, true)
  else if m.ki = 15 ∧ mayRe c l = true then ((⟨l.se, l.fl, l.fm, l.to, l.ma, l.ca, l.ph, cl (cl now + cl (sp c.ho)), IntKind.i64.wrap (l.re + 1), l.gr⟩ : LeaseV), some ⟨4, l.ca, 0, 0⟩, false)
  else ((⟨l.se, l.fl, l.fm, l.to, l.ma, l.ca, l.ph, l.un, l.re, l.gr⟩ : LeaseV), some ⟨7, l.ph, 0, 0⟩, false)
theorem hearT (c : CfgV) (l : LeaseV) (x : CarV) (now : Int) (m : MsgV) (w : World) : Calls Try.prog 57 #[.agg #[.int .i64 c.ca, .int .i64 c.fl, .int .i64 c.ft, .int .i64 c.se, .int .i64 c.dr, .int .i64 c.dw, .int .i64 c.ho, .int .i64 c.re, .int .i64 c.yi, .int .i64 c.qu, .int .i64 c.qo, .int .i64 c.lo, .int .i64 c.sl, .int .i64 c.rt, .int .i64 c.cp, .int .i64 c.tr, .int .i64 c.de, .int .i64 c.wi], .agg #[.int .i64 l.se, .int .i64 l.fl, .int .i64 l.fm, .int .i64 l.to, .int .i64 l.ma, .int .i64 l.ca, .int .i64 l.ph, .int .i64 l.un, .int .i64 l.re, .int .i64 l.gr], .agg #[.int .i64 x.ds, .int .i64 x.da, .int .i64 x.un, .int .i64 x.wy, .int .i64 x.ti, .int .i64 x.ju, .int .i64 x.lo, .bool x.bl, .bool x.br, .int .i64 x.mo, .int .i64 x.ta, .bool x.ho, .int .u64 x.sp, .int .u64 x.su, .int .u64 x.sd], .int .i64 now, .agg (msgC m)] w (Said w (hearV c l x now m)) := by
  unfold hearV
  by_cases a : m.ki = 9
  · have a13 : ¬ m.ki = 13 := by omega
    have a15 : ¬ m.ki = 15 := by omega
    by_cases b : l.ph = 2
    · rw [if_pos ⟨a, b⟩]
      rcases two (nr x.lo l.ma c.sl) with h | h
      · rw [if_pos h]; exact hear9B c l x now m (by simpa using a) (by simpa using b) h w
      · rw [if_neg (by rw [h]; simp)]; exact hear9A c l x now m (by simpa using a) (by simpa using b) h w
    · rw [if_neg (by intro h; exact b h.2), if_neg (by intro h; exact a13 h.1), if_neg (by intro h; exact a15 h.1)]
      exact hearN3 c l x now m (by simpa using a) (by simpa using b) (by simpa using a13) (by simpa using a15) w
  · rw [if_neg (by intro h; exact a h.1)]
    by_cases a13 : m.ki = 13
    · have a15 : ¬ m.ki = 15 := by omega
      by_cases b : l.ph = 4
      · rw [if_pos ⟨a13, b⟩]; exact hear13 c l x now m (by simpa using a13) (by simpa using a) (by simpa using b) w
      · rw [if_neg (by intro h; exact b h.2), if_neg (by intro h; exact a15 h.1)]
        exact hearN2 c l x now m (by simpa using a) (by simpa using a13) (by simpa using b) (by simpa using a15) w
    · rw [if_neg (by intro h; exact a13 h.1)]
      by_cases a15 : m.ki = 15
      · rcases two (mayRe c l) with h | h
        · rw [if_pos ⟨a15, h⟩]; exact hear15 c l x now m (by simpa using a15) (by simpa using a) (by simpa using a13) h w
        · rw [if_neg (by rw [h]; simp)]; exact hearN1 c l x now m (by simpa using a) (by simpa using a13) (by simpa using a15) h w
      · rw [if_neg (by intro h; exact a15 h.1)]; exact hearN0 c l x now m (by simpa using a) (by simpa using a13) (by simpa using a15) w
theorem hearR (c : CfgV) (l : LeaseV) (x : CarV) (now : Int) (m : MsgV) (w : World) : Calls Try.prog 58 #[.agg #[.int .i64 c.ca, .int .i64 c.fl, .int .i64 c.ft, .int .i64 c.se, .int .i64 c.dr, .int .i64 c.dw, .int .i64 c.ho, .int .i64 c.re, .int .i64 c.yi, .int .i64 c.qu, .int .i64 c.qo, .int .i64 c.lo, .int .i64 c.sl, .int .i64 c.rt, .int .i64 c.cp, .int .i64 c.tr, .int .i64 c.de, .int .i64 c.wi], .agg #[.int .i64 l.se, .int .i64 l.fl, .int .i64 l.fm, .int .i64 l.to, .int .i64 l.ma, .int .i64 l.ca, .int .i64 l.ph, .int .i64 l.un, .int .i64 l.re, .int .i64 l.gr], .agg #[.int .i64 x.ds, .int .i64 x.da, .int .i64 x.un, .int .i64 x.wy, .int .i64 x.ti, .int .i64 x.ju, .int .i64 x.lo, .bool x.bl, .bool x.br, .int .i64 x.mo, .int .i64 x.ta, .bool x.ho, .int .u64 x.sp, .int .u64 x.su, .int .u64 x.sd], .int .i64 now, .agg (msgC m)] w (Said w (hearV c l x now m)) := by
  unfold hearV
  by_cases a : m.ki = 9
  · have a13 : ¬ m.ki = 13 := by omega
    have a15 : ¬ m.ki = 15 := by omega
    by_cases b : l.ph = 2
    · rw [if_pos ⟨a, b⟩]
      by_cases g : ms x.lo - ms l.ma < 0
      · by_cases k : ms c.sl < -(ms x.lo - ms l.ma)
        · rw [if_neg (by unfold nr Ce.ab; rw [if_pos g]; simp; omega)]; exact hearRJ0 c l x now m (by simpa using a) (by simpa using b) g k w
        · rw [if_pos (by unfold nr Ce.ab; rw [if_pos g]; simp; omega)]; exact hearRK0 c l x now m (by simpa using a) (by simpa using b) g k w
      · by_cases k : ms c.sl < ms x.lo - ms l.ma
        · rw [if_neg (by unfold nr Ce.ab; rw [if_neg g]; simp; omega)]; exact hearRJ1 c l x now m (by simpa using a) (by simpa using b) g k w
        · rw [if_pos (by unfold nr Ce.ab; rw [if_neg g]; simp; omega)]; exact hearRK1 c l x now m (by simpa using a) (by simpa using b) g k w
    · rw [if_neg (by intro h; exact b h.2), if_neg (by intro h; exact a13 h.1), if_neg (by intro h; exact a15 h.1)]
      exact hearRN0 c l x now m (by simpa using a) (by simpa using b) (by simpa using a13) (by simpa using a15) w
  · rw [if_neg (by intro h; exact a h.1)]
    by_cases a13 : m.ki = 13
    · have a15 : ¬ m.ki = 15 := by omega
      by_cases b : l.ph = 4
      · rw [if_pos ⟨a13, b⟩]; exact hearR13 c l x now m (by simpa using a) (by simpa using a13) (by simpa using b) w
      · rw [if_neg (by intro h; exact b h.2), if_neg (by intro h; exact a15 h.1)]
        exact hearRN1 c l x now m (by simpa using a) (by simpa using a13) (by simpa using b) (by simpa using a15) w
    · rw [if_neg (by intro h; exact a13 h.1)]
      by_cases a15 : m.ki = 15
      · rcases two (mayRe c l) with h | h
        · rw [if_pos ⟨a15, h⟩]
          unfold mayRe at h
          rcases two (l.ph == 2) with b | b
          · rw [b] at h; exact hearRR0 c l x now m (by simpa using a) (by simpa using a13) (by simpa using a15) b (by simpa using h) w
          · rcases two (l.ph == 4) with d | d
            · rw [b, d] at h; exact hearRR1 c l x now m (by simpa using a) (by simpa using a13) (by simpa using a15) b d (by simpa using h) w
            · rw [b, d] at h; simp at h
        · rw [if_neg (by rw [h]; simp)]
          unfold mayRe at h
          rcases two (l.ph == 2) with b | b
          · rw [b] at h; exact hearRN3 c l x now m (by simpa using a) (by simpa using a13) (by simpa using a15) b (by simpa using h) w
          · rcases two (l.ph == 4) with d | d
            · rw [b, d] at h; exact hearRN4 c l x now m (by simpa using a) (by simpa using a13) (by simpa using a15) b d (by simpa using h) w
            · exact hearRN5 c l x now m (by simpa using a) (by simpa using a13) (by simpa using a15) b d w
      · rw [if_neg (by intro h; exact a15 h.1)]; exact hearRN2 c l x now m (by simpa using a) (by simpa using a13) (by simpa using a15) w
end Go.Proofs.Ytggafipgfgbbiaa.Ri
