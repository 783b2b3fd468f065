/-
  What is wanted by the last of these texts, part 11.
  No condition.
-/
import Derived.Test.YtggafipgfgbbiaaProg
import Derived.Test.YtggafipgfgbbiaaKLp9
namespace Go.Proofs.Ytggafipgfgbbiaa.Le
set_option linter.unusedVariables false
set_option linter.unusedSimpArgs false
open Go.RowKit Go.Proofs.Ytggafipgfgbbiaa.Ba Go.Proofs.Ytggafipgfgbbiaa.Mem Go.Proofs.Ytggafipgfgbbiaa.Ty
open Go.Proofs.Ytggafipgfgbbiaa.Ls (LV leaC)
open Go.Proofs.Ytggafipgfgbbiaa.Fl (mayB btw cnt)
set_option maxRecDepth 100000
attribute [local irreducible] Go.wpList
theorem mayV (c : CfgV) (l : LeaseV) (b : Bool) (w : World) (hb : mayB c (askOf l) = b) : Calls Try.prog 22 #[.agg #[.int .i64 c.ca, .int .i64 c.fl, .int .i64 c.ft, .int .i64 c.se, .int .i64 c.dr, .int .i64 c.dw, .int .i64 c.ho, .int .i64 c.re, .int .i64 c.yi, .int .i64 c.qu, .int .i64 c.qo, .int .i64 c.lo, .int .i64 c.sl, .int .i64 c.rt, .int .i64 c.cp, .int .i64 c.tr, .int .i64 c.de, .int .i64 c.wi], .agg #[.int .i64 l.se, .int .i64 l.fl, .int .i64 l.fm, .int .i64 l.to, .int .i64 l.ma]] w fun e w' => e = .returned (.bool b) ∧ Since w w' := by subst hb; exact Fl.mayT c (askOf l) w
theorem freeV (c : CfgV) (ls : List LeaseV) (lo : Nat) (A : Option Addr) (cap : Nat) (n : Int) (b : Bool) (w : World) (ho : w.ownsRow lo 56 10 (.slice A ls.length cap) ls.length (rowsOf leaC ls)) (hl : ls.length ≤ 10000) (hb : full c ls n = !b) :
    Calls Try.prog 21 #[.agg #[.int .i64 c.ca, .int .i64 c.fl, .int .i64 c.ft, .int .i64 c.se, .int .i64 c.dr, .int .i64 c.dw, .int .i64 c.ho, .int .i64 c.re, .int .i64 c.yi, .int .i64 c.qu, .int .i64 c.qo, .int .i64 c.lo, .int .i64 c.sl, .int .i64 c.rt, .int .i64 c.cp, .int .i64 c.tr, .int .i64 c.de, .int .i64 c.wi], .slice A ls.length cap, .int .i64 n] w fun e w' => e = .returned (.bool b) ∧ Since w w' := by
  have e : decide (cnt (fun i => ls.getD i zeroL) n ls.length < btw c.qo 1 8) = b := by
    unfold full at hb
    revert hb
    cases decide (cnt (fun i => ls.getD i zeroL) n ls.length < btw c.qo 1 8) <;> cases b <;> simp
  rw [← e]
  exact Fl.freeT c A ls.length cap _ n w (lv_own ho) (by omega)
theorem findK (lo t : Nat) (c : CfgV) (ls : List LeaseV) (A : Option Addr) (cap : Nat) (F : FuncId) (cp : Value) (p : LeaseV → Bool) (k0 : Nat) (w : World) (hq : Blk w t 101 (tabC c (.slice A ls.length cap))) (ho : w.ownsRow lo 56 10 (.slice A ls.length cap) ls.length (rowsOf leaC ls)) (hl : ls.length ≤ 10000)
    (hp : ∀ (l : LeaseV) (w1 : World), Since w w1 → Calls Try.prog F #[.agg #[.int .i64 l.se, .int .i64 l.fl, .int .i64 l.fm, .int .i64 l.to, .int .i64 l.ma, .int .i64 l.ca, .int .i64 l.ph, .int .i64 l.un, .int .i64 l.re, .int .i64 l.gr], cp] w1 fun e w2 => e = .returned (.bool (p l)) ∧ Since w1 w2) (hcf : ∀ (args : Array Value) (w1 : World), (callFunc F args).run Try.prog w1 = .ok (.enter F args) w1) (hf : atP ls p = some k0) :
    Calls Try.prog 73 #[.pointer (some ⟨t, 0, none⟩), .func (.func F) #[] #[cp]] w fun e w' => e = .returned (.int .i64 (k0 : Int)) ∧ Since w w' := by
  have := findT lo t c ls A cap F cp p w hq ho hl hp hcf
  rw [hf] at this
  exact this
theorem findM (lo t : Nat) (c : CfgV) (ls : List LeaseV) (A : Option Addr) (cap : Nat) (F : FuncId) (cp : Value) (p : LeaseV → Bool) (w : World) (hq : Blk w t 101 (tabC c (.slice A ls.length cap))) (ho : w.ownsRow lo 56 10 (.slice A ls.length cap) ls.length (rowsOf leaC ls)) (hl : ls.length ≤ 10000)
    (hp : ∀ (l : LeaseV) (w1 : World), Since w w1 → Calls Try.prog F #[.agg #[.int .i64 l.se, .int .i64 l.fl, .int .i64 l.fm, .int .i64 l.to, .int .i64 l.ma, .int .i64 l.ca, .int .i64 l.ph, .int .i64 l.un, .int .i64 l.re, .int .i64 l.gr], cp] w1 fun e w2 => e = .returned (.bool (p l)) ∧ Since w1 w2) (hcf : ∀ (args : Array Value) (w1 : World), (callFunc F args).run Try.prog w1 = .ok (.enter F args) w1) (hf : atP ls p = none) :
    Calls Try.prog 73 #[.pointer (some ⟨t, 0, none⟩), .func (.func F) #[] #[cp]] w fun e w' => e = .returned (.int .i64 (-1)) ∧ Since w w' := by
  have := findT lo t c ls A cap F cp p w hq ho hl hp hcf
  rw [hf] at this
  exact this
set_option maxHeartbeats 4000000 in
theorem goodM (t : Nat) (c : CfgV) (ls : List LeaseV) (A : Option Addr) (cap : Nat) (l : LeaseV) (w : World) (hq : Blk w t 101 (tabC c (.slice A ls.length cap))) (hm : mayB c (askOf l) = false) : Calls Try.prog 72 #[.pointer (some ⟨t, 0, none⟩), .agg #[.int .i64 l.se, .int .i64 l.fl, .int .i64 l.fm, .int .i64 l.to, .int .i64 l.ma, .int .i64 l.ca, .int .i64 l.ph, .int .i64 l.un, .int .i64 l.re, .int .i64 l.gr]] w fun e w' => e = .returned (.bool false) ∧ Since w w' := by
  have HBQ := Lib.hid (show Blk w t 101 #[.int .i64 c.ca, .int .i64 c.fl, .int .i64 c.ft, .int .i64 c.se, .int .i64 c.dr, .int .i64 c.dw, .int .i64 c.ho, .int .i64 c.re, .int .i64 c.yi, .int .i64 c.qu, .int .i64 c.qo, .int .i64 c.lo, .int .i64 c.sl, .int .i64 c.rt, .int .i64 c.cp, .int .i64 c.tr, .int .i64 c.de, .int .i64 c.wi, .slice A ls.length cap] from hq)
  clear hq
  have HM := Lib.hid hm
  clear hm
  go_enter Try.func72, Try.ntmps72
  go_upto_region 1 with fail
  obtain ⟨w1, hw1⟩ : ∃ w1, w1 = (w.alloc (.cells #[.int .i64 l.se, .int .i64 l.fl, .int .i64 l.fm, .int .i64 l.to, .int .i64 l.ma, .int .i64 l.ca, .int .i64 l.ph, .int .i64 l.un, .int .i64 l.re, .int .i64 l.gr] 56)) := ⟨_, rfl⟩
  rw [← hw1]
  have HBL1 := Lib.hid (show Blk w1 (w.heap.size) 56 #[.int .i64 l.se, .int .i64 l.fl, .int .i64 l.fm, .int .i64 l.to, .int .i64 l.ma, .int .i64 l.ca, .int .i64 l.ph, .int .i64 l.un, .int .i64 l.re, .int .i64 l.gr] by rw [hw1]; exact Blk.at_ (by (try simp only [size_alloc])) _ _)
  have HS1 := Lib.hid (show Since w w1 by rw [hw1]; exact Since.alloc (Since.refl w) _)
  have hNE : w.heap.size ≤ w.heap.size := by omega
  have HNE := Lib.hid hNE
  clear hNE hw1
  have HNE3 := Lib.hid (show w.heap.size ≤ w.heap.size from HNE.out)
  clear HNE
  have HBQ1 := Lib.hid (keep_blk HS1.out HBQ.out)
  clear HBQ
  have hrK : ∀ W W' : World, Since W W' → (Since w W ∧ Blk W w.heap.size 56 #[.int .i64 l.se, .int .i64 l.fl, .int .i64 l.fm, .int .i64 l.to, .int .i64 l.ma, .int .i64 l.ca, .int .i64 l.ph, .int .i64 l.un, .int .i64 l.re, .int .i64 l.gr] ∧ Blk W t 101 #[.int .i64 c.ca, .int .i64 c.fl, .int .i64 c.ft, .int .i64 c.se, .int .i64 c.dr, .int .i64 c.dw, .int .i64 c.ho, .int .i64 c.re, .int .i64 c.yi, .int .i64 c.qu, .int .i64 c.qo, .int .i64 c.lo, .int .i64 c.sl, .int .i64 c.rt, .int .i64 c.cp, .int .i64 c.tr, .int .i64 c.de, .int .i64 c.wi, .slice A ls.length cap]) → (Since w W' ∧ Blk W' w.heap.size 56 #[.int .i64 l.se, .int .i64 l.fl, .int .i64 l.fm, .int .i64 l.to, .int .i64 l.ma, .int .i64 l.ca, .int .i64 l.ph, .int .i64 l.un, .int .i64 l.re, .int .i64 l.gr] ∧ Blk W' t 101 #[.int .i64 c.ca, .int .i64 c.fl, .int .i64 c.ft, .int .i64 c.se, .int .i64 c.dr, .int .i64 c.dw, .int .i64 c.ho, .int .i64 c.re, .int .i64 c.yi, .int .i64 c.qu, .int .i64 c.qo, .int .i64 c.lo, .int .i64 c.sl, .int .i64 c.rt, .int .i64 c.cp, .int .i64 c.tr, .int .i64 c.de, .int .i64 c.wi, .slice A ls.length cap]) := fun W W' k ⟨h, h0, h1⟩ => ⟨h.trans k, keep_blk k h0, keep_blk k h1⟩
  have hrS : (fun W : World => Since w W ∧ Blk W w.heap.size 56 #[.int .i64 l.se, .int .i64 l.fl, .int .i64 l.fm, .int .i64 l.to, .int .i64 l.ma, .int .i64 l.ca, .int .i64 l.ph, .int .i64 l.un, .int .i64 l.re, .int .i64 l.gr] ∧ Blk W t 101 #[.int .i64 c.ca, .int .i64 c.fl, .int .i64 c.ft, .int .i64 c.se, .int .i64 c.dr, .int .i64 c.dw, .int .i64 c.ho, .int .i64 c.re, .int .i64 c.yi, .int .i64 c.qu, .int .i64 c.qo, .int .i64 c.lo, .int .i64 c.sl, .int .i64 c.rt, .int .i64 c.cp, .int .i64 c.tr, .int .i64 c.de, .int .i64 c.wi, .slice A ls.length cap]) w1 := ⟨HS1.out, HBL1.out, HBQ1.out⟩
  have HRK := Lib.hid hrK
  have HRD := Lib.hid (show (fun W : World => Since w W ∧ Blk W w.heap.size 56 #[.int .i64 l.se, .int .i64 l.fl, .int .i64 l.fm, .int .i64 l.to, .int .i64 l.ma, .int .i64 l.ca, .int .i64 l.ph, .int .i64 l.un, .int .i64 l.re, .int .i64 l.gr] ∧ Blk W t 101 #[.int .i64 c.ca, .int .i64 c.fl, .int .i64 c.ft, .int .i64 c.se, .int .i64 c.dr, .int .i64 c.dw, .int .i64 c.ho, .int .i64 c.re, .int .i64 c.yi, .int .i64 c.qu, .int .i64 c.qo, .int .i64 c.lo, .int .i64 c.sl, .int .i64 c.rt, .int .i64 c.cp, .int .i64 c.tr, .int .i64 c.de, .int .i64 c.wi, .slice A ls.length cap]) (World.drew w1) from ⟨Since.drew hrS.1, hrS.2⟩)
  clear hrK hrS
  refine wp_region_held_drew (S := fun W : World => Since w W ∧ Blk W w.heap.size 56 #[.int .i64 l.se, .int .i64 l.fl, .int .i64 l.fm, .int .i64 l.to, .int .i64 l.ma, .int .i64 l.ca, .int .i64 l.ph, .int .i64 l.un, .int .i64 l.re, .int .i64 l.gr] ∧ Blk W t 101 #[.int .i64 c.ca, .int .i64 c.fl, .int .i64 c.ft, .int .i64 c.se, .int .i64 c.dr, .int .i64 c.dw, .int .i64 c.ho, .int .i64 c.re, .int .i64 c.yi, .int .i64 c.qu, .int .i64 c.qo, .int .i64 c.lo, .int .i64 c.sl, .int .i64 c.rt, .int .i64 c.cp, .int .i64 c.tr, .int .i64 c.de, .int .i64 c.wi, .slice A ls.length cap]) (by kernel_rfl) HRD.out (fun hHeld => ?_)
  refine wpAnyH_take (i := 0) (oi := ?o1__0) (v := .pointer (some ⟨t, 0, none⟩)) ?h1__0 (by kernel_rfl) (by kernel_rfl) (by kernel_rfl) ?q1__0 ?y1__0 (by assumption) ?_
  case h1__0 => (first | (simp only [gA, gB, gC]; done) | (simp only [gA, gB, gC]; exact rfl))
  case q1__0 => exact fun _ _ _ h => h
  case y1__0 => (refine Or.inl ⟨rfl, ?_⟩; intro w hSw; (first | rfl | (go_simp; (try with_reducible rfl))))
  (try simp only [Act.put, sA, sB, sC])
  refine wpAnyH_take (i := 1) (oi := ?o1__1) (v := .bool true) ?h1__1 (by kernel_rfl) (by kernel_rfl) (by kernel_rfl) ?q1__1 ?y1__1 (by assumption) ?_
  case h1__1 => (first | (simp only [gA, gB, gC]; done) | (simp only [gA, gB, gC]; exact rfl))
  case q1__1 => exact fun _ _ _ h => h
  case y1__1 => (refine Or.inl ⟨rfl, ?_⟩; intro w hSw; (first | rfl | (go_simp; (try with_reducible rfl))))
  (try simp only [Act.put, sA, sB, sC])
  refine wpAnyH_take (i := 2) (oi := ?o1__2) (v := .bool true) ?h1__2 (by kernel_rfl) (by kernel_rfl) (by kernel_rfl) ?q1__2 ?y1__2 (by assumption) ?_
  case h1__2 => (first | (simp only [gA, gB, gC]; done) | (simp only [gA, gB, gC]; exact rfl))
  case q1__2 => exact fun _ _ _ h => h
  case y1__2 => (refine Or.inl ⟨rfl, ?_⟩; intro w hSw; (first | rfl | (go_simp; (try with_reducible rfl))))
  (try simp only [Act.put, sA, sB, sC])
  refine wpAnyH_take (i := 3) (oi := ?o1__3) (v := .pointer (some ⟨t, 0, none⟩)) ?h1__3 (by kernel_rfl) (by kernel_rfl) (by kernel_rfl) ?q1__3 ?y1__3 (by assumption) ?_
  case h1__3 => (first | (simp only [gA, gB, gC]; done) | (simp only [gA, gB, gC]; exact rfl))
  case q1__3 => exact fun _ _ _ h => h
  case y1__3 => (refine Or.inl ⟨rfl, ?_⟩; intro w hSw; (first | rfl | (go_simp; (try with_reducible rfl))))
  (try simp only [Act.put, sA, sB, sC])
  refine wpAnyH_take (i := 4) (oi := ?o1__4) (v := .pointer (some ⟨t, 0, none⟩)) ?h1__4 (by kernel_rfl) (by kernel_rfl) (by kernel_rfl) ?q1__4 ?y1__4 (by assumption) ?_
  case h1__4 => (first | (simp only [gA, gB, gC]; done) | (simp only [gA, gB, gC]; exact rfl))
  case q1__4 => exact fun _ _ _ h => h
  case y1__4 => (refine Or.inl ⟨rfl, ?_⟩; intro w hSw; (first | rfl | (go_simp; (try with_reducible rfl))))
  (try simp only [Act.put, sA, sB, sC])
  refine wpAnyH_take (i := 5) (oi := ?o1__5) (v := .pointer (some ⟨t, 0, none⟩)) ?h1__5 (by kernel_rfl) (by kernel_rfl) (by kernel_rfl) ?q1__5 ?y1__5 (by assumption) ?_
  case h1__5 => (first | (simp only [gA, gB, gC]; done) | (simp only [gA, gB, gC]; exact rfl))
  case q1__5 => exact fun _ _ _ h => h
  case y1__5 => (refine Or.inl ⟨rfl, ?_⟩; intro w hSw; (first | rfl | (go_simp; (try with_reducible rfl))))
  (try simp only [Act.put, sA, sB, sC])
  refine wpAnyH_take (i := 6) (oi := ?o1__6) (v := .agg #[.int .i64 c.ca, .int .i64 c.fl, .int .i64 c.ft, .int .i64 c.se, .int .i64 c.dr, .int .i64 c.dw, .int .i64 c.ho, .int .i64 c.re, .int .i64 c.yi, .int .i64 c.qu, .int .i64 c.qo, .int .i64 c.lo, .int .i64 c.sl, .int .i64 c.rt, .int .i64 c.cp, .int .i64 c.tr, .int .i64 c.de, .int .i64 c.wi]) ?h1__6 (by kernel_rfl) (by kernel_rfl) (by kernel_rfl) ?q1__6 ?y1__6 (by assumption) ?_
  case h1__6 => (first | (simp only [gA, gB, gC]; done) | (simp only [gA, gB, gC]; exact rfl))
  case q1__6 => exact fun _ _ _ h => h
  case y1__6 => (refine Or.inl ⟨rfl, ?_⟩; intro w hSw; exact exec_part (n := 18) 23 _ _ hSw.2.2 rfl rfl rfl rfl Try.underlying23 rfl (by kernel_rfl))
  (try simp only [Act.put, sA, sB, sC])
  refine wpAnyH_take (i := 7) (oi := ?o1__7) (v := .pointer (some ⟨w.heap.size, 0, none⟩)) ?h1__7 (by kernel_rfl) (by kernel_rfl) (by kernel_rfl) ?q1__7 ?y1__7 (by assumption) ?_
  case h1__7 => (first | (simp only [gA, gB, gC]; done) | (simp only [gA, gB, gC]; exact rfl))
  case q1__7 => exact fun _ _ _ h => h
  case y1__7 => (refine Or.inl ⟨rfl, ?_⟩; intro w hSw; (first | rfl | (go_simp; (try with_reducible rfl))))
  (try simp only [Act.put, sA, sB, sC])
  refine wpAnyH_take (i := 8) (oi := ?o1__8) (v := .agg #[.int .i64 l.se, .int .i64 l.fl, .int .i64 l.fm, .int .i64 l.to, .int .i64 l.ma]) ?h1__8 (by kernel_rfl) (by kernel_rfl) (by kernel_rfl) ?q1__8 ?y1__8 (by assumption) ?_
  case h1__8 => (first | (simp only [gA, gB, gC]; done) | (simp only [gA, gB, gC]; exact rfl))
  case q1__8 => exact fun _ _ _ h => h
  case y1__8 => (refine Or.inl ⟨rfl, ?_⟩; intro w hSw; exact exec_part (n := 5) 30 _ _ hSw.2.1 rfl rfl rfl rfl Try.underlying30 rfl (by kernel_rfl))
  (try simp only [Act.put, sA, sB, sC])
  refine wpAnyH_ready (rs := [9]) (by kernel_rfl) (by simp) ?_
  refine AllReadyH.cons (o := ?o1__9) ?h1__9 (fun K hK => ?_) AllReadyH.nil
  case h1__9 => (first | (simp only [gA, gB, gC]; done) | (simp only [gA, gB, gC]; exact rfl))
  (try go_simp)
  refine (mayV c l false _ HM.out).mono ?_
  rintro e w2 ⟨rfl, hb⟩
  (try go_wp2_with fail)
  refine hK.out _ _ (by (apply HRK.out; exact hb; exact hHeld)) (fun hHeld2 => ?_)
  clear hK K hHeld hb
  have hHeld := hHeld2
  clear hHeld2
  (try simp only [Act.put, sA, sB, sC])
  refine wpAnyH_take (i := 10) (oi := ?o1__10) (v := .bool false) ?h1__10 (by kernel_rfl) (by kernel_rfl) (by kernel_rfl) ?q1__10 ?y1__10 (by assumption) ?_
  case h1__10 => (first | (simp only [gA, gB, gC]; done) | (simp only [gA, gB, gC]; exact rfl))
  case q1__10 => exact fun _ _ _ h => h
  case y1__10 => (refine Or.inl ⟨rfl, ?_⟩; intro w hSw; (first | rfl | (go_simp; (try with_reducible rfl))))
  (try simp only [Act.put, sA, sB, sC])
  refine wpAnyH_take (i := 11) (oi := ?o1__11) (v := .bool false) ?h1__11 (by kernel_rfl) (by kernel_rfl) (by kernel_rfl) ?q1__11 ?y1__11 (by assumption) ?_
  case h1__11 => (first | (simp only [gA, gB, gC]; done) | (simp only [gA, gB, gC]; exact rfl))
  case q1__11 => exact fun _ _ _ h => h
  case y1__11 => (refine Or.inl ⟨rfl, ?_⟩; intro w hSw; (first | rfl | (go_simp; (try with_reducible rfl))))
  (try simp only [Act.put, sA, sB, sC])
  refine wpAnyH_take (i := 12) (oi := ?o1__12) (v := undef) ?h1__12 (by kernel_rfl) (by kernel_rfl) (by kernel_rfl) ?q1__12 ?y1__12 (by assumption) ?_
  case h1__12 => (first | (simp only [gA, gB, gC]; done) | (simp only [gA, gB, gC]; exact rfl))
  case q1__12 => exact fun _ _ _ h => h
  case y1__12 => exact Or.inr ⟨rfl, rfl⟩
  (try simp only [Act.put, sA, sB, sC])
  refine wpAnyH_take (i := 13) (oi := ?o1__13) (v := undef) ?h1__13 (by kernel_rfl) (by kernel_rfl) (by kernel_rfl) ?q1__13 ?y1__13 (by assumption) ?_
  case h1__13 => (first | (simp only [gA, gB, gC]; done) | (simp only [gA, gB, gC]; exact rfl))
  case q1__13 => exact fun _ _ _ h => h
  case y1__13 => exact Or.inr ⟨rfl, rfl⟩
  (try simp only [Act.put, sA, sB, sC])
  refine wpAnyH_take (i := 14) (oi := ?o1__14) (v := undef) ?h1__14 (by kernel_rfl) (by kernel_rfl) (by kernel_rfl) ?q1__14 ?y1__14 (by assumption) ?_
  case h1__14 => (first | (simp only [gA, gB, gC]; done) | (simp only [gA, gB, gC]; exact rfl))
  case q1__14 => exact fun _ _ _ h => h
  case y1__14 => exact Or.inr ⟨rfl, rfl⟩
  (try simp only [Act.put, sA, sB, sC])
  refine wpAnyH_take (i := 15) (oi := ?o1__15) (v := .bool false) ?h1__15 (by kernel_rfl) (by kernel_rfl) (by kernel_rfl) ?q1__15 ?y1__15 (by assumption) ?_
  case h1__15 => (first | (simp only [gA, gB, gC]; done) | (simp only [gA, gB, gC]; exact rfl))
  case q1__15 => exact fun _ _ _ h => h
  case y1__15 => (refine Or.inl ⟨rfl, ?_⟩; intro w hSw; (first | rfl | (go_simp; (try with_reducible rfl))))
  (try simp only [Act.put, sA, sB, sC])
  refine wpAnyH_take (i := 16) (oi := ?o1__16) (v := .bool false) ?h1__16 (by kernel_rfl) (by kernel_rfl) (by kernel_rfl) ?q1__16 ?y1__16 (by assumption) ?_
  case h1__16 => (first | (simp only [gA, gB, gC]; done) | (simp only [gA, gB, gC]; exact rfl))
  case q1__16 => exact fun _ _ _ h => h
  case y1__16 => (refine Or.inl ⟨rfl, ?_⟩; intro w hSw; (first | rfl | (go_simp; (try with_reducible rfl))))
  (try simp only [Act.put, sA, sB, sC])
  refine wpAnyH_take (i := 17) (oi := ?o1__17) (v := undef) ?h1__17 (by kernel_rfl) (by kernel_rfl) (by kernel_rfl) ?q1__17 ?y1__17 (by assumption) ?_
  case h1__17 => (first | (simp only [gA, gB, gC]; done) | (simp only [gA, gB, gC]; exact rfl))
  case q1__17 => exact fun _ _ _ h => h
  case y1__17 => exact Or.inr ⟨rfl, rfl⟩
  (try simp only [Act.put, sA, sB, sC])
  refine wpAnyH_take (i := 18) (oi := ?o1__18) (v := undef) ?h1__18 (by kernel_rfl) (by kernel_rfl) (by kernel_rfl) ?q1__18 ?y1__18 (by assumption) ?_
  case h1__18 => (first | (simp only [gA, gB, gC]; done) | (simp only [gA, gB, gC]; exact rfl))
  case q1__18 => exact fun _ _ _ h => h
  case y1__18 => exact Or.inr ⟨rfl, rfl⟩
  (try simp only [Act.put, sA, sB, sC])
  refine wpAnyH_take (i := 19) (oi := ?o1__19) (v := undef) ?h1__19 (by kernel_rfl) (by kernel_rfl) (by kernel_rfl) ?q1__19 ?y1__19 (by assumption) ?_
  case h1__19 => (first | (simp only [gA, gB, gC]; done) | (simp only [gA, gB, gC]; exact rfl))
  case q1__19 => exact fun _ _ _ h => h
  case y1__19 => exact Or.inr ⟨rfl, rfl⟩
  (try simp only [Act.put, sA, sB, sC])
  refine wpAnyH_take (i := 20) (oi := ?o1__20) (v := .bool false) ?h1__20 (by kernel_rfl) (by kernel_rfl) (by kernel_rfl) ?q1__20 ?y1__20 (by assumption) ?_
  case h1__20 => (first | (simp only [gA, gB, gC]; done) | (simp only [gA, gB, gC]; exact rfl))
  case q1__20 => exact fun _ _ _ h => h
  case y1__20 => (refine Or.inl ⟨rfl, ?_⟩; intro w hSw; (first | rfl | (go_simp; (try with_reducible rfl))))
  (try simp only [Act.put, sA, sB, sC])
  refine wpAnyH_take (i := 21) (oi := ?o1__21) (v := .bool false) ?h1__21 (by kernel_rfl) (by kernel_rfl) (by kernel_rfl) ?q1__21 ?y1__21 (by assumption) ?_
  case h1__21 => (first | (simp only [gA, gB, gC]; done) | (simp only [gA, gB, gC]; exact rfl))
  case q1__21 => exact fun _ _ _ h => h
  case y1__21 => (refine Or.inl ⟨rfl, ?_⟩; intro w hSw; (first | rfl | (go_simp; (try with_reducible rfl))))
  (try simp only [Act.put, sA, sB, sC])
  refine wpAnyH_take (i := 22) (oi := ?o1__22) (v := undef) ?h1__22 (by kernel_rfl) (by kernel_rfl) (by kernel_rfl) ?q1__22 ?y1__22 (by assumption) ?_
  case h1__22 => (first | (simp only [gA, gB, gC]; done) | (simp only [gA, gB, gC]; exact rfl))
  case q1__22 => exact fun _ _ _ h => h
  case y1__22 => exact Or.inr ⟨rfl, rfl⟩
  (try simp only [Act.put, sA, sB, sC])
  refine wpAnyH_take (i := 23) (oi := ?o1__23) (v := undef) ?h1__23 (by kernel_rfl) (by kernel_rfl) (by kernel_rfl) ?q1__23 ?y1__23 (by assumption) ?_
  case h1__23 => (first | (simp only [gA, gB, gC]; done) | (simp only [gA, gB, gC]; exact rfl))
  case q1__23 => exact fun _ _ _ h => h
  case y1__23 => exact Or.inr ⟨rfl, rfl⟩
  (try simp only [Act.put, sA, sB, sC])
  refine wpAnyH_take (i := 24) (oi := ?o1__24) (v := undef) ?h1__24 (by kernel_rfl) (by kernel_rfl) (by kernel_rfl) ?q1__24 ?y1__24 (by assumption) ?_
  case h1__24 => (first | (simp only [gA, gB, gC]; done) | (simp only [gA, gB, gC]; exact rfl))
  case q1__24 => exact fun _ _ _ h => h
  case y1__24 => exact Or.inr ⟨rfl, rfl⟩
  (try simp only [Act.put, sA, sB, sC])
  refine wpAnyH_take (i := 25) (oi := ?o1__25) (v := .bool false) ?h1__25 (by kernel_rfl) (by kernel_rfl) (by kernel_rfl) ?q1__25 ?y1__25 (by assumption) ?_
  case h1__25 => (first | (simp only [gA, gB, gC]; done) | (simp only [gA, gB, gC]; exact rfl))
  case q1__25 => exact fun _ _ _ h => h
  case y1__25 => (refine Or.inl ⟨rfl, ?_⟩; intro w hSw; (first | rfl | (go_simp; (try with_reducible rfl))))
  (try simp only [Act.put, sA, sB, sC])
  refine wpAnyH_take (i := 26) (oi := ?o1__26) (v := .bool false) ?h1__26 (by kernel_rfl) (by kernel_rfl) (by kernel_rfl) ?q1__26 ?y1__26 (by assumption) ?_
  case h1__26 => (first | (simp only [gA, gB, gC]; done) | (simp only [gA, gB, gC]; exact rfl))
  case q1__26 => exact fun _ _ _ h => h
  case y1__26 => (refine Or.inl ⟨rfl, ?_⟩; intro w hSw; (first | rfl | (go_simp; (try with_reducible rfl))))
  (try simp only [Act.put, sA, sB, sC])
  refine wpAnyH_take (i := 27) (oi := ?o1__27) (v := undef) ?h1__27 (by kernel_rfl) (by kernel_rfl) (by kernel_rfl) ?q1__27 ?y1__27 (by assumption) ?_
  case h1__27 => (first | (simp only [gA, gB, gC]; done) | (simp only [gA, gB, gC]; exact rfl))
  case q1__27 => exact fun _ _ _ h => h
  case y1__27 => exact Or.inr ⟨rfl, rfl⟩
  (try simp only [Act.put, sA, sB, sC])
  refine wpAnyH_take (i := 28) (oi := ?o1__28) (v := undef) ?h1__28 (by kernel_rfl) (by kernel_rfl) (by kernel_rfl) ?q1__28 ?y1__28 (by assumption) ?_
  case h1__28 => (first | (simp only [gA, gB, gC]; done) | (simp only [gA, gB, gC]; exact rfl))
  case q1__28 => exact fun _ _ _ h => h
  case y1__28 => exact Or.inr ⟨rfl, rfl⟩
  (try simp only [Act.put, sA, sB, sC])
  refine wpAnyH_take (i := 29) (oi := ?o1__29) (v := undef) ?h1__29 (by kernel_rfl) (by kernel_rfl) (by kernel_rfl) ?q1__29 ?y1__29 (by assumption) ?_
  case h1__29 => (first | (simp only [gA, gB, gC]; done) | (simp only [gA, gB, gC]; exact rfl))
  case q1__29 => exact fun _ _ _ h => h
  case y1__29 => exact Or.inr ⟨rfl, rfl⟩
  (try simp only [Act.put, sA, sB, sC])
  refine wpAnyH_take (i := 30) (oi := ?o1__30) (v := .bool false) ?h1__30 (by kernel_rfl) (by kernel_rfl) (by kernel_rfl) ?q1__30 ?y1__30 (by assumption) ?_
  case h1__30 => (first | (simp only [gA, gB, gC]; done) | (simp only [gA, gB, gC]; exact rfl))
  case q1__30 => exact fun _ _ _ h => h
  case y1__30 => (refine Or.inl ⟨rfl, ?_⟩; intro w hSw; (first | rfl | (go_simp; (try with_reducible rfl))))
  (try simp only [Act.put, sA, sB, sC])
  refine wpAnyH_take (i := 31) (oi := ?o1__31) (v := .bool false) ?h1__31 (by kernel_rfl) (by kernel_rfl) (by kernel_rfl) ?q1__31 ?y1__31 (by assumption) ?_
  case h1__31 => (first | (simp only [gA, gB, gC]; done) | (simp only [gA, gB, gC]; exact rfl))
  case q1__31 => exact fun _ _ _ h => h
  case y1__31 => (refine Or.inl ⟨rfl, ?_⟩; intro w hSw; (first | rfl | (go_simp; (try with_reducible rfl))))
  (try simp only [Act.put, sA, sB, sC])
  refine wpAnyH_done (by kernel_rfl) ?_ _
  have HSd1 := Lib.hid hHeld.1
  have HBLd1 := Lib.hid (hHeld.2.1)
  have HBQd1 := Lib.hid (hHeld.2.2)
  clear hHeld HRK HRD HS1 HBL1 HBQ1
  (try go_wp2_with fail)
  go_ret
  exact ⟨rfl, HSd1.out⟩
set_option maxHeartbeats 4000000 in
theorem good0 (t : Nat) (c : CfgV) (ls : List LeaseV) (A : Option Addr) (cap : Nat) (l : LeaseV) (w : World) (hq : Blk w t 101 (tabC c (.slice A ls.length cap))) (hm : mayB c (askOf l) = true) (h0 : ¬ (0 ≤ l.ca)) : Calls Try.prog 72 #[.pointer (some ⟨t, 0, none⟩), .agg #[.int .i64 l.se, .int .i64 l.fl, .int .i64 l.fm, .int .i64 l.to, .int .i64 l.ma, .int .i64 l.ca, .int .i64 l.ph, .int .i64 l.un, .int .i64 l.re, .int .i64 l.gr]] w fun e w' => e = .returned (.bool false) ∧ Since w w' := by
  have HBQ := Lib.hid (show Blk w t 101 #[.int .i64 c.ca, .int .i64 c.fl, .int .i64 c.ft, .int .i64 c.se, .int .i64 c.dr, .int .i64 c.dw, .int .i64 c.ho, .int .i64 c.re, .int .i64 c.yi, .int .i64 c.qu, .int .i64 c.qo, .int .i64 c.lo, .int .i64 c.sl, .int .i64 c.rt, .int .i64 c.cp, .int .i64 c.tr, .int .i64 c.de, .int .i64 c.wi, .slice A ls.length cap] from hq)
  clear hq
  have HM := Lib.hid hm
  clear hm
  have H0 := Lib.hid h0
  clear h0
  go_enter Try.func72, Try.ntmps72
  go_upto_region 1 with fail
  obtain ⟨w1, hw1⟩ : ∃ w1, w1 = (w.alloc (.cells #[.int .i64 l.se, .int .i64 l.fl, .int .i64 l.fm, .int .i64 l.to, .int .i64 l.ma, .int .i64 l.ca, .int .i64 l.ph, .int .i64 l.un, .int .i64 l.re, .int .i64 l.gr] 56)) := ⟨_, rfl⟩
  rw [← hw1]
  have HBL1 := Lib.hid (show Blk w1 (w.heap.size) 56 #[.int .i64 l.se, .int .i64 l.fl, .int .i64 l.fm, .int .i64 l.to, .int .i64 l.ma, .int .i64 l.ca, .int .i64 l.ph, .int .i64 l.un, .int .i64 l.re, .int .i64 l.gr] by rw [hw1]; exact Blk.at_ (by (try simp only [size_alloc])) _ _)
  have HS1 := Lib.hid (show Since w w1 by rw [hw1]; exact Since.alloc (Since.refl w) _)
  have hNE : w.heap.size ≤ w.heap.size := by omega
  have HNE := Lib.hid hNE
  clear hNE hw1
  have HNE3 := Lib.hid (show w.heap.size ≤ w.heap.size from HNE.out)
  clear HNE
  have HBQ1 := Lib.hid (keep_blk HS1.out HBQ.out)
  clear HBQ
  have hrK : ∀ W W' : World, Since W W' → (Since w W ∧ Blk W w.heap.size 56 #[.int .i64 l.se, .int .i64 l.fl, .int .i64 l.fm, .int .i64 l.to, .int .i64 l.ma, .int .i64 l.ca, .int .i64 l.ph, .int .i64 l.un, .int .i64 l.re, .int .i64 l.gr] ∧ Blk W t 101 #[.int .i64 c.ca, .int .i64 c.fl, .int .i64 c.ft, .int .i64 c.se, .int .i64 c.dr, .int .i64 c.dw, .int .i64 c.ho, .int .i64 c.re, .int .i64 c.yi, .int .i64 c.qu, .int .i64 c.qo, .int .i64 c.lo, .int .i64 c.sl, .int .i64 c.rt, .int .i64 c.cp, .int .i64 c.tr, .int .i64 c.de, .int .i64 c.wi, .slice A ls.length cap]) → (Since w W' ∧ Blk W' w.heap.size 56 #[.int .i64 l.se, .int .i64 l.fl, .int .i64 l.fm, .int .i64 l.to, .int .i64 l.ma, .int .i64 l.ca, .int .i64 l.ph, .int .i64 l.un, .int .i64 l.re, .int .i64 l.gr] ∧ Blk W' t 101 #[.int .i64 c.ca, .int .i64 c.fl, .int .i64 c.ft, .int .i64 c.se, .int .i64 c.dr, .int .i64 c.dw, .int .i64 c.ho, .int .i64 c.re, .int .i64 c.yi, .int .i64 c.qu, .int .i64 c.qo, .int .i64 c.lo, .int .i64 c.sl, .int .i64 c.rt, .int .i64 c.cp, .int .i64 c.tr, .int .i64 c.de, .int .i64 c.wi, .slice A ls.length cap]) := fun W W' k ⟨h, h0, h1⟩ => ⟨h.trans k, keep_blk k h0, keep_blk k h1⟩
  have hrS : (fun W : World => Since w W ∧ Blk W w.heap.size 56 #[.int .i64 l.se, .int .i64 l.fl, .int .i64 l.fm, .int .i64 l.to, .int .i64 l.ma, .int .i64 l.ca, .int .i64 l.ph, .int .i64 l.un, .int .i64 l.re, .int .i64 l.gr] ∧ Blk W t 101 #[.int .i64 c.ca, .int .i64 c.fl, .int .i64 c.ft, .int .i64 c.se, .int .i64 c.dr, .int .i64 c.dw, .int .i64 c.ho, .int .i64 c.re, .int .i64 c.yi, .int .i64 c.qu, .int .i64 c.qo, .int .i64 c.lo, .int .i64 c.sl, .int .i64 c.rt, .int .i64 c.cp, .int .i64 c.tr, .int .i64 c.de, .int .i64 c.wi, .slice A ls.length cap]) w1 := ⟨HS1.out, HBL1.out, HBQ1.out⟩
  have HRK := Lib.hid hrK
  have HRD := Lib.hid (show (fun W : World => Since w W ∧ Blk W w.heap.size 56 #[.int .i64 l.se, .int .i64 l.fl, .int .i64 l.fm, .int .i64 l.to, .int .i64 l.ma, .int .i64 l.ca, .int .i64 l.ph, .int .i64 l.un, .int .i64 l.re, .int .i64 l.gr] ∧ Blk W t 101 #[.int .i64 c.ca, .int .i64 c.fl, .int .i64 c.ft, .int .i64 c.se, .int .i64 c.dr, .int .i64 c.dw, .int .i64 c.ho, .int .i64 c.re, .int .i64 c.yi, .int .i64 c.qu, .int .i64 c.qo, .int .i64 c.lo, .int .i64 c.sl, .int .i64 c.rt, .int .i64 c.cp, .int .i64 c.tr, .int .i64 c.de, .int .i64 c.wi, .slice A ls.length cap]) (World.drew w1) from ⟨Since.drew hrS.1, hrS.2⟩)
  clear hrK hrS
  refine wp_region_held_drew (S := fun W : World => Since w W ∧ Blk W w.heap.size 56 #[.int .i64 l.se, .int .i64 l.fl, .int .i64 l.fm, .int .i64 l.to, .int .i64 l.ma, .int .i64 l.ca, .int .i64 l.ph, .int .i64 l.un, .int .i64 l.re, .int .i64 l.gr] ∧ Blk W t 101 #[.int .i64 c.ca, .int .i64 c.fl, .int .i64 c.ft, .int .i64 c.se, .int .i64 c.dr, .int .i64 c.dw, .int .i64 c.ho, .int .i64 c.re, .int .i64 c.yi, .int .i64 c.qu, .int .i64 c.qo, .int .i64 c.lo, .int .i64 c.sl, .int .i64 c.rt, .int .i64 c.cp, .int .i64 c.tr, .int .i64 c.de, .int .i64 c.wi, .slice A ls.length cap]) (by kernel_rfl) HRD.out (fun hHeld => ?_)
  refine wpAnyH_take (i := 0) (oi := ?o1__0) (v := .pointer (some ⟨t, 0, none⟩)) ?h1__0 (by kernel_rfl) (by kernel_rfl) (by kernel_rfl) ?q1__0 ?y1__0 (by assumption) ?_
  case h1__0 => (first | (simp only [gA, gB, gC]; done) | (simp only [gA, gB, gC]; exact rfl))
  case q1__0 => exact fun _ _ _ h => h
  case y1__0 => (refine Or.inl ⟨rfl, ?_⟩; intro w hSw; (first | rfl | (go_simp; (try with_reducible rfl))))
  (try simp only [Act.put, sA, sB, sC])
  refine wpAnyH_take (i := 1) (oi := ?o1__1) (v := .bool true) ?h1__1 (by kernel_rfl) (by kernel_rfl) (by kernel_rfl) ?q1__1 ?y1__1 (by assumption) ?_
  case h1__1 => (first | (simp only [gA, gB, gC]; done) | (simp only [gA, gB, gC]; exact rfl))
  case q1__1 => exact fun _ _ _ h => h
  case y1__1 => (refine Or.inl ⟨rfl, ?_⟩; intro w hSw; (first | rfl | (go_simp; (try with_reducible rfl))))
  (try simp only [Act.put, sA, sB, sC])
  refine wpAnyH_take (i := 2) (oi := ?o1__2) (v := .bool true) ?h1__2 (by kernel_rfl) (by kernel_rfl) (by kernel_rfl) ?q1__2 ?y1__2 (by assumption) ?_
  case h1__2 => (first | (simp only [gA, gB, gC]; done) | (simp only [gA, gB, gC]; exact rfl))
  case q1__2 => exact fun _ _ _ h => h
  case y1__2 => (refine Or.inl ⟨rfl, ?_⟩; intro w hSw; (first | rfl | (go_simp; (try with_reducible rfl))))
  (try simp only [Act.put, sA, sB, sC])
  refine wpAnyH_take (i := 3) (oi := ?o1__3) (v := .pointer (some ⟨t, 0, none⟩)) ?h1__3 (by kernel_rfl) (by kernel_rfl) (by kernel_rfl) ?q1__3 ?y1__3 (by assumption) ?_
  case h1__3 => (first | (simp only [gA, gB, gC]; done) | (simp only [gA, gB, gC]; exact rfl))
  case q1__3 => exact fun _ _ _ h => h
  case y1__3 => (refine Or.inl ⟨rfl, ?_⟩; intro w hSw; (first | rfl | (go_simp; (try with_reducible rfl))))
  (try simp only [Act.put, sA, sB, sC])
  refine wpAnyH_take (i := 4) (oi := ?o1__4) (v := .pointer (some ⟨t, 0, none⟩)) ?h1__4 (by kernel_rfl) (by kernel_rfl) (by kernel_rfl) ?q1__4 ?y1__4 (by assumption) ?_
  case h1__4 => (first | (simp only [gA, gB, gC]; done) | (simp only [gA, gB, gC]; exact rfl))
  case q1__4 => exact fun _ _ _ h => h
  case y1__4 => (refine Or.inl ⟨rfl, ?_⟩; intro w hSw; (first | rfl | (go_simp; (try with_reducible rfl))))
  (try simp only [Act.put, sA, sB, sC])
  refine wpAnyH_take (i := 5) (oi := ?o1__5) (v := .pointer (some ⟨t, 0, none⟩)) ?h1__5 (by kernel_rfl) (by kernel_rfl) (by kernel_rfl) ?q1__5 ?y1__5 (by assumption) ?_
  case h1__5 => (first | (simp only [gA, gB, gC]; done) | (simp only [gA, gB, gC]; exact rfl))
  case q1__5 => exact fun _ _ _ h => h
  case y1__5 => (refine Or.inl ⟨rfl, ?_⟩; intro w hSw; (first | rfl | (go_simp; (try with_reducible rfl))))
  (try simp only [Act.put, sA, sB, sC])
  refine wpAnyH_take (i := 6) (oi := ?o1__6) (v := .agg #[.int .i64 c.ca, .int .i64 c.fl, .int .i64 c.ft, .int .i64 c.se, .int .i64 c.dr, .int .i64 c.dw, .int .i64 c.ho, .int .i64 c.re, .int .i64 c.yi, .int .i64 c.qu, .int .i64 c.qo, .int .i64 c.lo, .int .i64 c.sl, .int .i64 c.rt, .int .i64 c.cp, .int .i64 c.tr, .int .i64 c.de, .int .i64 c.wi]) ?h1__6 (by kernel_rfl) (by kernel_rfl) (by kernel_rfl) ?q1__6 ?y1__6 (by assumption) ?_
  case h1__6 => (first | (simp only [gA, gB, gC]; done) | (simp only [gA, gB, gC]; exact rfl))
  case q1__6 => exact fun _ _ _ h => h
  case y1__6 => (refine Or.inl ⟨rfl, ?_⟩; intro w hSw; exact exec_part (n := 18) 23 _ _ hSw.2.2 rfl rfl rfl rfl Try.underlying23 rfl (by kernel_rfl))
  (try simp only [Act.put, sA, sB, sC])
  refine wpAnyH_take (i := 7) (oi := ?o1__7) (v := .pointer (some ⟨w.heap.size, 0, none⟩)) ?h1__7 (by kernel_rfl) (by kernel_rfl) (by kernel_rfl) ?q1__7 ?y1__7 (by assumption) ?_
  case h1__7 => (first | (simp only [gA, gB, gC]; done) | (simp only [gA, gB, gC]; exact rfl))
  case q1__7 => exact fun _ _ _ h => h
  case y1__7 => (refine Or.inl ⟨rfl, ?_⟩; intro w hSw; (first | rfl | (go_simp; (try with_reducible rfl))))
  (try simp only [Act.put, sA, sB, sC])
  refine wpAnyH_take (i := 8) (oi := ?o1__8) (v := .agg #[.int .i64 l.se, .int .i64 l.fl, .int .i64 l.fm, .int .i64 l.to, .int .i64 l.ma]) ?h1__8 (by kernel_rfl) (by kernel_rfl) (by kernel_rfl) ?q1__8 ?y1__8 (by assumption) ?_
  case h1__8 => (first | (simp only [gA, gB, gC]; done) | (simp only [gA, gB, gC]; exact rfl))
  case q1__8 => exact fun _ _ _ h => h
  case y1__8 => (refine Or.inl ⟨rfl, ?_⟩; intro w hSw; exact exec_part (n := 5) 30 _ _ hSw.2.1 rfl rfl rfl rfl Try.underlying30 rfl (by kernel_rfl))
  (try simp only [Act.put, sA, sB, sC])
  refine wpAnyH_ready (rs := [9]) (by kernel_rfl) (by simp) ?_
  refine AllReadyH.cons (o := ?o1__9) ?h1__9 (fun K hK => ?_) AllReadyH.nil
  case h1__9 => (first | (simp only [gA, gB, gC]; done) | (simp only [gA, gB, gC]; exact rfl))
  (try go_simp)
  refine (mayV c l true _ HM.out).mono ?_
  rintro e w2 ⟨rfl, hb⟩
  (try go_wp2_with fail)
  refine hK.out _ _ (by (apply HRK.out; exact hb; exact hHeld)) (fun hHeld2 => ?_)
  clear hK K hHeld hb
  have hHeld := hHeld2
  clear hHeld2
  (try simp only [Act.put, sA, sB, sC])
  refine wpAnyH_take (i := 10) (oi := ?o1__10) (v := .bool true) ?h1__10 (by kernel_rfl) (by kernel_rfl) (by kernel_rfl) ?q1__10 ?y1__10 (by assumption) ?_
  case h1__10 => (first | (simp only [gA, gB, gC]; done) | (simp only [gA, gB, gC]; exact rfl))
  case q1__10 => exact fun _ _ _ h => h
  case y1__10 => (refine Or.inl ⟨rfl, ?_⟩; intro w hSw; (first | rfl | (go_simp; (try with_reducible rfl))))
  (try simp only [Act.put, sA, sB, sC])
  refine wpAnyH_take (i := 11) (oi := ?o1__11) (v := .bool true) ?h1__11 (by kernel_rfl) (by kernel_rfl) (by kernel_rfl) ?q1__11 ?y1__11 (by assumption) ?_
  case h1__11 => (first | (simp only [gA, gB, gC]; done) | (simp only [gA, gB, gC]; exact rfl))
  case q1__11 => exact fun _ _ _ h => h
  case y1__11 => (refine Or.inl ⟨rfl, ?_⟩; intro w hSw; (first | rfl | (go_simp; (try with_reducible rfl))))
  (try simp only [Act.put, sA, sB, sC])
  refine wpAnyH_take (i := 12) (oi := ?o1__12) (v := .pointer (some ⟨w.heap.size, 5, none⟩)) ?h1__12 (by kernel_rfl) (by kernel_rfl) (by kernel_rfl) ?q1__12 ?y1__12 (by assumption) ?_
  case h1__12 => (first | (simp only [gA, gB, gC]; done) | (simp only [gA, gB, gC]; exact rfl))
  case q1__12 => exact fun _ _ _ h => h
  case y1__12 => (refine Or.inl ⟨rfl, ?_⟩; intro w hSw; (first | rfl | (go_simp; (try with_reducible rfl))))
  (try simp only [Act.put, sA, sB, sC])
  refine wpAnyH_take (i := 13) (oi := ?o1__13) (v := .int .i64 l.ca) ?h1__13 (by kernel_rfl) (by kernel_rfl) (by kernel_rfl) ?q1__13 ?y1__13 (by assumption) ?_
  case h1__13 => (first | (simp only [gA, gB, gC]; done) | (simp only [gA, gB, gC]; exact rfl))
  case q1__13 => exact fun _ _ _ h => h
  case y1__13 => (refine Or.inl ⟨rfl, ?_⟩; intro w hSw; exact exec_cell 3 _ _ hSw.2.1 rfl rfl rfl Try.underlying3 rfl)
  (try simp only [Act.put, sA, sB, sC])
  refine wpAnyH_take (i := 14) (oi := ?o1__14) (v := .bool false) ?h1__14 (by kernel_rfl) (by kernel_rfl) (by kernel_rfl) ?q1__14 ?y1__14 (by assumption) ?_
  case h1__14 => (first | (simp only [gA, gB, gC]; done) | (simp only [gA, gB, gC]; exact rfl))
  case q1__14 => exact fun _ _ _ h => h
  case y1__14 => (refine Or.inl ⟨rfl, ?_⟩; intro w hSw; (have q0 := H0.out; go_simp; (first | done | rfl | omega)))
  (try simp only [Act.put, sA, sB, sC])
  refine wpAnyH_take (i := 15) (oi := ?o1__15) (v := .bool false) ?h1__15 (by kernel_rfl) (by kernel_rfl) (by kernel_rfl) ?q1__15 ?y1__15 (by assumption) ?_
  case h1__15 => (first | (simp only [gA, gB, gC]; done) | (simp only [gA, gB, gC]; exact rfl))
  case q1__15 => exact fun _ _ _ h => h
  case y1__15 => (refine Or.inl ⟨rfl, ?_⟩; intro w hSw; (first | rfl | (go_simp; (try with_reducible rfl))))
  (try simp only [Act.put, sA, sB, sC])
  refine wpAnyH_take (i := 16) (oi := ?o1__16) (v := .bool false) ?h1__16 (by kernel_rfl) (by kernel_rfl) (by kernel_rfl) ?q1__16 ?y1__16 (by assumption) ?_
  case h1__16 => (first | (simp only [gA, gB, gC]; done) | (simp only [gA, gB, gC]; exact rfl))
  case q1__16 => exact fun _ _ _ h => h
  case y1__16 => (refine Or.inl ⟨rfl, ?_⟩; intro w hSw; (first | rfl | (go_simp; (try with_reducible rfl))))
  (try simp only [Act.put, sA, sB, sC])
  refine wpAnyH_take (i := 17) (oi := ?o1__17) (v := undef) ?h1__17 (by kernel_rfl) (by kernel_rfl) (by kernel_rfl) ?q1__17 ?y1__17 (by assumption) ?_
  case h1__17 => (first | (simp only [gA, gB, gC]; done) | (simp only [gA, gB, gC]; exact rfl))
  case q1__17 => exact fun _ _ _ h => h
  case y1__17 => exact Or.inr ⟨rfl, rfl⟩
  (try simp only [Act.put, sA, sB, sC])
  refine wpAnyH_take (i := 18) (oi := ?o1__18) (v := undef) ?h1__18 (by kernel_rfl) (by kernel_rfl) (by kernel_rfl) ?q1__18 ?y1__18 (by assumption) ?_
  case h1__18 => (first | (simp only [gA, gB, gC]; done) | (simp only [gA, gB, gC]; exact rfl))
  case q1__18 => exact fun _ _ _ h => h
  case y1__18 => exact Or.inr ⟨rfl, rfl⟩
  (try simp only [Act.put, sA, sB, sC])
  refine wpAnyH_take (i := 19) (oi := ?o1__19) (v := undef) ?h1__19 (by kernel_rfl) (by kernel_rfl) (by kernel_rfl) ?q1__19 ?y1__19 (by assumption) ?_
  case h1__19 => (first | (simp only [gA, gB, gC]; done) | (simp only [gA, gB, gC]; exact rfl))
  case q1__19 => exact fun _ _ _ h => h
  case y1__19 => exact Or.inr ⟨rfl, rfl⟩
  (try simp only [Act.put, sA, sB, sC])
  refine wpAnyH_take (i := 20) (oi := ?o1__20) (v := .bool false) ?h1__20 (by kernel_rfl) (by kernel_rfl) (by kernel_rfl) ?q1__20 ?y1__20 (by assumption) ?_
  case h1__20 => (first | (simp only [gA, gB, gC]; done) | (simp only [gA, gB, gC]; exact rfl))
  case q1__20 => exact fun _ _ _ h => h
  case y1__20 => (refine Or.inl ⟨rfl, ?_⟩; intro w hSw; (first | rfl | (go_simp; (try with_reducible rfl))))
  (try simp only [Act.put, sA, sB, sC])
  refine wpAnyH_take (i := 21) (oi := ?o1__21) (v := .bool false) ?h1__21 (by kernel_rfl) (by kernel_rfl) (by kernel_rfl) ?q1__21 ?y1__21 (by assumption) ?_
  case h1__21 => (first | (simp only [gA, gB, gC]; done) | (simp only [gA, gB, gC]; exact rfl))
  case q1__21 => exact fun _ _ _ h => h
  case y1__21 => (refine Or.inl ⟨rfl, ?_⟩; intro w hSw; (first | rfl | (go_simp; (try with_reducible rfl))))
  (try simp only [Act.put, sA, sB, sC])
  refine wpAnyH_take (i := 22) (oi := ?o1__22) (v := undef) ?h1__22 (by kernel_rfl) (by kernel_rfl) (by kernel_rfl) ?q1__22 ?y1__22 (by assumption) ?_
  case h1__22 => (first | (simp only [gA, gB, gC]; done) | (simp only [gA, gB, gC]; exact rfl))
  case q1__22 => exact fun _ _ _ h => h
  case y1__22 => exact Or.inr ⟨rfl, rfl⟩
  (try simp only [Act.put, sA, sB, sC])
  refine wpAnyH_take (i := 23) (oi := ?o1__23) (v := undef) ?h1__23 (by kernel_rfl) (by kernel_rfl) (by kernel_rfl) ?q1__23 ?y1__23 (by assumption) ?_
  case h1__23 => (first | (simp only [gA, gB, gC]; done) | (simp only [gA, gB, gC]; exact rfl))
  case q1__23 => exact fun _ _ _ h => h
  case y1__23 => exact Or.inr ⟨rfl, rfl⟩
  (try simp only [Act.put, sA, sB, sC])
  refine wpAnyH_take (i := 24) (oi := ?o1__24) (v := undef) ?h1__24 (by kernel_rfl) (by kernel_rfl) (by kernel_rfl) ?q1__24 ?y1__24 (by assumption) ?_
  case h1__24 => (first | (simp only [gA, gB, gC]; done) | (simp only [gA, gB, gC]; exact rfl))
  case q1__24 => exact fun _ _ _ h => h
  case y1__24 => exact Or.inr ⟨rfl, rfl⟩
  (try simp only [Act.put, sA, sB, sC])
  refine wpAnyH_take (i := 25) (oi := ?o1__25) (v := .bool false) ?h1__25 (by kernel_rfl) (by kernel_rfl) (by kernel_rfl) ?q1__25 ?y1__25 (by assumption) ?_
  case h1__25 => (first | (simp only [gA, gB, gC]; done) | (simp only [gA, gB, gC]; exact rfl))
  case q1__25 => exact fun _ _ _ h => h
  case y1__25 => (refine Or.inl ⟨rfl, ?_⟩; intro w hSw; (first | rfl | (go_simp; (try with_reducible rfl))))
  (try simp only [Act.put, sA, sB, sC])
  refine wpAnyH_take (i := 26) (oi := ?o1__26) (v := .bool false) ?h1__26 (by kernel_rfl) (by kernel_rfl) (by kernel_rfl) ?q1__26 ?y1__26 (by assumption) ?_
  case h1__26 => (first | (simp only [gA, gB, gC]; done) | (simp only [gA, gB, gC]; exact rfl))
  case q1__26 => exact fun _ _ _ h => h
  case y1__26 => (refine Or.inl ⟨rfl, ?_⟩; intro w hSw; (first | rfl | (go_simp; (try with_reducible rfl))))
  (try simp only [Act.put, sA, sB, sC])
  refine wpAnyH_take (i := 27) (oi := ?o1__27) (v := undef) ?h1__27 (by kernel_rfl) (by kernel_rfl) (by kernel_rfl) ?q1__27 ?y1__27 (by assumption) ?_
  case h1__27 => (first | (simp only [gA, gB, gC]; done) | (simp only [gA, gB, gC]; exact rfl))
  case q1__27 => exact fun _ _ _ h => h
  case y1__27 => exact Or.inr ⟨rfl, rfl⟩
  (try simp only [Act.put, sA, sB, sC])
  refine wpAnyH_take (i := 28) (oi := ?o1__28) (v := undef) ?h1__28 (by kernel_rfl) (by kernel_rfl) (by kernel_rfl) ?q1__28 ?y1__28 (by assumption) ?_
  case h1__28 => (first | (simp only [gA, gB, gC]; done) | (simp only [gA, gB, gC]; exact rfl))
  case q1__28 => exact fun _ _ _ h => h
  case y1__28 => exact Or.inr ⟨rfl, rfl⟩
  (try simp only [Act.put, sA, sB, sC])
  refine wpAnyH_take (i := 29) (oi := ?o1__29) (v := undef) ?h1__29 (by kernel_rfl) (by kernel_rfl) (by kernel_rfl) ?q1__29 ?y1__29 (by assumption) ?_
  case h1__29 => (first | (simp only [gA, gB, gC]; done) | (simp only [gA, gB, gC]; exact rfl))
  case q1__29 => exact fun _ _ _ h => h
  case y1__29 => exact Or.inr ⟨rfl, rfl⟩
  (try simp only [Act.put, sA, sB, sC])
  refine wpAnyH_take (i := 30) (oi := ?o1__30) (v := .bool false) ?h1__30 (by kernel_rfl) (by kernel_rfl) (by kernel_rfl) ?q1__30 ?y1__30 (by assumption) ?_
  case h1__30 => (first | (simp only [gA, gB, gC]; done) | (simp only [gA, gB, gC]; exact rfl))
  case q1__30 => exact fun _ _ _ h => h
  case y1__30 => (refine Or.inl ⟨rfl, ?_⟩; intro w hSw; (first | rfl | (go_simp; (try with_reducible rfl))))
  (try simp only [Act.put, sA, sB, sC])
  refine wpAnyH_take (i := 31) (oi := ?o1__31) (v := .bool false) ?h1__31 (by kernel_rfl) (by kernel_rfl) (by kernel_rfl) ?q1__31 ?y1__31 (by assumption) ?_
  case h1__31 => (first | (simp only [gA, gB, gC]; done) | (simp only [gA, gB, gC]; exact rfl))
  case q1__31 => exact fun _ _ _ h => h
  case y1__31 => (refine Or.inl ⟨rfl, ?_⟩; intro w hSw; (first | rfl | (go_simp; (try with_reducible rfl))))
  (try simp only [Act.put, sA, sB, sC])
  refine wpAnyH_done (by kernel_rfl) ?_ _
  have HSd1 := Lib.hid hHeld.1
  have HBLd1 := Lib.hid (hHeld.2.1)
  have HBQd1 := Lib.hid (hHeld.2.2)
  clear hHeld HRK HRD HS1 HBL1 HBQ1
  (try go_wp2_with fail)
  go_ret
  exact ⟨rfl, HSd1.out⟩
set_option maxHeartbeats 4000000 in
theorem good1 (t : Nat) (c : CfgV) (ls : List LeaseV) (A : Option Addr) (cap : Nat) (l : LeaseV) (w : World) (hq : Blk w t 101 (tabC c (.slice A ls.length cap))) (hm : mayB c (askOf l) = true) (h0 : 0 ≤ l.ca) (h1 : ¬ (l.ca < 8)) : Calls Try.prog 72 #[.pointer (some ⟨t, 0, none⟩), .agg #[.int .i64 l.se, .int .i64 l.fl, .int .i64 l.fm, .int .i64 l.to, .int .i64 l.ma, .int .i64 l.ca, .int .i64 l.ph, .int .i64 l.un, .int .i64 l.re, .int .i64 l.gr]] w fun e w' => e = .returned (.bool false) ∧ Since w w' := by
  have HBQ := Lib.hid (show Blk w t 101 #[.int .i64 c.ca, .int .i64 c.fl, .int .i64 c.ft, .int .i64 c.se, .int .i64 c.dr, .int .i64 c.dw, .int .i64 c.ho, .int .i64 c.re, .int .i64 c.yi, .int .i64 c.qu, .int .i64 c.qo, .int .i64 c.lo, .int .i64 c.sl, .int .i64 c.rt, .int .i64 c.cp, .int .i64 c.tr, .int .i64 c.de, .int .i64 c.wi, .slice A ls.length cap] from hq)
  clear hq
  have HM := Lib.hid hm
  clear hm
  have H0 := Lib.hid h0
  clear h0
  have H1 := Lib.hid h1
  clear h1
  go_enter Try.func72, Try.ntmps72
  go_upto_region 1 with fail
  obtain ⟨w1, hw1⟩ : ∃ w1, w1 = (w.alloc (.cells #[.int .i64 l.se, .int .i64 l.fl, .int .i64 l.fm, .int .i64 l.to, .int .i64 l.ma, .int .i64 l.ca, .int .i64 l.ph, .int .i64 l.un, .int .i64 l.re, .int .i64 l.gr] 56)) := ⟨_, rfl⟩
  rw [← hw1]
  have HBL1 := Lib.hid (show Blk w1 (w.heap.size) 56 #[.int .i64 l.se, .int .i64 l.fl, .int .i64 l.fm, .int .i64 l.to, .int .i64 l.ma, .int .i64 l.ca, .int .i64 l.ph, .int .i64 l.un, .int .i64 l.re, .int .i64 l.gr] by rw [hw1]; exact Blk.at_ (by (try simp only [size_alloc])) _ _)
  have HS1 := Lib.hid (show Since w w1 by rw [hw1]; exact Since.alloc (Since.refl w) _)
  have hNE : w.heap.size ≤ w.heap.size := by omega
  have HNE := Lib.hid hNE
  clear hNE hw1
  have HNE3 := Lib.hid (show w.heap.size ≤ w.heap.size from HNE.out)
  clear HNE
  have HBQ1 := Lib.hid (keep_blk HS1.out HBQ.out)
  clear HBQ
  have hrK : ∀ W W' : World, Since W W' → (Since w W ∧ Blk W w.heap.size 56 #[.int .i64 l.se, .int .i64 l.fl, .int .i64 l.fm, .int .i64 l.to, .int .i64 l.ma, .int .i64 l.ca, .int .i64 l.ph, .int .i64 l.un, .int .i64 l.re, .int .i64 l.gr] ∧ Blk W t 101 #[.int .i64 c.ca, .int .i64 c.fl, .int .i64 c.ft, .int .i64 c.se, .int .i64 c.dr, .int .i64 c.dw, .int .i64 c.ho, .int .i64 c.re, .int .i64 c.yi, .int .i64 c.qu, .int .i64 c.qo, .int .i64 c.lo, .int .i64 c.sl, .int .i64 c.rt, .int .i64 c.cp, .int .i64 c.tr, .int .i64 c.de, .int .i64 c.wi, .slice A ls.length cap]) → (Since w W' ∧ Blk W' w.heap.size 56 #[.int .i64 l.se, .int .i64 l.fl, .int .i64 l.fm, .int .i64 l.to, .int .i64 l.ma, .int .i64 l.ca, .int .i64 l.ph, .int .i64 l.un, .int .i64 l.re, .int .i64 l.gr] ∧ Blk W' t 101 #[.int .i64 c.ca, .int .i64 c.fl, .int .i64 c.ft, .int .i64 c.se, .int .i64 c.dr, .int .i64 c.dw, .int .i64 c.ho, .int .i64 c.re, .int .i64 c.yi, .int .i64 c.qu, .int .i64 c.qo, .int .i64 c.lo, .int .i64 c.sl, .int .i64 c.rt, .int .i64 c.cp, .int .i64 c.tr, .int .i64 c.de, .int .i64 c.wi, .slice A ls.length cap]) := fun W W' k ⟨h, h0, h1⟩ => ⟨h.trans k, keep_blk k h0, keep_blk k h1⟩
  have hrS : (fun W : World => Since w W ∧ Blk W w.heap.size 56 #[.int .i64 l.se, .int .i64 l.fl, .int .i64 l.fm, .int .i64 l.to, .int .i64 l.ma, .int .i64 l.ca, .int .i64 l.ph, .int .i64 l.un, .int .i64 l.re, .int .i64 l.gr] ∧ Blk W t 101 #[.int .i64 c.ca, .int .i64 c.fl, .int .i64 c.ft, .int .i64 c.se, .int .i64 c.dr, .int .i64 c.dw, .int .i64 c.ho, .int .i64 c.re, .int .i64 c.yi, .int .i64 c.qu, .int .i64 c.qo, .int .i64 c.lo, .int .i64 c.sl, .int .i64 c.rt, .int .i64 c.cp, .int .i64 c.tr, .int .i64 c.de, .int .i64 c.wi, .slice A ls.length cap]) w1 := ⟨HS1.out, HBL1.out, HBQ1.out⟩
  have HRK := Lib.hid hrK
  have HRD := Lib.hid (show (fun W : World => Since w W ∧ Blk W w.heap.size 56 #[.int .i64 l.se, .int .i64 l.fl, .int .i64 l.fm, .int .i64 l.to, .int .i64 l.ma, .int .i64 l.ca, .int .i64 l.ph, .int .i64 l.un, .int .i64 l.re, .int .i64 l.gr] ∧ Blk W t 101 #[.int .i64 c.ca, .int .i64 c.fl, .int .i64 c.ft, .int .i64 c.se, .int .i64 c.dr, .int .i64 c.dw, .int .i64 c.ho, .int .i64 c.re, .int .i64 c.yi, .int .i64 c.qu, .int .i64 c.qo, .int .i64 c.lo, .int .i64 c.sl, .int .i64 c.rt, .int .i64 c.cp, .int .i64 c.tr, .int .i64 c.de, .int .i64 c.wi, .slice A ls.length cap]) (World.drew w1) from ⟨Since.drew hrS.1, hrS.2⟩)
  clear hrK hrS
  refine wp_region_held_drew (S := fun W : World => Since w W ∧ Blk W w.heap.size 56 #[.int .i64 l.se, .int .i64 l.fl, .int .i64 l.fm, .int .i64 l.to, .int .i64 l.ma, .int .i64 l.ca, .int .i64 l.ph, .int .i64 l.un, .int .i64 l.re, .int .i64 l.gr] ∧ Blk W t 101 #[.int .i64 c.ca, .int .i64 c.fl, .int .i64 c.ft, .int .i64 c.se, .int .i64 c.dr, .int .i64 c.dw, .int .i64 c.ho, .int .i64 c.re, .int .i64 c.yi, .int .i64 c.qu, .int .i64 c.qo, .int .i64 c.lo, .int .i64 c.sl, .int .i64 c.rt, .int .i64 c.cp, .int .i64 c.tr, .int .i64 c.de, .int .i64 c.wi, .slice A ls.length cap]) (by kernel_rfl) HRD.out (fun hHeld => ?_)
  refine wpAnyH_take (i := 0) (oi := ?o1__0) (v := .pointer (some ⟨t, 0, none⟩)) ?h1__0 (by kernel_rfl) (by kernel_rfl) (by kernel_rfl) ?q1__0 ?y1__0 (by assumption) ?_
  case h1__0 => (first | (simp only [gA, gB, gC]; done) | (simp only [gA, gB, gC]; exact rfl))
  case q1__0 => exact fun _ _ _ h => h
  case y1__0 => (refine Or.inl ⟨rfl, ?_⟩; intro w hSw; (first | rfl | (go_simp; (try with_reducible rfl))))
  (try simp only [Act.put, sA, sB, sC])
  refine wpAnyH_take (i := 1) (oi := ?o1__1) (v := .bool true) ?h1__1 (by kernel_rfl) (by kernel_rfl) (by kernel_rfl) ?q1__1 ?y1__1 (by assumption) ?_
  case h1__1 => (first | (simp only [gA, gB, gC]; done) | (simp only [gA, gB, gC]; exact rfl))
  case q1__1 => exact fun _ _ _ h => h
  case y1__1 => (refine Or.inl ⟨rfl, ?_⟩; intro w hSw; (first | rfl | (go_simp; (try with_reducible rfl))))
  (try simp only [Act.put, sA, sB, sC])
  refine wpAnyH_take (i := 2) (oi := ?o1__2) (v := .bool true) ?h1__2 (by kernel_rfl) (by kernel_rfl) (by kernel_rfl) ?q1__2 ?y1__2 (by assumption) ?_
  case h1__2 => (first | (simp only [gA, gB, gC]; done) | (simp only [gA, gB, gC]; exact rfl))
  case q1__2 => exact fun _ _ _ h => h
  case y1__2 => (refine Or.inl ⟨rfl, ?_⟩; intro w hSw; (first | rfl | (go_simp; (try with_reducible rfl))))
  (try simp only [Act.put, sA, sB, sC])
  refine wpAnyH_take (i := 3) (oi := ?o1__3) (v := .pointer (some ⟨t, 0, none⟩)) ?h1__3 (by kernel_rfl) (by kernel_rfl) (by kernel_rfl) ?q1__3 ?y1__3 (by assumption) ?_
  case h1__3 => (first | (simp only [gA, gB, gC]; done) | (simp only [gA, gB, gC]; exact rfl))
  case q1__3 => exact fun _ _ _ h => h
  case y1__3 => (refine Or.inl ⟨rfl, ?_⟩; intro w hSw; (first | rfl | (go_simp; (try with_reducible rfl))))
  (try simp only [Act.put, sA, sB, sC])
  refine wpAnyH_take (i := 4) (oi := ?o1__4) (v := .pointer (some ⟨t, 0, none⟩)) ?h1__4 (by kernel_rfl) (by kernel_rfl) (by kernel_rfl) ?q1__4 ?y1__4 (by assumption) ?_
  case h1__4 => (first | (simp only [gA, gB, gC]; done) | (simp only [gA, gB, gC]; exact rfl))
  case q1__4 => exact fun _ _ _ h => h
  case y1__4 => (refine Or.inl ⟨rfl, ?_⟩; intro w hSw; (first | rfl | (go_simp; (try with_reducible rfl))))
  (try simp only [Act.put, sA, sB, sC])
  refine wpAnyH_take (i := 5) (oi := ?o1__5) (v := .pointer (some ⟨t, 0, none⟩)) ?h1__5 (by kernel_rfl) (by kernel_rfl) (by kernel_rfl) ?q1__5 ?y1__5 (by assumption) ?_
  case h1__5 => (first | (simp only [gA, gB, gC]; done) | (simp only [gA, gB, gC]; exact rfl))
  case q1__5 => exact fun _ _ _ h => h
  case y1__5 => (refine Or.inl ⟨rfl, ?_⟩; intro w hSw; (first | rfl | (go_simp; (try with_reducible rfl))))
  (try simp only [Act.put, sA, sB, sC])
  refine wpAnyH_take (i := 6) (oi := ?o1__6) (v := .agg #[.int .i64 c.ca, .int .i64 c.fl, .int .i64 c.ft, .int .i64 c.se, .int .i64 c.dr, .int .i64 c.dw, .int .i64 c.ho, .int .i64 c.re, .int .i64 c.yi, .int .i64 c.qu, .int .i64 c.qo, .int .i64 c.lo, .int .i64 c.sl, .int .i64 c.rt, .int .i64 c.cp, .int .i64 c.tr, .int .i64 c.de, .int .i64 c.wi]) ?h1__6 (by kernel_rfl) (by kernel_rfl) (by kernel_rfl) ?q1__6 ?y1__6 (by assumption) ?_
  case h1__6 => (first | (simp only [gA, gB, gC]; done) | (simp only [gA, gB, gC]; exact rfl))
  case q1__6 => exact fun _ _ _ h => h
  case y1__6 => (refine Or.inl ⟨rfl, ?_⟩; intro w hSw; exact exec_part (n := 18) 23 _ _ hSw.2.2 rfl rfl rfl rfl Try.underlying23 rfl (by kernel_rfl))
  (try simp only [Act.put, sA, sB, sC])
  refine wpAnyH_take (i := 7) (oi := ?o1__7) (v := .pointer (some ⟨w.heap.size, 0, none⟩)) ?h1__7 (by kernel_rfl) (by kernel_rfl) (by kernel_rfl) ?q1__7 ?y1__7 (by assumption) ?_
  case h1__7 => (first | (simp only [gA, gB, gC]; done) | (simp only [gA, gB, gC]; exact rfl))
  case q1__7 => exact fun _ _ _ h => h
  case y1__7 => (refine Or.inl ⟨rfl, ?_⟩; intro w hSw; (first | rfl | (go_simp; (try with_reducible rfl))))
  (try simp only [Act.put, sA, sB, sC])
  refine wpAnyH_take (i := 8) (oi := ?o1__8) (v := .agg #[.int .i64 l.se, .int .i64 l.fl, .int .i64 l.fm, .int .i64 l.to, .int .i64 l.ma]) ?h1__8 (by kernel_rfl) (by kernel_rfl) (by kernel_rfl) ?q1__8 ?y1__8 (by assumption) ?_
  case h1__8 => (first | (simp only [gA, gB, gC]; done) | (simp only [gA, gB, gC]; exact rfl))
  case q1__8 => exact fun _ _ _ h => h
  case y1__8 => (refine Or.inl ⟨rfl, ?_⟩; intro w hSw; exact exec_part (n := 5) 30 _ _ hSw.2.1 rfl rfl rfl rfl Try.underlying30 rfl (by kernel_rfl))
  (try simp only [Act.put, sA, sB, sC])
  refine wpAnyH_ready (rs := [9]) (by kernel_rfl) (by simp) ?_
  refine AllReadyH.cons (o := ?o1__9) ?h1__9 (fun K hK => ?_) AllReadyH.nil
  case h1__9 => (first | (simp only [gA, gB, gC]; done) | (simp only [gA, gB, gC]; exact rfl))
  (try go_simp)
  refine (mayV c l true _ HM.out).mono ?_
  rintro e w2 ⟨rfl, hb⟩
  (try go_wp2_with fail)
  refine hK.out _ _ (by (apply HRK.out; exact hb; exact hHeld)) (fun hHeld2 => ?_)
  clear hK K hHeld hb
  have hHeld := hHeld2
  clear hHeld2
  (try simp only [Act.put, sA, sB, sC])
  refine wpAnyH_take (i := 10) (oi := ?o1__10) (v := .bool true) ?h1__10 (by kernel_rfl) (by kernel_rfl) (by kernel_rfl) ?q1__10 ?y1__10 (by assumption) ?_
  case h1__10 => (first | (simp only [gA, gB, gC]; done) | (simp only [gA, gB, gC]; exact rfl))
  case q1__10 => exact fun _ _ _ h => h
  case y1__10 => (refine Or.inl ⟨rfl, ?_⟩; intro w hSw; (first | rfl | (go_simp; (try with_reducible rfl))))
  (try simp only [Act.put, sA, sB, sC])
  refine wpAnyH_take (i := 11) (oi := ?o1__11) (v := .bool true) ?h1__11 (by kernel_rfl) (by kernel_rfl) (by kernel_rfl) ?q1__11 ?y1__11 (by assumption) ?_
  case h1__11 => (first | (simp only [gA, gB, gC]; done) | (simp only [gA, gB, gC]; exact rfl))
  case q1__11 => exact fun _ _ _ h => h
  case y1__11 => (refine Or.inl ⟨rfl, ?_⟩; intro w hSw; (first | rfl | (go_simp; (try with_reducible rfl))))
  (try simp only [Act.put, sA, sB, sC])
  refine wpAnyH_take (i := 12) (oi := ?o1__12) (v := .pointer (some ⟨w.heap.size, 5, none⟩)) ?h1__12 (by kernel_rfl) (by kernel_rfl) (by kernel_rfl) ?q1__12 ?y1__12 (by assumption) ?_
  case h1__12 => (first | (simp only [gA, gB, gC]; done) | (simp only [gA, gB, gC]; exact rfl))
  case q1__12 => exact fun _ _ _ h => h
  case y1__12 => (refine Or.inl ⟨rfl, ?_⟩; intro w hSw; (first | rfl | (go_simp; (try with_reducible rfl))))
  (try simp only [Act.put, sA, sB, sC])
  refine wpAnyH_take (i := 13) (oi := ?o1__13) (v := .int .i64 l.ca) ?h1__13 (by kernel_rfl) (by kernel_rfl) (by kernel_rfl) ?q1__13 ?y1__13 (by assumption) ?_
  case h1__13 => (first | (simp only [gA, gB, gC]; done) | (simp only [gA, gB, gC]; exact rfl))
  case q1__13 => exact fun _ _ _ h => h
  case y1__13 => (refine Or.inl ⟨rfl, ?_⟩; intro w hSw; exact exec_cell 3 _ _ hSw.2.1 rfl rfl rfl Try.underlying3 rfl)
  (try simp only [Act.put, sA, sB, sC])
  refine wpAnyH_take (i := 14) (oi := ?o1__14) (v := .bool true) ?h1__14 (by kernel_rfl) (by kernel_rfl) (by kernel_rfl) ?q1__14 ?y1__14 (by assumption) ?_
  case h1__14 => (first | (simp only [gA, gB, gC]; done) | (simp only [gA, gB, gC]; exact rfl))
  case q1__14 => exact fun _ _ _ h => h
  case y1__14 => (refine Or.inl ⟨rfl, ?_⟩; intro w hSw; (have q0 := H0.out; go_simp; (first | done | rfl | omega)))
  (try simp only [Act.put, sA, sB, sC])
  refine wpAnyH_take (i := 15) (oi := ?o1__15) (v := .bool true) ?h1__15 (by kernel_rfl) (by kernel_rfl) (by kernel_rfl) ?q1__15 ?y1__15 (by assumption) ?_
  case h1__15 => (first | (simp only [gA, gB, gC]; done) | (simp only [gA, gB, gC]; exact rfl))
  case q1__15 => exact fun _ _ _ h => h
  case y1__15 => (refine Or.inl ⟨rfl, ?_⟩; intro w hSw; (first | rfl | (go_simp; (try with_reducible rfl))))
  (try simp only [Act.put, sA, sB, sC])
  refine wpAnyH_take (i := 16) (oi := ?o1__16) (v := .bool true) ?h1__16 (by kernel_rfl) (by kernel_rfl) (by kernel_rfl) ?q1__16 ?y1__16 (by assumption) ?_
  case h1__16 => (first | (simp only [gA, gB, gC]; done) | (simp only [gA, gB, gC]; exact rfl))
  case q1__16 => exact fun _ _ _ h => h
  case y1__16 => (refine Or.inl ⟨rfl, ?_⟩; intro w hSw; (first | rfl | (go_simp; (try with_reducible rfl))))
  (try simp only [Act.put, sA, sB, sC])
  refine wpAnyH_take (i := 17) (oi := ?o1__17) (v := .pointer (some ⟨w.heap.size, 5, none⟩)) ?h1__17 (by kernel_rfl) (by kernel_rfl) (by kernel_rfl) ?q1__17 ?y1__17 (by assumption) ?_
  case h1__17 => (first | (simp only [gA, gB, gC]; done) | (simp only [gA, gB, gC]; exact rfl))
  case q1__17 => exact fun _ _ _ h => h
  case y1__17 => (refine Or.inl ⟨rfl, ?_⟩; intro w hSw; (first | rfl | (go_simp; (try with_reducible rfl))))
  (try simp only [Act.put, sA, sB, sC])
  refine wpAnyH_take (i := 18) (oi := ?o1__18) (v := .int .i64 l.ca) ?h1__18 (by kernel_rfl) (by kernel_rfl) (by kernel_rfl) ?q1__18 ?y1__18 (by assumption) ?_
  case h1__18 => (first | (simp only [gA, gB, gC]; done) | (simp only [gA, gB, gC]; exact rfl))
  case q1__18 => exact fun _ _ _ h => h
  case y1__18 => (refine Or.inl ⟨rfl, ?_⟩; intro w hSw; exact exec_cell 3 _ _ hSw.2.1 rfl rfl rfl Try.underlying3 rfl)
  (try simp only [Act.put, sA, sB, sC])
  refine wpAnyH_take (i := 19) (oi := ?o1__19) (v := .bool false) ?h1__19 (by kernel_rfl) (by kernel_rfl) (by kernel_rfl) ?q1__19 ?y1__19 (by assumption) ?_
  case h1__19 => (first | (simp only [gA, gB, gC]; done) | (simp only [gA, gB, gC]; exact rfl))
  case q1__19 => exact fun _ _ _ h => h
  case y1__19 => (refine Or.inl ⟨rfl, ?_⟩; intro w hSw; (have q0 := H1.out; go_simp; (first | done | rfl | omega)))
  (try simp only [Act.put, sA, sB, sC])
  refine wpAnyH_take (i := 20) (oi := ?o1__20) (v := .bool false) ?h1__20 (by kernel_rfl) (by kernel_rfl) (by kernel_rfl) ?q1__20 ?y1__20 (by assumption) ?_
  case h1__20 => (first | (simp only [gA, gB, gC]; done) | (simp only [gA, gB, gC]; exact rfl))
  case q1__20 => exact fun _ _ _ h => h
  case y1__20 => (refine Or.inl ⟨rfl, ?_⟩; intro w hSw; (first | rfl | (go_simp; (try with_reducible rfl))))
  (try simp only [Act.put, sA, sB, sC])
  refine wpAnyH_take (i := 21) (oi := ?o1__21) (v := .bool false) ?h1__21 (by kernel_rfl) (by kernel_rfl) (by kernel_rfl) ?q1__21 ?y1__21 (by assumption) ?_
  case h1__21 => (first | (simp only [gA, gB, gC]; done) | (simp only [gA, gB, gC]; exact rfl))
  case q1__21 => exact fun _ _ _ h => h
  case y1__21 => (refine Or.inl ⟨rfl, ?_⟩; intro w hSw; (first | rfl | (go_simp; (try with_reducible rfl))))
  (try simp only [Act.put, sA, sB, sC])
  refine wpAnyH_take (i := 22) (oi := ?o1__22) (v := undef) ?h1__22 (by kernel_rfl) (by kernel_rfl) (by kernel_rfl) ?q1__22 ?y1__22 (by assumption) ?_
  case h1__22 => (first | (simp only [gA, gB, gC]; done) | (simp only [gA, gB, gC]; exact rfl))
  case q1__22 => exact fun _ _ _ h => h
  case y1__22 => exact Or.inr ⟨rfl, rfl⟩
  (try simp only [Act.put, sA, sB, sC])
  refine wpAnyH_take (i := 23) (oi := ?o1__23) (v := undef) ?h1__23 (by kernel_rfl) (by kernel_rfl) (by kernel_rfl) ?q1__23 ?y1__23 (by assumption) ?_
  case h1__23 => (first | (simp only [gA, gB, gC]; done) | (simp only [gA, gB, gC]; exact rfl))
  case q1__23 => exact fun _ _ _ h => h
  case y1__23 => exact Or.inr ⟨rfl, rfl⟩
  (try simp only [Act.put, sA, sB, sC])
  refine wpAnyH_take (i := 24) (oi := ?o1__24) (v := undef) ?h1__24 (by kernel_rfl) (by kernel_rfl) (by kernel_rfl) ?q1__24 ?y1__24 (by assumption) ?_
  case h1__24 => (first | (simp only [gA, gB, gC]; done) | (simp only [gA, gB, gC]; exact rfl))
  case q1__24 => exact fun _ _ _ h => h
  case y1__24 => exact Or.inr ⟨rfl, rfl⟩
  (try simp only [Act.put, sA, sB, sC])
  refine wpAnyH_take (i := 25) (oi := ?o1__25) (v := .bool false) ?h1__25 (by kernel_rfl) (by kernel_rfl) (by kernel_rfl) ?q1__25 ?y1__25 (by assumption) ?_
  case h1__25 => (first | (simp only [gA, gB, gC]; done) | (simp only [gA, gB, gC]; exact rfl))
  case q1__25 => exact fun _ _ _ h => h
  case y1__25 => (refine Or.inl ⟨rfl, ?_⟩; intro w hSw; (first | rfl | (go_simp; (try with_reducible rfl))))
  (try simp only [Act.put, sA, sB, sC])
  refine wpAnyH_take (i := 26) (oi := ?o1__26) (v := .bool false) ?h1__26 (by kernel_rfl) (by kernel_rfl) (by kernel_rfl) ?q1__26 ?y1__26 (by assumption) ?_
  case h1__26 => (first | (simp only [gA, gB, gC]; done) | (simp only [gA, gB, gC]; exact rfl))
  case q1__26 => exact fun _ _ _ h => h
  case y1__26 => (refine Or.inl ⟨rfl, ?_⟩; intro w hSw; (first | rfl | (go_simp; (try with_reducible rfl))))
  (try simp only [Act.put, sA, sB, sC])
  refine wpAnyH_take (i := 27) (oi := ?o1__27) (v := undef) ?h1__27 (by kernel_rfl) (by kernel_rfl) (by kernel_rfl) ?q1__27 ?y1__27 (by assumption) ?_
  case h1__27 => (first | (simp only [gA, gB, gC]; done) | (simp only [gA, gB, gC]; exact rfl))
  case q1__27 => exact fun _ _ _ h => h
  case y1__27 => exact Or.inr ⟨rfl, rfl⟩
  (try simp only [Act.put, sA, sB, sC])
  refine wpAnyH_take (i := 28) (oi := ?o1__28) (v := undef) ?h1__28 (by kernel_rfl) (by kernel_rfl) (by kernel_rfl) ?q1__28 ?y1__28 (by assumption) ?_
  case h1__28 => (first | (simp only [gA, gB, gC]; done) | (simp only [gA, gB, gC]; exact rfl))
  case q1__28 => exact fun _ _ _ h => h
  case y1__28 => exact Or.inr ⟨rfl, rfl⟩
  (try simp only [Act.put, sA, sB, sC])
  refine wpAnyH_take (i := 29) (oi := ?o1__29) (v := undef) ?h1__29 (by kernel_rfl) (by kernel_rfl) (by kernel_rfl) ?q1__29 ?y1__29 (by assumption) ?_
  case h1__29 => (first | (simp only [gA, gB, gC]; done) | (simp only [gA, gB, gC]; exact rfl))
  case q1__29 => exact fun _ _ _ h => h
  case y1__29 => exact Or.inr ⟨rfl, rfl⟩
  (try simp only [Act.put, sA, sB, sC])
  refine wpAnyH_take (i := 30) (oi := ?o1__30) (v := .bool false) ?h1__30 (by kernel_rfl) (by kernel_rfl) (by kernel_rfl) ?q1__30 ?y1__30 (by assumption) ?_
  case h1__30 => (first | (simp only [gA, gB, gC]; done) | (simp only [gA, gB, gC]; exact rfl))
  case q1__30 => exact fun _ _ _ h => h
  case y1__30 => (refine Or.inl ⟨rfl, ?_⟩; intro w hSw; (first | rfl | (go_simp; (try with_reducible rfl))))
  (try simp only [Act.put, sA, sB, sC])
  refine wpAnyH_take (i := 31) (oi := ?o1__31) (v := .bool false) ?h1__31 (by kernel_rfl) (by kernel_rfl) (by kernel_rfl) ?q1__31 ?y1__31 (by assumption) ?_
  case h1__31 => (first | (simp only [gA, gB, gC]; done) | (simp only [gA, gB, gC]; exact rfl))
  case q1__31 => exact fun _ _ _ h => h
  case y1__31 => (refine Or.inl ⟨rfl, ?_⟩; intro w hSw; (first | rfl | (go_simp; (try with_reducible rfl))))
  (try simp only [Act.put, sA, sB, sC])
  refine wpAnyH_done (by kernel_rfl) ?_ _
  have HSd1 := Lib.hid hHeld.1
  have HBLd1 := Lib.hid (hHeld.2.1)
  have HBQd1 := Lib.hid (hHeld.2.2)
  clear hHeld HRK HRD HS1 HBL1 HBQ1
  (try go_wp2_with fail)
  go_ret
  exact ⟨rfl, HSd1.out⟩
set_option maxHeartbeats 4000000 in
theorem good2 (t : Nat) (c : CfgV) (ls : List LeaseV) (A : Option Addr) (cap : Nat) (l : LeaseV) (w : World) (hq : Blk w t 101 (tabC c (.slice A ls.length cap))) (hm : mayB c (askOf l) = true) (h0 : 0 ≤ l.ca) (h1 : l.ca < 8) (h2 : ¬ (1 ≤ l.ph)) : Calls Try.prog 72 #[.pointer (some ⟨t, 0, none⟩), .agg #[.int .i64 l.se, .int .i64 l.fl, .int .i64 l.fm, .int .i64 l.to, .int .i64 l.ma, .int .i64 l.ca, .int .i64 l.ph, .int .i64 l.un, .int .i64 l.re, .int .i64 l.gr]] w fun e w' => e = .returned (.bool false) ∧ Since w w' := by
  have HBQ := Lib.hid (show Blk w t 101 #[.int .i64 c.ca, .int .i64 c.fl, .int .i64 c.ft, .int .i64 c.se, .int .i64 c.dr, .int .i64 c.dw, .int .i64 c.ho, .int .i64 c.re, .int .i64 c.yi, .int .i64 c.qu, .int .i64 c.qo, .int .i64 c.lo, .int .i64 c.sl, .int .i64 c.rt, .int .i64 c.cp, .int .i64 c.tr, .int .i64 c.de, .int .i64 c.wi, .slice A ls.length cap] from hq)
  clear hq
  have HM := Lib.hid hm
  clear hm
  have H0 := Lib.hid h0
  clear h0
  have H1 := Lib.hid h1
  clear h1
  have H2 := Lib.hid h2
  clear h2
  go_enter Try.func72, Try.ntmps72
  go_upto_region 1 with fail
  obtain ⟨w1, hw1⟩ : ∃ w1, w1 = (w.alloc (.cells #[.int .i64 l.se, .int .i64 l.fl, .int .i64 l.fm, .int .i64 l.to, .int .i64 l.ma, .int .i64 l.ca, .int .i64 l.ph, .int .i64 l.un, .int .i64 l.re, .int .i64 l.gr] 56)) := ⟨_, rfl⟩
  rw [← hw1]
  have HBL1 := Lib.hid (show Blk w1 (w.heap.size) 56 #[.int .i64 l.se, .int .i64 l.fl, .int .i64 l.fm, .int .i64 l.to, .int .i64 l.ma, .int .i64 l.ca, .int .i64 l.ph, .int .i64 l.un, .int .i64 l.re, .int .i64 l.gr] by rw [hw1]; exact Blk.at_ (by (try simp only [size_alloc])) _ _)
  have HS1 := Lib.hid (show Since w w1 by rw [hw1]; exact Since.alloc (Since.refl w) _)
  have hNE : w.heap.size ≤ w.heap.size := by omega
  have HNE := Lib.hid hNE
  clear hNE hw1
  have HNE3 := Lib.hid (show w.heap.size ≤ w.heap.size from HNE.out)
  clear HNE
  have HBQ1 := Lib.hid (keep_blk HS1.out HBQ.out)
  clear HBQ
  have hrK : ∀ W W' : World, Since W W' → (Since w W ∧ Blk W w.heap.size 56 #[.int .i64 l.se, .int .i64 l.fl, .int .i64 l.fm, .int .i64 l.to, .int .i64 l.ma, .int .i64 l.ca, .int .i64 l.ph, .int .i64 l.un, .int .i64 l.re, .int .i64 l.gr] ∧ Blk W t 101 #[.int .i64 c.ca, .int .i64 c.fl, .int .i64 c.ft, .int .i64 c.se, .int .i64 c.dr, .int .i64 c.dw, .int .i64 c.ho, .int .i64 c.re, .int .i64 c.yi, .int .i64 c.qu, .int .i64 c.qo, .int .i64 c.lo, .int .i64 c.sl, .int .i64 c.rt, .int .i64 c.cp, .int .i64 c.tr, .int .i64 c.de, .int .i64 c.wi, .slice A ls.length cap]) → (Since w W' ∧ Blk W' w.heap.size 56 #[.int .i64 l.se, .int .i64 l.fl, .int .i64 l.fm, .int .i64 l.to, .int .i64 l.ma, .int .i64 l.ca, .int .i64 l.ph, .int .i64 l.un, .int .i64 l.re, .int .i64 l.gr] ∧ Blk W' t 101 #[.int .i64 c.ca, .int .i64 c.fl, .int .i64 c.ft, .int .i64 c.se, .int .i64 c.dr, .int .i64 c.dw, .int .i64 c.ho, .int .i64 c.re, .int .i64 c.yi, .int .i64 c.qu, .int .i64 c.qo, .int .i64 c.lo, .int .i64 c.sl, .int .i64 c.rt, .int .i64 c.cp, .int .i64 c.tr, .int .i64 c.de, .int .i64 c.wi, .slice A ls.length cap]) := fun W W' k ⟨h, h0, h1⟩ => ⟨h.trans k, keep_blk k h0, keep_blk k h1⟩
  have hrS : (fun W : World => Since w W ∧ Blk W w.heap.size 56 #[.int .i64 l.se, .int .i64 l.fl, .int .i64 l.fm, .int .i64 l.to, .int .i64 l.ma, .int .i64 l.ca, .int .i64 l.ph, .int .i64 l.un, .int .i64 l.re, .int .i64 l.gr] ∧ Blk W t 101 #[.int .i64 c.ca, .int .i64 c.fl, .int .i64 c.ft, .int .i64 c.se, .int .i64 c.dr, .int .i64 c.dw, .int .i64 c.ho, .int .i64 c.re, .int .i64 c.yi, .int .i64 c.qu, .int .i64 c.qo, .int .i64 c.lo, .int .i64 c.sl, .int .i64 c.rt, .int .i64 c.cp, .int .i64 c.tr, .int .i64 c.de, .int .i64 c.wi, .slice A ls.length cap]) w1 := ⟨HS1.out, HBL1.out, HBQ1.out⟩
  have HRK := Lib.hid hrK
  have HRD := Lib.hid (show (fun W : World => Since w W ∧ Blk W w.heap.size 56 #[.int .i64 l.se, .int .i64 l.fl, .int .i64 l.fm, .int .i64 l.to, .int .i64 l.ma, .int .i64 l.ca, .int .i64 l.ph, .int .i64 l.un, .int .i64 l.re, .int .i64 l.gr] ∧ Blk W t 101 #[.int .i64 c.ca, .int .i64 c.fl, .int .i64 c.ft, .int .i64 c.se, .int .i64 c.dr, .int .i64 c.dw, .int .i64 c.ho, .int .i64 c.re, .int .i64 c.yi, .int .i64 c.qu, .int .i64 c.qo, .int .i64 c.lo, .int .i64 c.sl, .int .i64 c.rt, .int .i64 c.cp, .int .i64 c.tr, .int .i64 c.de, .int .i64 c.wi, .slice A ls.length cap]) (World.drew w1) from ⟨Since.drew hrS.1, hrS.2⟩)
  clear hrK hrS
  refine wp_region_held_drew (S := fun W : World => Since w W ∧ Blk W w.heap.size 56 #[.int .i64 l.se, .int .i64 l.fl, .int .i64 l.fm, .int .i64 l.to, .int .i64 l.ma, .int .i64 l.ca, .int .i64 l.ph, .int .i64 l.un, .int .i64 l.re, .int .i64 l.gr] ∧ Blk W t 101 #[.int .i64 c.ca, .int .i64 c.fl, .int .i64 c.ft, .int .i64 c.se, .int .i64 c.dr, .int .i64 c.dw, .int .i64 c.ho, .int .i64 c.re, .int .i64 c.yi, .int .i64 c.qu, .int .i64 c.qo, .int .i64 c.lo, .int .i64 c.sl, .int .i64 c.rt, .int .i64 c.cp, .int .i64 c.tr, .int .i64 c.de, .int .i64 c.wi, .slice A ls.length cap]) (by kernel_rfl) HRD.out (fun hHeld => ?_)
  refine wpAnyH_take (i := 0) (oi := ?o1__0) (v := .pointer (some ⟨t, 0, none⟩)) ?h1__0 (by kernel_rfl) (by kernel_rfl) (by kernel_rfl) ?q1__0 ?y1__0 (by assumption) ?_
  case h1__0 => (first | (simp only [gA, gB, gC]; done) | (simp only [gA, gB, gC]; exact rfl))
  case q1__0 => exact fun _ _ _ h => h
  case y1__0 => (refine Or.inl ⟨rfl, ?_⟩; intro w hSw; (first | rfl | (go_simp; (try with_reducible rfl))))
  (try simp only [Act.put, sA, sB, sC])
  refine wpAnyH_take (i := 1) (oi := ?o1__1) (v := .bool true) ?h1__1 (by kernel_rfl) (by kernel_rfl) (by kernel_rfl) ?q1__1 ?y1__1 (by assumption) ?_
  case h1__1 => (first | (simp only [gA, gB, gC]; done) | (simp only [gA, gB, gC]; exact rfl))
  case q1__1 => exact fun _ _ _ h => h
  case y1__1 => (refine Or.inl ⟨rfl, ?_⟩; intro w hSw; (first | rfl | (go_simp; (try with_reducible rfl))))
  (try simp only [Act.put, sA, sB, sC])
  refine wpAnyH_take (i := 2) (oi := ?o1__2) (v := .bool true) ?h1__2 (by kernel_rfl) (by kernel_rfl) (by kernel_rfl) ?q1__2 ?y1__2 (by assumption) ?_
  case h1__2 => (first | (simp only [gA, gB, gC]; done) | (simp only [gA, gB, gC]; exact rfl))
  case q1__2 => exact fun _ _ _ h => h
  case y1__2 => (refine Or.inl ⟨rfl, ?_⟩; intro w hSw; (first | rfl | (go_simp; (try with_reducible rfl))))
  (try simp only [Act.put, sA, sB, sC])
  refine wpAnyH_take (i := 3) (oi := ?o1__3) (v := .pointer (some ⟨t, 0, none⟩)) ?h1__3 (by kernel_rfl) (by kernel_rfl) (by kernel_rfl) ?q1__3 ?y1__3 (by assumption) ?_
  case h1__3 => (first | (simp only [gA, gB, gC]; done) | (simp only [gA, gB, gC]; exact rfl))
  case q1__3 => exact fun _ _ _ h => h
  case y1__3 => (refine Or.inl ⟨rfl, ?_⟩; intro w hSw; (first | rfl | (go_simp; (try with_reducible rfl))))
  (try simp only [Act.put, sA, sB, sC])
  refine wpAnyH_take (i := 4) (oi := ?o1__4) (v := .pointer (some ⟨t, 0, none⟩)) ?h1__4 (by kernel_rfl) (by kernel_rfl) (by kernel_rfl) ?q1__4 ?y1__4 (by assumption) ?_
  case h1__4 => (first | (simp only [gA, gB, gC]; done) | (simp only [gA, gB, gC]; exact rfl))
  case q1__4 => exact fun _ _ _ h => h
  case y1__4 => (refine Or.inl ⟨rfl, ?_⟩; intro w hSw; (first | rfl | (go_simp; (try with_reducible rfl))))
  (try simp only [Act.put, sA, sB, sC])
  refine wpAnyH_take (i := 5) (oi := ?o1__5) (v := .pointer (some ⟨t, 0, none⟩)) ?h1__5 (by kernel_rfl) (by kernel_rfl) (by kernel_rfl) ?q1__5 ?y1__5 (by assumption) ?_
  case h1__5 => (first | (simp only [gA, gB, gC]; done) | (simp only [gA, gB, gC]; exact rfl))
  case q1__5 => exact fun _ _ _ h => h
  case y1__5 => (refine Or.inl ⟨rfl, ?_⟩; intro w hSw; (first | rfl | (go_simp; (try with_reducible rfl))))
  (try simp only [Act.put, sA, sB, sC])
  refine wpAnyH_take (i := 6) (oi := ?o1__6) (v := .agg #[.int .i64 c.ca, .int .i64 c.fl, .int .i64 c.ft, .int .i64 c.se, .int .i64 c.dr, .int .i64 c.dw, .int .i64 c.ho, .int .i64 c.re, .int .i64 c.yi, .int .i64 c.qu, .int .i64 c.qo, .int .i64 c.lo, .int .i64 c.sl, .int .i64 c.rt, .int .i64 c.cp, .int .i64 c.tr, .int .i64 c.de, .int .i64 c.wi]) ?h1__6 (by kernel_rfl) (by kernel_rfl) (by kernel_rfl) ?q1__6 ?y1__6 (by assumption) ?_
  case h1__6 => (first | (simp only [gA, gB, gC]; done) | (simp only [gA, gB, gC]; exact rfl))
  case q1__6 => exact fun _ _ _ h => h
  case y1__6 => (refine Or.inl ⟨rfl, ?_⟩; intro w hSw; exact exec_part (n := 18) 23 _ _ hSw.2.2 rfl rfl rfl rfl Try.underlying23 rfl (by kernel_rfl))
  (try simp only [Act.put, sA, sB, sC])
  refine wpAnyH_take (i := 7) (oi := ?o1__7) (v := .pointer (some ⟨w.heap.size, 0, none⟩)) ?h1__7 (by kernel_rfl) (by kernel_rfl) (by kernel_rfl) ?q1__7 ?y1__7 (by assumption) ?_
  case h1__7 => (first | (simp only [gA, gB, gC]; done) | (simp only [gA, gB, gC]; exact rfl))
  case q1__7 => exact fun _ _ _ h => h
  case y1__7 => (refine Or.inl ⟨rfl, ?_⟩; intro w hSw; (first | rfl | (go_simp; (try with_reducible rfl))))
  (try simp only [Act.put, sA, sB, sC])
  refine wpAnyH_take (i := 8) (oi := ?o1__8) (v := .agg #[.int .i64 l.se, .int .i64 l.fl, .int .i64 l.fm, .int .i64 l.to, .int .i64 l.ma]) ?h1__8 (by kernel_rfl) (by kernel_rfl) (by kernel_rfl) ?q1__8 ?y1__8 (by assumption) ?_
  case h1__8 => (first | (simp only [gA, gB, gC]; done) | (simp only [gA, gB, gC]; exact rfl))
  case q1__8 => exact fun _ _ _ h => h
  case y1__8 => (refine Or.inl ⟨rfl, ?_⟩; intro w hSw; exact exec_part (n := 5) 30 _ _ hSw.2.1 rfl rfl rfl rfl Try.underlying30 rfl (by kernel_rfl))
  (try simp only [Act.put, sA, sB, sC])
  refine wpAnyH_ready (rs := [9]) (by kernel_rfl) (by simp) ?_
  refine AllReadyH.cons (o := ?o1__9) ?h1__9 (fun K hK => ?_) AllReadyH.nil
  case h1__9 => (first | (simp only [gA, gB, gC]; done) | (simp only [gA, gB, gC]; exact rfl))
  (try go_simp)
  refine (mayV c l true _ HM.out).mono ?_
  rintro e w2 ⟨rfl, hb⟩
  (try go_wp2_with fail)
  refine hK.out _ _ (by (apply HRK.out; exact hb; exact hHeld)) (fun hHeld2 => ?_)
  clear hK K hHeld hb
  have hHeld := hHeld2
  clear hHeld2
  (try simp only [Act.put, sA, sB, sC])
  refine wpAnyH_take (i := 10) (oi := ?o1__10) (v := .bool true) ?h1__10 (by kernel_rfl) (by kernel_rfl) (by kernel_rfl) ?q1__10 ?y1__10 (by assumption) ?_
  case h1__10 => (first | (simp only [gA, gB, gC]; done) | (simp only [gA, gB, gC]; exact rfl))
  case q1__10 => exact fun _ _ _ h => h
  case y1__10 => (refine Or.inl ⟨rfl, ?_⟩; intro w hSw; (first | rfl | (go_simp; (try with_reducible rfl))))
  (try simp only [Act.put, sA, sB, sC])
  refine wpAnyH_take (i := 11) (oi := ?o1__11) (v := .bool true) ?h1__11 (by kernel_rfl) (by kernel_rfl) (by kernel_rfl) ?q1__11 ?y1__11 (by assumption) ?_
  case h1__11 => (first | (simp only [gA, gB, gC]; done) | (simp only [gA, gB, gC]; exact rfl))
  case q1__11 => exact fun _ _ _ h => h
  case y1__11 => (refine Or.inl ⟨rfl, ?_⟩; intro w hSw; (first | rfl | (go_simp; (try with_reducible rfl))))
  (try simp only [Act.put, sA, sB, sC])
  refine wpAnyH_take (i := 12) (oi := ?o1__12) (v := .pointer (some ⟨w.heap.size, 5, none⟩)) ?h1__12 (by kernel_rfl) (by kernel_rfl) (by kernel_rfl) ?q1__12 ?y1__12 (by assumption) ?_
  case h1__12 => (first | (simp only [gA, gB, gC]; done) | (simp only [gA, gB, gC]; exact rfl))
  case q1__12 => exact fun _ _ _ h => h
  case y1__12 => (refine Or.inl ⟨rfl, ?_⟩; intro w hSw; (first | rfl | (go_simp; (try with_reducible rfl))))
  (try simp only [Act.put, sA, sB, sC])
  refine wpAnyH_take (i := 13) (oi := ?o1__13) (v := .int .i64 l.ca) ?h1__13 (by kernel_rfl) (by kernel_rfl) (by kernel_rfl) ?q1__13 ?y1__13 (by assumption) ?_
  case h1__13 => (first | (simp only [gA, gB, gC]; done) | (simp only [gA, gB, gC]; exact rfl))
  case q1__13 => exact fun _ _ _ h => h
  case y1__13 => (refine Or.inl ⟨rfl, ?_⟩; intro w hSw; exact exec_cell 3 _ _ hSw.2.1 rfl rfl rfl Try.underlying3 rfl)
  (try simp only [Act.put, sA, sB, sC])
  refine wpAnyH_take (i := 14) (oi := ?o1__14) (v := .bool true) ?h1__14 (by kernel_rfl) (by kernel_rfl) (by kernel_rfl) ?q1__14 ?y1__14 (by assumption) ?_
  case h1__14 => (first | (simp only [gA, gB, gC]; done) | (simp only [gA, gB, gC]; exact rfl))
  case q1__14 => exact fun _ _ _ h => h
  case y1__14 => (refine Or.inl ⟨rfl, ?_⟩; intro w hSw; (have q0 := H0.out; go_simp; (first | done | rfl | omega)))
  (try simp only [Act.put, sA, sB, sC])
  refine wpAnyH_take (i := 15) (oi := ?o1__15) (v := .bool true) ?h1__15 (by kernel_rfl) (by kernel_rfl) (by kernel_rfl) ?q1__15 ?y1__15 (by assumption) ?_
  case h1__15 => (first | (simp only [gA, gB, gC]; done) | (simp only [gA, gB, gC]; exact rfl))
  case q1__15 => exact fun _ _ _ h => h
  case y1__15 => (refine Or.inl ⟨rfl, ?_⟩; intro w hSw; (first | rfl | (go_simp; (try with_reducible rfl))))
  (try simp only [Act.put, sA, sB, sC])
  refine wpAnyH_take (i := 16) (oi := ?o1__16) (v := .bool true) ?h1__16 (by kernel_rfl) (by kernel_rfl) (by kernel_rfl) ?q1__16 ?y1__16 (by assumption) ?_
  case h1__16 => (first | (simp only [gA, gB, gC]; done) | (simp only [gA, gB, gC]; exact rfl))
  case q1__16 => exact fun _ _ _ h => h
  case y1__16 => (refine Or.inl ⟨rfl, ?_⟩; intro w hSw; (first | rfl | (go_simp; (try with_reducible rfl))))
  (try simp only [Act.put, sA, sB, sC])
  refine wpAnyH_take (i := 17) (oi := ?o1__17) (v := .pointer (some ⟨w.heap.size, 5, none⟩)) ?h1__17 (by kernel_rfl) (by kernel_rfl) (by kernel_rfl) ?q1__17 ?y1__17 (by assumption) ?_
  case h1__17 => (first | (simp only [gA, gB, gC]; done) | (simp only [gA, gB, gC]; exact rfl))
  case q1__17 => exact fun _ _ _ h => h
  case y1__17 => (refine Or.inl ⟨rfl, ?_⟩; intro w hSw; (first | rfl | (go_simp; (try with_reducible rfl))))
  (try simp only [Act.put, sA, sB, sC])
  refine wpAnyH_take (i := 18) (oi := ?o1__18) (v := .int .i64 l.ca) ?h1__18 (by kernel_rfl) (by kernel_rfl) (by kernel_rfl) ?q1__18 ?y1__18 (by assumption) ?_
  case h1__18 => (first | (simp only [gA, gB, gC]; done) | (simp only [gA, gB, gC]; exact rfl))
  case q1__18 => exact fun _ _ _ h => h
  case y1__18 => (refine Or.inl ⟨rfl, ?_⟩; intro w hSw; exact exec_cell 3 _ _ hSw.2.1 rfl rfl rfl Try.underlying3 rfl)
  (try simp only [Act.put, sA, sB, sC])
  refine wpAnyH_take (i := 19) (oi := ?o1__19) (v := .bool true) ?h1__19 (by kernel_rfl) (by kernel_rfl) (by kernel_rfl) ?q1__19 ?y1__19 (by assumption) ?_
  case h1__19 => (first | (simp only [gA, gB, gC]; done) | (simp only [gA, gB, gC]; exact rfl))
  case q1__19 => exact fun _ _ _ h => h
  case y1__19 => (refine Or.inl ⟨rfl, ?_⟩; intro w hSw; (have q0 := H1.out; go_simp; (first | done | rfl | omega)))
  (try simp only [Act.put, sA, sB, sC])
  refine wpAnyH_take (i := 20) (oi := ?o1__20) (v := .bool true) ?h1__20 (by kernel_rfl) (by kernel_rfl) (by kernel_rfl) ?q1__20 ?y1__20 (by assumption) ?_
  case h1__20 => (first | (simp only [gA, gB, gC]; done) | (simp only [gA, gB, gC]; exact rfl))
  case q1__20 => exact fun _ _ _ h => h
  case y1__20 => (refine Or.inl ⟨rfl, ?_⟩; intro w hSw; (first | rfl | (go_simp; (try with_reducible rfl))))
  (try simp only [Act.put, sA, sB, sC])
  refine wpAnyH_take (i := 21) (oi := ?o1__21) (v := .bool true) ?h1__21 (by kernel_rfl) (by kernel_rfl) (by kernel_rfl) ?q1__21 ?y1__21 (by assumption) ?_
  case h1__21 => (first | (simp only [gA, gB, gC]; done) | (simp only [gA, gB, gC]; exact rfl))
  case q1__21 => exact fun _ _ _ h => h
  case y1__21 => (refine Or.inl ⟨rfl, ?_⟩; intro w hSw; (first | rfl | (go_simp; (try with_reducible rfl))))
  (try simp only [Act.put, sA, sB, sC])
  refine wpAnyH_take (i := 22) (oi := ?o1__22) (v := .pointer (some ⟨w.heap.size, 6, none⟩)) ?h1__22 (by kernel_rfl) (by kernel_rfl) (by kernel_rfl) ?q1__22 ?y1__22 (by assumption) ?_
  case h1__22 => (first | (simp only [gA, gB, gC]; done) | (simp only [gA, gB, gC]; exact rfl))
  case q1__22 => exact fun _ _ _ h => h
  case y1__22 => (refine Or.inl ⟨rfl, ?_⟩; intro w hSw; (first | rfl | (go_simp; (try with_reducible rfl))))
  (try simp only [Act.put, sA, sB, sC])
  refine wpAnyH_take (i := 23) (oi := ?o1__23) (v := .int .i64 l.ph) ?h1__23 (by kernel_rfl) (by kernel_rfl) (by kernel_rfl) ?q1__23 ?y1__23 (by assumption) ?_
  case h1__23 => (first | (simp only [gA, gB, gC]; done) | (simp only [gA, gB, gC]; exact rfl))
  case q1__23 => exact fun _ _ _ h => h
  case y1__23 => (refine Or.inl ⟨rfl, ?_⟩; intro w hSw; exact exec_cell 3 _ _ hSw.2.1 rfl rfl rfl Try.underlying3 rfl)
  (try simp only [Act.put, sA, sB, sC])
  refine wpAnyH_take (i := 24) (oi := ?o1__24) (v := .bool false) ?h1__24 (by kernel_rfl) (by kernel_rfl) (by kernel_rfl) ?q1__24 ?y1__24 (by assumption) ?_
  case h1__24 => (first | (simp only [gA, gB, gC]; done) | (simp only [gA, gB, gC]; exact rfl))
  case q1__24 => exact fun _ _ _ h => h
  case y1__24 => (refine Or.inl ⟨rfl, ?_⟩; intro w hSw; (have q0 := H2.out; go_simp; (first | done | rfl | omega)))
  (try simp only [Act.put, sA, sB, sC])
  refine wpAnyH_take (i := 25) (oi := ?o1__25) (v := .bool false) ?h1__25 (by kernel_rfl) (by kernel_rfl) (by kernel_rfl) ?q1__25 ?y1__25 (by assumption) ?_
  case h1__25 => (first | (simp only [gA, gB, gC]; done) | (simp only [gA, gB, gC]; exact rfl))
  case q1__25 => exact fun _ _ _ h => h
  case y1__25 => (refine Or.inl ⟨rfl, ?_⟩; intro w hSw; (first | rfl | (go_simp; (try with_reducible rfl))))
  (try simp only [Act.put, sA, sB, sC])
  refine wpAnyH_take (i := 26) (oi := ?o1__26) (v := .bool false) ?h1__26 (by kernel_rfl) (by kernel_rfl) (by kernel_rfl) ?q1__26 ?y1__26 (by assumption) ?_
  case h1__26 => (first | (simp only [gA, gB, gC]; done) | (simp only [gA, gB, gC]; exact rfl))
  case q1__26 => exact fun _ _ _ h => h
  case y1__26 => (refine Or.inl ⟨rfl, ?_⟩; intro w hSw; (first | rfl | (go_simp; (try with_reducible rfl))))
  (try simp only [Act.put, sA, sB, sC])
  refine wpAnyH_take (i := 27) (oi := ?o1__27) (v := undef) ?h1__27 (by kernel_rfl) (by kernel_rfl) (by kernel_rfl) ?q1__27 ?y1__27 (by assumption) ?_
  case h1__27 => (first | (simp only [gA, gB, gC]; done) | (simp only [gA, gB, gC]; exact rfl))
  case q1__27 => exact fun _ _ _ h => h
  case y1__27 => exact Or.inr ⟨rfl, rfl⟩
  (try simp only [Act.put, sA, sB, sC])
  refine wpAnyH_take (i := 28) (oi := ?o1__28) (v := undef) ?h1__28 (by kernel_rfl) (by kernel_rfl) (by kernel_rfl) ?q1__28 ?y1__28 (by assumption) ?_
  case h1__28 => (first | (simp only [gA, gB, gC]; done) | (simp only [gA, gB, gC]; exact rfl))
  case q1__28 => exact fun _ _ _ h => h
  case y1__28 => exact Or.inr ⟨rfl, rfl⟩
  (try simp only [Act.put, sA, sB, sC])
  refine wpAnyH_take (i := 29) (oi := ?o1__29) (v := undef) ?h1__29 (by kernel_rfl) (by kernel_rfl) (by kernel_rfl) ?q1__29 ?y1__29 (by assumption) ?_
  case h1__29 => (first | (simp only [gA, gB, gC]; done) | (simp only [gA, gB, gC]; exact rfl))
  case q1__29 => exact fun _ _ _ h => h
  case y1__29 => exact Or.inr ⟨rfl, rfl⟩
  (try simp only [Act.put, sA, sB, sC])
  refine wpAnyH_take (i := 30) (oi := ?o1__30) (v := .bool false) ?h1__30 (by kernel_rfl) (by kernel_rfl) (by kernel_rfl) ?q1__30 ?y1__30 (by assumption) ?_
  case h1__30 => (first | (simp only [gA, gB, gC]; done) | (simp only [gA, gB, gC]; exact rfl))
  case q1__30 => exact fun _ _ _ h => h
  case y1__30 => (refine Or.inl ⟨rfl, ?_⟩; intro w hSw; (first | rfl | (go_simp; (try with_reducible rfl))))
  (try simp only [Act.put, sA, sB, sC])
  refine wpAnyH_take (i := 31) (oi := ?o1__31) (v := .bool false) ?h1__31 (by kernel_rfl) (by kernel_rfl) (by kernel_rfl) ?q1__31 ?y1__31 (by assumption) ?_
  case h1__31 => (first | (simp only [gA, gB, gC]; done) | (simp only [gA, gB, gC]; exact rfl))
  case q1__31 => exact fun _ _ _ h => h
  case y1__31 => (refine Or.inl ⟨rfl, ?_⟩; intro w hSw; (first | rfl | (go_simp; (try with_reducible rfl))))
  (try simp only [Act.put, sA, sB, sC])
  refine wpAnyH_done (by kernel_rfl) ?_ _
  have HSd1 := Lib.hid hHeld.1
  have HBLd1 := Lib.hid (hHeld.2.1)
  have HBQd1 := Lib.hid (hHeld.2.2)
  clear hHeld HRK HRD HS1 HBL1 HBQ1
  (try go_wp2_with fail)
  go_ret
  exact ⟨rfl, HSd1.out⟩
set_option maxHeartbeats 4000000 in
theorem good3 (t : Nat) (c : CfgV) (ls : List LeaseV) (A : Option Addr) (cap : Nat) (l : LeaseV) (w : World) (hq : Blk w t 101 (tabC c (.slice A ls.length cap))) (hm : mayB c (askOf l) = true) (h0 : 0 ≤ l.ca) (h1 : l.ca < 8) (h2 : 1 ≤ l.ph) (h3 : ¬ (l.ph ≤ 4)) : Calls Try.prog 72 #[.pointer (some ⟨t, 0, none⟩), .agg #[.int .i64 l.se, .int .i64 l.fl, .int .i64 l.fm, .int .i64 l.to, .int .i64 l.ma, .int .i64 l.ca, .int .i64 l.ph, .int .i64 l.un, .int .i64 l.re, .int .i64 l.gr]] w fun e w' => e = .returned (.bool false) ∧ Since w w' := by
  have HBQ := Lib.hid (show Blk w t 101 #[.int .i64 c.ca, .int .i64 c.fl, .int .i64 c.ft, .int .i64 c.se, .int .i64 c.dr, .int .i64 c.dw, .int .i64 c.ho, .int .i64 c.re, .int .i64 c.yi, .int .i64 c.qu, .int .i64 c.qo, .int .i64 c.lo, .int .i64 c.sl, .int .i64 c.rt, .int .i64 c.cp, .int .i64 c.tr, .int .i64 c.de, .int .i64 c.wi, .slice A ls.length cap] from hq)
  clear hq
  have HM := Lib.hid hm
  clear hm
  have H0 := Lib.hid h0
  clear h0
  have H1 := Lib.hid h1
  clear h1
  have H2 := Lib.hid h2
  clear h2
  have H3 := Lib.hid h3
  clear h3
  go_enter Try.func72, Try.ntmps72
  go_upto_region 1 with fail
  obtain ⟨w1, hw1⟩ : ∃ w1, w1 = (w.alloc (.cells #[.int .i64 l.se, .int .i64 l.fl, .int .i64 l.fm, .int .i64 l.to, .int .i64 l.ma, .int .i64 l.ca, .int .i64 l.ph, .int .i64 l.un, .int .i64 l.re, .int .i64 l.gr] 56)) := ⟨_, rfl⟩
  rw [← hw1]
  have HBL1 := Lib.hid (show Blk w1 (w.heap.size) 56 #[.int .i64 l.se, .int .i64 l.fl, .int .i64 l.fm, .int .i64 l.to, .int .i64 l.ma, .int .i64 l.ca, .int .i64 l.ph, .int .i64 l.un, .int .i64 l.re, .int .i64 l.gr] by rw [hw1]; exact Blk.at_ (by (try simp only [size_alloc])) _ _)
  have HS1 := Lib.hid (show Since w w1 by rw [hw1]; exact Since.alloc (Since.refl w) _)
  have hNE : w.heap.size ≤ w.heap.size := by omega
  have HNE := Lib.hid hNE
  clear hNE hw1
  have HNE3 := Lib.hid (show w.heap.size ≤ w.heap.size from HNE.out)
  clear HNE
  have HBQ1 := Lib.hid (keep_blk HS1.out HBQ.out)
  clear HBQ
  have hrK : ∀ W W' : World, Since W W' → (Since w W ∧ Blk W w.heap.size 56 #[.int .i64 l.se, .int .i64 l.fl, .int .i64 l.fm, .int .i64 l.to, .int .i64 l.ma, .int .i64 l.ca, .int .i64 l.ph, .int .i64 l.un, .int .i64 l.re, .int .i64 l.gr] ∧ Blk W t 101 #[.int .i64 c.ca, .int .i64 c.fl, .int .i64 c.ft, .int .i64 c.se, .int .i64 c.dr, .int .i64 c.dw, .int .i64 c.ho, .int .i64 c.re, .int .i64 c.yi, .int .i64 c.qu, .int .i64 c.qo, .int .i64 c.lo, .int .i64 c.sl, .int .i64 c.rt, .int .i64 c.cp, .int .i64 c.tr, .int .i64 c.de, .int .i64 c.wi, .slice A ls.length cap]) → (Since w W' ∧ Blk W' w.heap.size 56 #[.int .i64 l.se, .int .i64 l.fl, .int .i64 l.fm, .int .i64 l.to, .int .i64 l.ma, .int .i64 l.ca, .int .i64 l.ph, .int .i64 l.un, .int .i64 l.re, .int .i64 l.gr] ∧ Blk W' t 101 #[.int .i64 c.ca, .int .i64 c.fl, .int .i64 c.ft, .int .i64 c.se, .int .i64 c.dr, .int .i64 c.dw, .int .i64 c.ho, .int .i64 c.re, .int .i64 c.yi, .int .i64 c.qu, .int .i64 c.qo, .int .i64 c.lo, .int .i64 c.sl, .int .i64 c.rt, .int .i64 c.cp, .int .i64 c.tr, .int .i64 c.de, .int .i64 c.wi, .slice A ls.length cap]) := fun W W' k ⟨h, h0, h1⟩ => ⟨h.trans k, keep_blk k h0, keep_blk k h1⟩
  have hrS : (fun W : World => Since w W ∧ Blk W w.heap.size 56 #[.int .i64 l.se, .int .i64 l.fl, .int .i64 l.fm, .int .i64 l.to, .int .i64 l.ma, .int .i64 l.ca, .int .i64 l.ph, .int .i64 l.un, .int .i64 l.re, .int .i64 l.gr] ∧ Blk W t 101 #[.int .i64 c.ca, .int .i64 c.fl, .int .i64 c.ft, .int .i64 c.se, .int .i64 c.dr, .int .i64 c.dw, .int .i64 c.ho, .int .i64 c.re, .int .i64 c.yi, .int .i64 c.qu, .int .i64 c.qo, .int .i64 c.lo, .int .i64 c.sl, .int .i64 c.rt, .int .i64 c.cp, .int .i64 c.tr, .int .i64 c.de, .int .i64 c.wi, .slice A ls.length cap]) w1 := ⟨HS1.out, HBL1.out, HBQ1.out⟩
  have HRK := Lib.hid hrK
  have HRD := Lib.hid (show (fun W : World => Since w W ∧ Blk W w.heap.size 56 #[.int .i64 l.se, .int .i64 l.fl, .int .i64 l.fm, .int .i64 l.to, .int .i64 l.ma, .int .i64 l.ca, .int .i64 l.ph, .int .i64 l.un, .int .i64 l.re, .int .i64 l.gr] ∧ Blk W t 101 #[.int .i64 c.ca, .int .i64 c.fl, .int .i64 c.ft, .int .i64 c.se, .int .i64 c.dr, .int .i64 c.dw, .int .i64 c.ho, .int .i64 c.re, .int .i64 c.yi, .int .i64 c.qu, .int .i64 c.qo, .int .i64 c.lo, .int .i64 c.sl, .int .i64 c.rt, .int .i64 c.cp, .int .i64 c.tr, .int .i64 c.de, .int .i64 c.wi, .slice A ls.length cap]) (World.drew w1) from ⟨Since.drew hrS.1, hrS.2⟩)
  clear hrK hrS
  refine wp_region_held_drew (S := fun W : World => Since w W ∧ Blk W w.heap.size 56 #[.int .i64 l.se, .int .i64 l.fl, .int .i64 l.fm, .int .i64 l.to, .int .i64 l.ma, .int .i64 l.ca, .int .i64 l.ph, .int .i64 l.un, .int .i64 l.re, .int .i64 l.gr] ∧ Blk W t 101 #[.int .i64 c.ca, .int .i64 c.fl, .int .i64 c.ft, .int .i64 c.se, .int .i64 c.dr, .int .i64 c.dw, .int .i64 c.ho, .int .i64 c.re, .int .i64 c.yi, .int .i64 c.qu, .int .i64 c.qo, .int .i64 c.lo, .int .i64 c.sl, .int .i64 c.rt, .int .i64 c.cp, .int .i64 c.tr, .int .i64 c.de, .int .i64 c.wi, .slice A ls.length cap]) (by kernel_rfl) HRD.out (fun hHeld => ?_)
  refine wpAnyH_take (i := 0) (oi := ?o1__0) (v := .pointer (some ⟨t, 0, none⟩)) ?h1__0 (by kernel_rfl) (by kernel_rfl) (by kernel_rfl) ?q1__0 ?y1__0 (by assumption) ?_
  case h1__0 => (first | (simp only [gA, gB, gC]; done) | (simp only [gA, gB, gC]; exact rfl))
  case q1__0 => exact fun _ _ _ h => h
  case y1__0 => (refine Or.inl ⟨rfl, ?_⟩; intro w hSw; (first | rfl | (go_simp; (try with_reducible rfl))))
  (try simp only [Act.put, sA, sB, sC])
  refine wpAnyH_take (i := 1) (oi := ?o1__1) (v := .bool true) ?h1__1 (by kernel_rfl) (by kernel_rfl) (by kernel_rfl) ?q1__1 ?y1__1 (by assumption) ?_
  case h1__1 => (first | (simp only [gA, gB, gC]; done) | (simp only [gA, gB, gC]; exact rfl))
  case q1__1 => exact fun _ _ _ h => h
  case y1__1 => (refine Or.inl ⟨rfl, ?_⟩; intro w hSw; (first | rfl | (go_simp; (try with_reducible rfl))))
  (try simp only [Act.put, sA, sB, sC])
  refine wpAnyH_take (i := 2) (oi := ?o1__2) (v := .bool true) ?h1__2 (by kernel_rfl) (by kernel_rfl) (by kernel_rfl) ?q1__2 ?y1__2 (by assumption) ?_
  case h1__2 => (first | (simp only [gA, gB, gC]; done) | (simp only [gA, gB, gC]; exact rfl))
  case q1__2 => exact fun _ _ _ h => h
  case y1__2 => (refine Or.inl ⟨rfl, ?_⟩; intro w hSw; (first | rfl | (go_simp; (try with_reducible rfl))))
  (try simp only [Act.put, sA, sB, sC])
  refine wpAnyH_take (i := 3) (oi := ?o1__3) (v := .pointer (some ⟨t, 0, none⟩)) ?h1__3 (by kernel_rfl) (by kernel_rfl) (by kernel_rfl) ?q1__3 ?y1__3 (by assumption) ?_
  case h1__3 => (first | (simp only [gA, gB, gC]; done) | (simp only [gA, gB, gC]; exact rfl))
  case q1__3 => exact fun _ _ _ h => h
  case y1__3 => (refine Or.inl ⟨rfl, ?_⟩; intro w hSw; (first | rfl | (go_simp; (try with_reducible rfl))))
  (try simp only [Act.put, sA, sB, sC])
  refine wpAnyH_take (i := 4) (oi := ?o1__4) (v := .pointer (some ⟨t, 0, none⟩)) ?h1__4 (by kernel_rfl) (by kernel_rfl) (by kernel_rfl) ?q1__4 ?y1__4 (by assumption) ?_
  case h1__4 => (first | (simp only [gA, gB, gC]; done) | (simp only [gA, gB, gC]; exact rfl))
  case q1__4 => exact fun _ _ _ h => h
  case y1__4 => (refine Or.inl ⟨rfl, ?_⟩; intro w hSw; (first | rfl | (go_simp; (try with_reducible rfl))))
  (try simp only [Act.put, sA, sB, sC])
  refine wpAnyH_take (i := 5) (oi := ?o1__5) (v := .pointer (some ⟨t, 0, none⟩)) ?h1__5 (by kernel_rfl) (by kernel_rfl) (by kernel_rfl) ?q1__5 ?y1__5 (by assumption) ?_
  case h1__5 => (first | (simp only [gA, gB, gC]; done) | (simp only [gA, gB, gC]; exact rfl))
  case q1__5 => exact fun _ _ _ h => h
  case y1__5 => (refine Or.inl ⟨rfl, ?_⟩; intro w hSw; (first | rfl | (go_simp; (try with_reducible rfl))))
  (try simp only [Act.put, sA, sB, sC])
  refine wpAnyH_take (i := 6) (oi := ?o1__6) (v := .agg #[.int .i64 c.ca, .int .i64 c.fl, .int .i64 c.ft, .int .i64 c.se, .int .i64 c.dr, .int .i64 c.dw, .int .i64 c.ho, .int .i64 c.re, .int .i64 c.yi, .int .i64 c.qu, .int .i64 c.qo, .int .i64 c.lo, .int .i64 c.sl, .int .i64 c.rt, .int .i64 c.cp, .int .i64 c.tr, .int .i64 c.de, .int .i64 c.wi]) ?h1__6 (by kernel_rfl) (by kernel_rfl) (by kernel_rfl) ?q1__6 ?y1__6 (by assumption) ?_
  case h1__6 => (first | (simp only [gA, gB, gC]; done) | (simp only [gA, gB, gC]; exact rfl))
  case q1__6 => exact fun _ _ _ h => h
  case y1__6 => (refine Or.inl ⟨rfl, ?_⟩; intro w hSw; exact exec_part (n := 18) 23 _ _ hSw.2.2 rfl rfl rfl rfl Try.underlying23 rfl (by kernel_rfl))
  (try simp only [Act.put, sA, sB, sC])
  refine wpAnyH_take (i := 7) (oi := ?o1__7) (v := .pointer (some ⟨w.heap.size, 0, none⟩)) ?h1__7 (by kernel_rfl) (by kernel_rfl) (by kernel_rfl) ?q1__7 ?y1__7 (by assumption) ?_
  case h1__7 => (first | (simp only [gA, gB, gC]; done) | (simp only [gA, gB, gC]; exact rfl))
  case q1__7 => exact fun _ _ _ h => h
  case y1__7 => (refine Or.inl ⟨rfl, ?_⟩; intro w hSw; (first | rfl | (go_simp; (try with_reducible rfl))))
  (try simp only [Act.put, sA, sB, sC])
  refine wpAnyH_take (i := 8) (oi := ?o1__8) (v := .agg #[.int .i64 l.se, .int .i64 l.fl, .int .i64 l.fm, .int .i64 l.to, .int .i64 l.ma]) ?h1__8 (by kernel_rfl) (by kernel_rfl) (by kernel_rfl) ?q1__8 ?y1__8 (by assumption) ?_
  case h1__8 => (first | (simp only [gA, gB, gC]; done) | (simp only [gA, gB, gC]; exact rfl))
  case q1__8 => exact fun _ _ _ h => h
  case y1__8 => (refine Or.inl ⟨rfl, ?_⟩; intro w hSw; exact exec_part (n := 5) 30 _ _ hSw.2.1 rfl rfl rfl rfl Try.underlying30 rfl (by kernel_rfl))
  (try simp only [Act.put, sA, sB, sC])
  refine wpAnyH_ready (rs := [9]) (by kernel_rfl) (by simp) ?_
  refine AllReadyH.cons (o := ?o1__9) ?h1__9 (fun K hK => ?_) AllReadyH.nil
  case h1__9 => (first | (simp only [gA, gB, gC]; done) | (simp only [gA, gB, gC]; exact rfl))
  (try go_simp)
  refine (mayV c l true _ HM.out).mono ?_
  rintro e w2 ⟨rfl, hb⟩
  (try go_wp2_with fail)
  refine hK.out _ _ (by (apply HRK.out; exact hb; exact hHeld)) (fun hHeld2 => ?_)
  clear hK K hHeld hb
  have hHeld := hHeld2
  clear hHeld2
  (try simp only [Act.put, sA, sB, sC])
  refine wpAnyH_take (i := 10) (oi := ?o1__10) (v := .bool true) ?h1__10 (by kernel_rfl) (by kernel_rfl) (by kernel_rfl) ?q1__10 ?y1__10 (by assumption) ?_
  case h1__10 => (first | (simp only [gA, gB, gC]; done) | (simp only [gA, gB, gC]; exact rfl))
  case q1__10 => exact fun _ _ _ h => h
  case y1__10 => (refine Or.inl ⟨rfl, ?_⟩; intro w hSw; (first | rfl | (go_simp; (try with_reducible rfl))))
  (try simp only [Act.put, sA, sB, sC])
  refine wpAnyH_take (i := 11) (oi := ?o1__11) (v := .bool true) ?h1__11 (by kernel_rfl) (by kernel_rfl) (by kernel_rfl) ?q1__11 ?y1__11 (by assumption) ?_
  case h1__11 => (first | (simp only [gA, gB, gC]; done) | (simp only [gA, gB, gC]; exact rfl))
  case q1__11 => exact fun _ _ _ h => h
  case y1__11 => (refine Or.inl ⟨rfl, ?_⟩; intro w hSw; (first | rfl | (go_simp; (try with_reducible rfl))))
  (try simp only [Act.put, sA, sB, sC])
  refine wpAnyH_take (i := 12) (oi := ?o1__12) (v := .pointer (some ⟨w.heap.size, 5, none⟩)) ?h1__12 (by kernel_rfl) (by kernel_rfl) (by kernel_rfl) ?q1__12 ?y1__12 (by assumption) ?_
  case h1__12 => (first | (simp only [gA, gB, gC]; done) | (simp only [gA, gB, gC]; exact rfl))
  case q1__12 => exact fun _ _ _ h => h
  case y1__12 => (refine Or.inl ⟨rfl, ?_⟩; intro w hSw; (first | rfl | (go_simp; (try with_reducible rfl))))
  (try simp only [Act.put, sA, sB, sC])
  refine wpAnyH_take (i := 13) (oi := ?o1__13) (v := .int .i64 l.ca) ?h1__13 (by kernel_rfl) (by kernel_rfl) (by kernel_rfl) ?q1__13 ?y1__13 (by assumption) ?_
  case h1__13 => (first | (simp only [gA, gB, gC]; done) | (simp only [gA, gB, gC]; exact rfl))
  case q1__13 => exact fun _ _ _ h => h
  case y1__13 => (refine Or.inl ⟨rfl, ?_⟩; intro w hSw; exact exec_cell 3 _ _ hSw.2.1 rfl rfl rfl Try.underlying3 rfl)
  (try simp only [Act.put, sA, sB, sC])
  refine wpAnyH_take (i := 14) (oi := ?o1__14) (v := .bool true) ?h1__14 (by kernel_rfl) (by kernel_rfl) (by kernel_rfl) ?q1__14 ?y1__14 (by assumption) ?_
  case h1__14 => (first | (simp only [gA, gB, gC]; done) | (simp only [gA, gB, gC]; exact rfl))
  case q1__14 => exact fun _ _ _ h => h
  case y1__14 => (refine Or.inl ⟨rfl, ?_⟩; intro w hSw; (have q0 := H0.out; go_simp; (first | done | rfl | omega)))
  (try simp only [Act.put, sA, sB, sC])
  refine wpAnyH_take (i := 15) (oi := ?o1__15) (v := .bool true) ?h1__15 (by kernel_rfl) (by kernel_rfl) (by kernel_rfl) ?q1__15 ?y1__15 (by assumption) ?_
  case h1__15 => (first | (simp only [gA, gB, gC]; done) | (simp only [gA, gB, gC]; exact rfl))
  case q1__15 => exact fun _ _ _ h => h
  case y1__15 => (refine Or.inl ⟨rfl, ?_⟩; intro w hSw; (first | rfl | (go_simp; (try with_reducible rfl))))
  (try simp only [Act.put, sA, sB, sC])
  refine wpAnyH_take (i := 16) (oi := ?o1__16) (v := .bool true) ?h1__16 (by kernel_rfl) (by kernel_rfl) (by kernel_rfl) ?q1__16 ?y1__16 (by assumption) ?_
  case h1__16 => (first | (simp only [gA, gB, gC]; done) | (simp only [gA, gB, gC]; exact rfl))
  case q1__16 => exact fun _ _ _ h => h
  case y1__16 => (refine Or.inl ⟨rfl, ?_⟩; intro w hSw; (first | rfl | (go_simp; (try with_reducible rfl))))
  (try simp only [Act.put, sA, sB, sC])
  refine wpAnyH_take (i := 17) (oi := ?o1__17) (v := .pointer (some ⟨w.heap.size, 5, none⟩)) ?h1__17 (by kernel_rfl) (by kernel_rfl) (by kernel_rfl) ?q1__17 ?y1__17 (by assumption) ?_
  case h1__17 => (first | (simp only [gA, gB, gC]; done) | (simp only [gA, gB, gC]; exact rfl))
  case q1__17 => exact fun _ _ _ h => h
  case y1__17 => (refine Or.inl ⟨rfl, ?_⟩; intro w hSw; (first | rfl | (go_simp; (try with_reducible rfl))))
  (try simp only [Act.put, sA, sB, sC])
  refine wpAnyH_take (i := 18) (oi := ?o1__18) (v := .int .i64 l.ca) ?h1__18 (by kernel_rfl) (by kernel_rfl) (by kernel_rfl) ?q1__18 ?y1__18 (by assumption) ?_
  case h1__18 => (first | (simp only [gA, gB, gC]; done) | (simp only [gA, gB, gC]; exact rfl))
  case q1__18 => exact fun _ _ _ h => h
  case y1__18 => (refine Or.inl ⟨rfl, ?_⟩; intro w hSw; exact exec_cell 3 _ _ hSw.2.1 rfl rfl rfl Try.underlying3 rfl)
  (try simp only [Act.put, sA, sB, sC])
  refine wpAnyH_take (i := 19) (oi := ?o1__19) (v := .bool true) ?h1__19 (by kernel_rfl) (by kernel_rfl) (by kernel_rfl) ?q1__19 ?y1__19 (by assumption) ?_
  case h1__19 => (first | (simp only [gA, gB, gC]; done) | (simp only [gA, gB, gC]; exact rfl))
  case q1__19 => exact fun _ _ _ h => h
  case y1__19 => (refine Or.inl ⟨rfl, ?_⟩; intro w hSw; (have q0 := H1.out; go_simp; (first | done | rfl | omega)))
  (try simp only [Act.put, sA, sB, sC])
  refine wpAnyH_take (i := 20) (oi := ?o1__20) (v := .bool true) ?h1__20 (by kernel_rfl) (by kernel_rfl) (by kernel_rfl) ?q1__20 ?y1__20 (by assumption) ?_
  case h1__20 => (first | (simp only [gA, gB, gC]; done) | (simp only [gA, gB, gC]; exact rfl))
  case q1__20 => exact fun _ _ _ h => h
  case y1__20 => (refine Or.inl ⟨rfl, ?_⟩; intro w hSw; (first | rfl | (go_simp; (try with_reducible rfl))))
  (try simp only [Act.put, sA, sB, sC])
  refine wpAnyH_take (i := 21) (oi := ?o1__21) (v := .bool true) ?h1__21 (by kernel_rfl) (by kernel_rfl) (by kernel_rfl) ?q1__21 ?y1__21 (by assumption) ?_
  case h1__21 => (first | (simp only [gA, gB, gC]; done) | (simp only [gA, gB, gC]; exact rfl))
  case q1__21 => exact fun _ _ _ h => h
  case y1__21 => (refine Or.inl ⟨rfl, ?_⟩; intro w hSw; (first | rfl | (go_simp; (try with_reducible rfl))))
  (try simp only [Act.put, sA, sB, sC])
  refine wpAnyH_take (i := 22) (oi := ?o1__22) (v := .pointer (some ⟨w.heap.size, 6, none⟩)) ?h1__22 (by kernel_rfl) (by kernel_rfl) (by kernel_rfl) ?q1__22 ?y1__22 (by assumption) ?_
  case h1__22 => (first | (simp only [gA, gB, gC]; done) | (simp only [gA, gB, gC]; exact rfl))
  case q1__22 => exact fun _ _ _ h => h
  case y1__22 => (refine Or.inl ⟨rfl, ?_⟩; intro w hSw; (first | rfl | (go_simp; (try with_reducible rfl))))
  (try simp only [Act.put, sA, sB, sC])
  refine wpAnyH_take (i := 23) (oi := ?o1__23) (v := .int .i64 l.ph) ?h1__23 (by kernel_rfl) (by kernel_rfl) (by kernel_rfl) ?q1__23 ?y1__23 (by assumption) ?_
  case h1__23 => (first | (simp only [gA, gB, gC]; done) | (simp only [gA, gB, gC]; exact rfl))
  case q1__23 => exact fun _ _ _ h => h
  case y1__23 => (refine Or.inl ⟨rfl, ?_⟩; intro w hSw; exact exec_cell 3 _ _ hSw.2.1 rfl rfl rfl Try.underlying3 rfl)
  (try simp only [Act.put, sA, sB, sC])
  refine wpAnyH_take (i := 24) (oi := ?o1__24) (v := .bool true) ?h1__24 (by kernel_rfl) (by kernel_rfl) (by kernel_rfl) ?q1__24 ?y1__24 (by assumption) ?_
  case h1__24 => (first | (simp only [gA, gB, gC]; done) | (simp only [gA, gB, gC]; exact rfl))
  case q1__24 => exact fun _ _ _ h => h
  case y1__24 => (refine Or.inl ⟨rfl, ?_⟩; intro w hSw; (have q0 := H2.out; go_simp; (first | done | rfl | omega)))
  (try simp only [Act.put, sA, sB, sC])
  refine wpAnyH_take (i := 25) (oi := ?o1__25) (v := .bool true) ?h1__25 (by kernel_rfl) (by kernel_rfl) (by kernel_rfl) ?q1__25 ?y1__25 (by assumption) ?_
  case h1__25 => (first | (simp only [gA, gB, gC]; done) | (simp only [gA, gB, gC]; exact rfl))
  case q1__25 => exact fun _ _ _ h => h
  case y1__25 => (refine Or.inl ⟨rfl, ?_⟩; intro w hSw; (first | rfl | (go_simp; (try with_reducible rfl))))
  (try simp only [Act.put, sA, sB, sC])
  refine wpAnyH_take (i := 26) (oi := ?o1__26) (v := .bool true) ?h1__26 (by kernel_rfl) (by kernel_rfl) (by kernel_rfl) ?q1__26 ?y1__26 (by assumption) ?_
  case h1__26 => (first | (simp only [gA, gB, gC]; done) | (simp only [gA, gB, gC]; exact rfl))
  case q1__26 => exact fun _ _ _ h => h
  case y1__26 => (refine Or.inl ⟨rfl, ?_⟩; intro w hSw; (first | rfl | (go_simp; (try with_reducible rfl))))
  (try simp only [Act.put, sA, sB, sC])
  refine wpAnyH_take (i := 27) (oi := ?o1__27) (v := .pointer (some ⟨w.heap.size, 6, none⟩)) ?h1__27 (by kernel_rfl) (by kernel_rfl) (by kernel_rfl) ?q1__27 ?y1__27 (by assumption) ?_
  case h1__27 => (first | (simp only [gA, gB, gC]; done) | (simp only [gA, gB, gC]; exact rfl))
  case q1__27 => exact fun _ _ _ h => h
  case y1__27 => (refine Or.inl ⟨rfl, ?_⟩; intro w hSw; (first | rfl | (go_simp; (try with_reducible rfl))))
  (try simp only [Act.put, sA, sB, sC])
  refine wpAnyH_take (i := 28) (oi := ?o1__28) (v := .int .i64 l.ph) ?h1__28 (by kernel_rfl) (by kernel_rfl) (by kernel_rfl) ?q1__28 ?y1__28 (by assumption) ?_
  case h1__28 => (first | (simp only [gA, gB, gC]; done) | (simp only [gA, gB, gC]; exact rfl))
  case q1__28 => exact fun _ _ _ h => h
  case y1__28 => (refine Or.inl ⟨rfl, ?_⟩; intro w hSw; exact exec_cell 3 _ _ hSw.2.1 rfl rfl rfl Try.underlying3 rfl)
  (try simp only [Act.put, sA, sB, sC])
  refine wpAnyH_take (i := 29) (oi := ?o1__29) (v := .bool false) ?h1__29 (by kernel_rfl) (by kernel_rfl) (by kernel_rfl) ?q1__29 ?y1__29 (by assumption) ?_
  case h1__29 => (first | (simp only [gA, gB, gC]; done) | (simp only [gA, gB, gC]; exact rfl))
  case q1__29 => exact fun _ _ _ h => h
  case y1__29 => (refine Or.inl ⟨rfl, ?_⟩; intro w hSw; (have q0 := H3.out; go_simp; (first | done | rfl | omega)))
  (try simp only [Act.put, sA, sB, sC])
  refine wpAnyH_take (i := 30) (oi := ?o1__30) (v := .bool false) ?h1__30 (by kernel_rfl) (by kernel_rfl) (by kernel_rfl) ?q1__30 ?y1__30 (by assumption) ?_
  case h1__30 => (first | (simp only [gA, gB, gC]; done) | (simp only [gA, gB, gC]; exact rfl))
  case q1__30 => exact fun _ _ _ h => h
  case y1__30 => (refine Or.inl ⟨rfl, ?_⟩; intro w hSw; (first | rfl | (go_simp; (try with_reducible rfl))))
  (try simp only [Act.put, sA, sB, sC])
  refine wpAnyH_take (i := 31) (oi := ?o1__31) (v := .bool false) ?h1__31 (by kernel_rfl) (by kernel_rfl) (by kernel_rfl) ?q1__31 ?y1__31 (by assumption) ?_
  case h1__31 => (first | (simp only [gA, gB, gC]; done) | (simp only [gA, gB, gC]; exact rfl))
  case q1__31 => exact fun _ _ _ h => h
  case y1__31 => (refine Or.inl ⟨rfl, ?_⟩; intro w hSw; (first | rfl | (go_simp; (try with_reducible rfl))))
  (try simp only [Act.put, sA, sB, sC])
  refine wpAnyH_done (by kernel_rfl) ?_ _
  have HSd1 := Lib.hid hHeld.1
  have HBLd1 := Lib.hid (hHeld.2.1)
  have HBQd1 := Lib.hid (hHeld.2.2)
  clear hHeld HRK HRD HS1 HBL1 HBQ1
  (try go_wp2_with fail)
  go_ret
  exact ⟨rfl, HSd1.out⟩
set_option maxHeartbeats 4000000 in
theorem good4 (t : Nat) (c : CfgV) (ls : List LeaseV) (A : Option Addr) (cap : Nat) (l : LeaseV) (w : World) (hq : Blk w t 101 (tabC c (.slice A ls.length cap))) (hm : mayB c (askOf l) = true) (h0 : 0 ≤ l.ca) (h1 : l.ca < 8) (h2 : 1 ≤ l.ph) (h3 : l.ph ≤ 4) : Calls Try.prog 72 #[.pointer (some ⟨t, 0, none⟩), .agg #[.int .i64 l.se, .int .i64 l.fl, .int .i64 l.fm, .int .i64 l.to, .int .i64 l.ma, .int .i64 l.ca, .int .i64 l.ph, .int .i64 l.un, .int .i64 l.re, .int .i64 l.gr]] w fun e w' => e = .returned (.bool true) ∧ Since w w' := by
  have HBQ := Lib.hid (show Blk w t 101 #[.int .i64 c.ca, .int .i64 c.fl, .int .i64 c.ft, .int .i64 c.se, .int .i64 c.dr, .int .i64 c.dw, .int .i64 c.ho, .int .i64 c.re, .int .i64 c.yi, .int .i64 c.qu, .int .i64 c.qo, .int .i64 c.lo, .int .i64 c.sl, .int .i64 c.rt, .int .i64 c.cp, .int .i64 c.tr, .int .i64 c.de, .int .i64 c.wi, .slice A ls.length cap] from hq)
  clear hq
  have HM := Lib.hid hm
  clear hm
  have H0 := Lib.hid h0
  clear h0
  have H1 := Lib.hid h1
  clear h1
  have H2 := Lib.hid h2
  clear h2
  have H3 := Lib.hid h3
  clear h3
  go_enter Try.func72, Try.ntmps72
  go_upto_region 1 with fail
  obtain ⟨w1, hw1⟩ : ∃ w1, w1 = (w.alloc (.cells #[.int .i64 l.se, .int .i64 l.fl, .int .i64 l.fm, .int .i64 l.to, .int .i64 l.ma, .int .i64 l.ca, .int .i64 l.ph, .int .i64 l.un, .int .i64 l.re, .int .i64 l.gr] 56)) := ⟨_, rfl⟩
  rw [← hw1]
  have HBL1 := Lib.hid (show Blk w1 (w.heap.size) 56 #[.int .i64 l.se, .int .i64 l.fl, .int .i64 l.fm, .int .i64 l.to, .int .i64 l.ma, .int .i64 l.ca, .int .i64 l.ph, .int .i64 l.un, .int .i64 l.re, .int .i64 l.gr] by rw [hw1]; exact Blk.at_ (by (try simp only [size_alloc])) _ _)
  have HS1 := Lib.hid (show Since w w1 by rw [hw1]; exact Since.alloc (Since.refl w) _)
  have hNE : w.heap.size ≤ w.heap.size := by omega
  have HNE := Lib.hid hNE
  clear hNE hw1
  have HNE3 := Lib.hid (show w.heap.size ≤ w.heap.size from HNE.out)
  clear HNE
  have HBQ1 := Lib.hid (keep_blk HS1.out HBQ.out)
  clear HBQ
  have hrK : ∀ W W' : World, Since W W' → (Since w W ∧ Blk W w.heap.size 56 #[.int .i64 l.se, .int .i64 l.fl, .int .i64 l.fm, .int .i64 l.to, .int .i64 l.ma, .int .i64 l.ca, .int .i64 l.ph, .int .i64 l.un, .int .i64 l.re, .int .i64 l.gr] ∧ Blk W t 101 #[.int .i64 c.ca, .int .i64 c.fl, .int .i64 c.ft, .int .i64 c.se, .int .i64 c.dr, .int .i64 c.dw, .int .i64 c.ho, .int .i64 c.re, .int .i64 c.yi, .int .i64 c.qu, .int .i64 c.qo, .int .i64 c.lo, .int .i64 c.sl, .int .i64 c.rt, .int .i64 c.cp, .int .i64 c.tr, .int .i64 c.de, .int .i64 c.wi, .slice A ls.length cap]) → (Since w W' ∧ Blk W' w.heap.size 56 #[.int .i64 l.se, .int .i64 l.fl, .int .i64 l.fm, .int .i64 l.to, .int .i64 l.ma, .int .i64 l.ca, .int .i64 l.ph, .int .i64 l.un, .int .i64 l.re, .int .i64 l.gr] ∧ Blk W' t 101 #[.int .i64 c.ca, .int .i64 c.fl, .int .i64 c.ft, .int .i64 c.se, .int .i64 c.dr, .int .i64 c.dw, .int .i64 c.ho, .int .i64 c.re, .int .i64 c.yi, .int .i64 c.qu, .int .i64 c.qo, .int .i64 c.lo, .int .i64 c.sl, .int .i64 c.rt, .int .i64 c.cp, .int .i64 c.tr, .int .i64 c.de, .int .i64 c.wi, .slice A ls.length cap]) := fun W W' k ⟨h, h0, h1⟩ => ⟨h.trans k, keep_blk k h0, keep_blk k h1⟩
  have hrS : (fun W : World => Since w W ∧ Blk W w.heap.size 56 #[.int .i64 l.se, .int .i64 l.fl, .int .i64 l.fm, .int .i64 l.to, .int .i64 l.ma, .int .i64 l.ca, .int .i64 l.ph, .int .i64 l.un, .int .i64 l.re, .int .i64 l.gr] ∧ Blk W t 101 #[.int .i64 c.ca, .int .i64 c.fl, .int .i64 c.ft, .int .i64 c.se, .int .i64 c.dr, .int .i64 c.dw, .int .i64 c.ho, .int .i64 c.re, .int .i64 c.yi, .int .i64 c.qu, .int .i64 c.qo, .int .i64 c.lo, .int .i64 c.sl, .int .i64 c.rt, .int .i64 c.cp, .int .i64 c.tr, .int .i64 c.de, .int .i64 c.wi, .slice A ls.length cap]) w1 := ⟨HS1.out, HBL1.out, HBQ1.out⟩
  have HRK := Lib.hid hrK
  have HRD := Lib.hid (show (fun W : World => Since w W ∧ Blk W w.heap.size 56 #[.int .i64 l.se, .int .i64 l.fl, .int .i64 l.fm, .int .i64 l.to, .int .i64 l.ma, .int .i64 l.ca, .int .i64 l.ph, .int .i64 l.un, .int .i64 l.re, .int .i64 l.gr] ∧ Blk W t 101 #[.int .i64 c.ca, .int .i64 c.fl, .int .i64 c.ft, .int .i64 c.se, .int .i64 c.dr, .int .i64 c.dw, .int .i64 c.ho, .int .i64 c.re, .int .i64 c.yi, .int .i64 c.qu, .int .i64 c.qo, .int .i64 c.lo, .int .i64 c.sl, .int .i64 c.rt, .int .i64 c.cp, .int .i64 c.tr, .int .i64 c.de, .int .i64 c.wi, .slice A ls.length cap]) (World.drew w1) from ⟨Since.drew hrS.1, hrS.2⟩)
  clear hrK hrS
  refine wp_region_held_drew (S := fun W : World => Since w W ∧ Blk W w.heap.size 56 #[.int .i64 l.se, .int .i64 l.fl, .int .i64 l.fm, .int .i64 l.to, .int .i64 l.ma, .int .i64 l.ca, .int .i64 l.ph, .int .i64 l.un, .int .i64 l.re, .int .i64 l.gr] ∧ Blk W t 101 #[.int .i64 c.ca, .int .i64 c.fl, .int .i64 c.ft, .int .i64 c.se, .int .i64 c.dr, .int .i64 c.dw, .int .i64 c.ho, .int .i64 c.re, .int .i64 c.yi, .int .i64 c.qu, .int .i64 c.qo, .int .i64 c.lo, .int .i64 c.sl, .int .i64 c.rt, .int .i64 c.cp, .int .i64 c.tr, .int .i64 c.de, .int .i64 c.wi, .slice A ls.length cap]) (by kernel_rfl) HRD.out (fun hHeld => ?_)
  refine wpAnyH_take (i := 0) (oi := ?o1__0) (v := .pointer (some ⟨t, 0, none⟩)) ?h1__0 (by kernel_rfl) (by kernel_rfl) (by kernel_rfl) ?q1__0 ?y1__0 (by assumption) ?_
  case h1__0 => (first | (simp only [gA, gB, gC]; done) | (simp only [gA, gB, gC]; exact rfl))
  case q1__0 => exact fun _ _ _ h => h
  case y1__0 => (refine Or.inl ⟨rfl, ?_⟩; intro w hSw; (first | rfl | (go_simp; (try with_reducible rfl))))
  (try simp only [Act.put, sA, sB, sC])
  refine wpAnyH_take (i := 1) (oi := ?o1__1) (v := .bool true) ?h1__1 (by kernel_rfl) (by kernel_rfl) (by kernel_rfl) ?q1__1 ?y1__1 (by assumption) ?_
  case h1__1 => (first | (simp only [gA, gB, gC]; done) | (simp only [gA, gB, gC]; exact rfl))
  case q1__1 => exact fun _ _ _ h => h
  case y1__1 => (refine Or.inl ⟨rfl, ?_⟩; intro w hSw; (first | rfl | (go_simp; (try with_reducible rfl))))
  (try simp only [Act.put, sA, sB, sC])
  refine wpAnyH_take (i := 2) (oi := ?o1__2) (v := .bool true) ?h1__2 (by kernel_rfl) (by kernel_rfl) (by kernel_rfl) ?q1__2 ?y1__2 (by assumption) ?_
  case h1__2 => (first | (simp only [gA, gB, gC]; done) | (simp only [gA, gB, gC]; exact rfl))
  case q1__2 => exact fun _ _ _ h => h
  case y1__2 => (refine Or.inl ⟨rfl, ?_⟩; intro w hSw; (first | rfl | (go_simp; (try with_reducible rfl))))
  (try simp only [Act.put, sA, sB, sC])
  refine wpAnyH_take (i := 3) (oi := ?o1__3) (v := .pointer (some ⟨t, 0, none⟩)) ?h1__3 (by kernel_rfl) (by kernel_rfl) (by kernel_rfl) ?q1__3 ?y1__3 (by assumption) ?_
  case h1__3 => (first | (simp only [gA, gB, gC]; done) | (simp only [gA, gB, gC]; exact rfl))
  case q1__3 => exact fun _ _ _ h => h
  case y1__3 => (refine Or.inl ⟨rfl, ?_⟩; intro w hSw; (first | rfl | (go_simp; (try with_reducible rfl))))
  (try simp only [Act.put, sA, sB, sC])
  refine wpAnyH_take (i := 4) (oi := ?o1__4) (v := .pointer (some ⟨t, 0, none⟩)) ?h1__4 (by kernel_rfl) (by kernel_rfl) (by kernel_rfl) ?q1__4 ?y1__4 (by assumption) ?_
  case h1__4 => (first | (simp only [gA, gB, gC]; done) | (simp only [gA, gB, gC]; exact rfl))
  case q1__4 => exact fun _ _ _ h => h
  case y1__4 => (refine Or.inl ⟨rfl, ?_⟩; intro w hSw; (first | rfl | (go_simp; (try with_reducible rfl))))
  (try simp only [Act.put, sA, sB, sC])
  refine wpAnyH_take (i := 5) (oi := ?o1__5) (v := .pointer (some ⟨t, 0, none⟩)) ?h1__5 (by kernel_rfl) (by kernel_rfl) (by kernel_rfl) ?q1__5 ?y1__5 (by assumption) ?_
  case h1__5 => (first | (simp only [gA, gB, gC]; done) | (simp only [gA, gB, gC]; exact rfl))
  case q1__5 => exact fun _ _ _ h => h
  case y1__5 => (refine Or.inl ⟨rfl, ?_⟩; intro w hSw; (first | rfl | (go_simp; (try with_reducible rfl))))
  (try simp only [Act.put, sA, sB, sC])
  refine wpAnyH_take (i := 6) (oi := ?o1__6) (v := .agg #[.int .i64 c.ca, .int .i64 c.fl, .int .i64 c.ft, .int .i64 c.se, .int .i64 c.dr, .int .i64 c.dw, .int .i64 c.ho, .int .i64 c.re, .int .i64 c.yi, .int .i64 c.qu, .int .i64 c.qo, .int .i64 c.lo, .int .i64 c.sl, .int .i64 c.rt, .int .i64 c.cp, .int .i64 c.tr, .int .i64 c.de, .int .i64 c.wi]) ?h1__6 (by kernel_rfl) (by kernel_rfl) (by kernel_rfl) ?q1__6 ?y1__6 (by assumption) ?_
  case h1__6 => (first | (simp only [gA, gB, gC]; done) | (simp only [gA, gB, gC]; exact rfl))
  case q1__6 => exact fun _ _ _ h => h
  case y1__6 => (refine Or.inl ⟨rfl, ?_⟩; intro w hSw; exact exec_part (n := 18) 23 _ _ hSw.2.2 rfl rfl rfl rfl Try.underlying23 rfl (by kernel_rfl))
  (try simp only [Act.put, sA, sB, sC])
  refine wpAnyH_take (i := 7) (oi := ?o1__7) (v := .pointer (some ⟨w.heap.size, 0, none⟩)) ?h1__7 (by kernel_rfl) (by kernel_rfl) (by kernel_rfl) ?q1__7 ?y1__7 (by assumption) ?_
  case h1__7 => (first | (simp only [gA, gB, gC]; done) | (simp only [gA, gB, gC]; exact rfl))
  case q1__7 => exact fun _ _ _ h => h
  case y1__7 => (refine Or.inl ⟨rfl, ?_⟩; intro w hSw; (first | rfl | (go_simp; (try with_reducible rfl))))
  (try simp only [Act.put, sA, sB, sC])
  refine wpAnyH_take (i := 8) (oi := ?o1__8) (v := .agg #[.int .i64 l.se, .int .i64 l.fl, .int .i64 l.fm, .int .i64 l.to, .int .i64 l.ma]) ?h1__8 (by kernel_rfl) (by kernel_rfl) (by kernel_rfl) ?q1__8 ?y1__8 (by assumption) ?_
  case h1__8 => (first | (simp only [gA, gB, gC]; done) | (simp only [gA, gB, gC]; exact rfl))
  case q1__8 => exact fun _ _ _ h => h
  case y1__8 => (refine Or.inl ⟨rfl, ?_⟩; intro w hSw; exact exec_part (n := 5) 30 _ _ hSw.2.1 rfl rfl rfl rfl Try.underlying30 rfl (by kernel_rfl))
  (try simp only [Act.put, sA, sB, sC])
  refine wpAnyH_ready (rs := [9]) (by kernel_rfl) (by simp) ?_
  refine AllReadyH.cons (o := ?o1__9) ?h1__9 (fun K hK => ?_) AllReadyH.nil
  case h1__9 => (first | (simp only [gA, gB, gC]; done) | (simp only [gA, gB, gC]; exact rfl))
  (try go_simp)
  refine (mayV c l true _ HM.out).mono ?_
  rintro e w2 ⟨rfl, hb⟩
  (try go_wp2_with fail)
  refine hK.out _ _ (by (apply HRK.out; exact hb; exact hHeld)) (fun hHeld2 => ?_)
  clear hK K hHeld hb
  have hHeld := hHeld2
  clear hHeld2
  (try simp only [Act.put, sA, sB, sC])
  refine wpAnyH_take (i := 10) (oi := ?o1__10) (v := .bool true) ?h1__10 (by kernel_rfl) (by kernel_rfl) (by kernel_rfl) ?q1__10 ?y1__10 (by assumption) ?_
  case h1__10 => (first | (simp only [gA, gB, gC]; done) | (simp only [gA, gB, gC]; exact rfl))
  case q1__10 => exact fun _ _ _ h => h
  case y1__10 => (refine Or.inl ⟨rfl, ?_⟩; intro w hSw; (first | rfl | (go_simp; (try with_reducible rfl))))
  (try simp only [Act.put, sA, sB, sC])
  refine wpAnyH_take (i := 11) (oi := ?o1__11) (v := .bool true) ?h1__11 (by kernel_rfl) (by kernel_rfl) (by kernel_rfl) ?q1__11 ?y1__11 (by assumption) ?_
  case h1__11 => (first | (simp only [gA, gB, gC]; done) | (simp only [gA, gB, gC]; exact rfl))
  case q1__11 => exact fun _ _ _ h => h
  case y1__11 => (refine Or.inl ⟨rfl, ?_⟩; intro w hSw; (first | rfl | (go_simp; (try with_reducible rfl))))
  (try simp only [Act.put, sA, sB, sC])
  refine wpAnyH_take (i := 12) (oi := ?o1__12) (v := .pointer (some ⟨w.heap.size, 5, none⟩)) ?h1__12 (by kernel_rfl) (by kernel_rfl) (by kernel_rfl) ?q1__12 ?y1__12 (by assumption) ?_
  case h1__12 => (first | (simp only [gA, gB, gC]; done) | (simp only [gA, gB, gC]; exact rfl))
  case q1__12 => exact fun _ _ _ h => h
  case y1__12 => (refine Or.inl ⟨rfl, ?_⟩; intro w hSw; (first | rfl | (go_simp; (try with_reducible rfl))))
  (try simp only [Act.put, sA, sB, sC])
  refine wpAnyH_take (i := 13) (oi := ?o1__13) (v := .int .i64 l.ca) ?h1__13 (by kernel_rfl) (by kernel_rfl) (by kernel_rfl) ?q1__13 ?y1__13 (by assumption) ?_
  case h1__13 => (first | (simp only [gA, gB, gC]; done) | (simp only [gA, gB, gC]; exact rfl))
  case q1__13 => exact fun _ _ _ h => h
  case y1__13 => (refine Or.inl ⟨rfl, ?_⟩; intro w hSw; exact exec_cell 3 _ _ hSw.2.1 rfl rfl rfl Try.underlying3 rfl)
  (try simp only [Act.put, sA, sB, sC])
  refine wpAnyH_take (i := 14) (oi := ?o1__14) (v := .bool true) ?h1__14 (by kernel_rfl) (by kernel_rfl) (by kernel_rfl) ?q1__14 ?y1__14 (by assumption) ?_
  case h1__14 => (first | (simp only [gA, gB, gC]; done) | (simp only [gA, gB, gC]; exact rfl))
  case q1__14 => exact fun _ _ _ h => h
  case y1__14 => (refine Or.inl ⟨rfl, ?_⟩; intro w hSw; (have q0 := H0.out; go_simp; (first | done | rfl | omega)))
  (try simp only [Act.put, sA, sB, sC])
  refine wpAnyH_take (i := 15) (oi := ?o1__15) (v := .bool true) ?h1__15 (by kernel_rfl) (by kernel_rfl) (by kernel_rfl) ?q1__15 ?y1__15 (by assumption) ?_
  case h1__15 => (first | (simp only [gA, gB, gC]; done) | (simp only [gA, gB, gC]; exact rfl))
  case q1__15 => exact fun _ _ _ h => h
  case y1__15 => (refine Or.inl ⟨rfl, ?_⟩; intro w hSw; (first | rfl | (go_simp; (try with_reducible rfl))))
  (try simp only [Act.put, sA, sB, sC])
  refine wpAnyH_take (i := 16) (oi := ?o1__16) (v := .bool true) ?h1__16 (by kernel_rfl) (by kernel_rfl) (by kernel_rfl) ?q1__16 ?y1__16 (by assumption) ?_
  case h1__16 => (first | (simp only [gA, gB, gC]; done) | (simp only [gA, gB, gC]; exact rfl))
  case q1__16 => exact fun _ _ _ h => h
  case y1__16 => (refine Or.inl ⟨rfl, ?_⟩; intro w hSw; (first | rfl | (go_simp; (try with_reducible rfl))))
  (try simp only [Act.put, sA, sB, sC])
  refine wpAnyH_take (i := 17) (oi := ?o1__17) (v := .pointer (some ⟨w.heap.size, 5, none⟩)) ?h1__17 (by kernel_rfl) (by kernel_rfl) (by kernel_rfl) ?q1__17 ?y1__17 (by assumption) ?_
  case h1__17 => (first | (simp only [gA, gB, gC]; done) | (simp only [gA, gB, gC]; exact rfl))
  case q1__17 => exact fun _ _ _ h => h
  case y1__17 => (refine Or.inl ⟨rfl, ?_⟩; intro w hSw; (first | rfl | (go_simp; (try with_reducible rfl))))
  (try simp only [Act.put, sA, sB, sC])
  refine wpAnyH_take (i := 18) (oi := ?o1__18) (v := .int .i64 l.ca) ?h1__18 (by kernel_rfl) (by kernel_rfl) (by kernel_rfl) ?q1__18 ?y1__18 (by assumption) ?_
  case h1__18 => (first | (simp only [gA, gB, gC]; done) | (simp only [gA, gB, gC]; exact rfl))
  case q1__18 => exact fun _ _ _ h => h
  case y1__18 => (refine Or.inl ⟨rfl, ?_⟩; intro w hSw; exact exec_cell 3 _ _ hSw.2.1 rfl rfl rfl Try.underlying3 rfl)
  (try simp only [Act.put, sA, sB, sC])
  refine wpAnyH_take (i := 19) (oi := ?o1__19) (v := .bool true) ?h1__19 (by kernel_rfl) (by kernel_rfl) (by kernel_rfl) ?q1__19 ?y1__19 (by assumption) ?_
  case h1__19 => (first | (simp only [gA, gB, gC]; done) | (simp only [gA, gB, gC]; exact rfl))
  case q1__19 => exact fun _ _ _ h => h
  case y1__19 => (refine Or.inl ⟨rfl, ?_⟩; intro w hSw; (have q0 := H1.out; go_simp; (first | done | rfl | omega)))
  (try simp only [Act.put, sA, sB, sC])
  refine wpAnyH_take (i := 20) (oi := ?o1__20) (v := .bool true) ?h1__20 (by kernel_rfl) (by kernel_rfl) (by kernel_rfl) ?q1__20 ?y1__20 (by assumption) ?_
  case h1__20 => (first | (simp only [gA, gB, gC]; done) | (simp only [gA, gB, gC]; exact rfl))
  case q1__20 => exact fun _ _ _ h => h
  case y1__20 => (refine Or.inl ⟨rfl, ?_⟩; intro w hSw; (first | rfl | (go_simp; (try with_reducible rfl))))
  (try simp only [Act.put, sA, sB, sC])
  refine wpAnyH_take (i := 21) (oi := ?o1__21) (v := .bool true) ?h1__21 (by kernel_rfl) (by kernel_rfl) (by kernel_rfl) ?q1__21 ?y1__21 (by assumption) ?_
  case h1__21 => (first | (simp only [gA, gB, gC]; done) | (simp only [gA, gB, gC]; exact rfl))
  case q1__21 => exact fun _ _ _ h => h
  case y1__21 => (refine Or.inl ⟨rfl, ?_⟩; intro w hSw; (first | rfl | (go_simp; (try with_reducible rfl))))
  (try simp only [Act.put, sA, sB, sC])
  refine wpAnyH_take (i := 22) (oi := ?o1__22) (v := .pointer (some ⟨w.heap.size, 6, none⟩)) ?h1__22 (by kernel_rfl) (by kernel_rfl) (by kernel_rfl) ?q1__22 ?y1__22 (by assumption) ?_
  case h1__22 => (first | (simp only [gA, gB, gC]; done) | (simp only [gA, gB, gC]; exact rfl))
  case q1__22 => exact fun _ _ _ h => h
  case y1__22 => (refine Or.inl ⟨rfl, ?_⟩; intro w hSw; (first | rfl | (go_simp; (try with_reducible rfl))))
  (try simp only [Act.put, sA, sB, sC])
  refine wpAnyH_take (i := 23) (oi := ?o1__23) (v := .int .i64 l.ph) ?h1__23 (by kernel_rfl) (by kernel_rfl) (by kernel_rfl) ?q1__23 ?y1__23 (by assumption) ?_
  case h1__23 => (first | (simp only [gA, gB, gC]; done) | (simp only [gA, gB, gC]; exact rfl))
  case q1__23 => exact fun _ _ _ h => h
  case y1__23 => (refine Or.inl ⟨rfl, ?_⟩; intro w hSw; exact exec_cell 3 _ _ hSw.2.1 rfl rfl rfl Try.underlying3 rfl)
  (try simp only [Act.put, sA, sB, sC])
  refine wpAnyH_take (i := 24) (oi := ?o1__24) (v := .bool true) ?h1__24 (by kernel_rfl) (by kernel_rfl) (by kernel_rfl) ?q1__24 ?y1__24 (by assumption) ?_
  case h1__24 => (first | (simp only [gA, gB, gC]; done) | (simp only [gA, gB, gC]; exact rfl))
  case q1__24 => exact fun _ _ _ h => h
  case y1__24 => (refine Or.inl ⟨rfl, ?_⟩; intro w hSw; (have q0 := H2.out; go_simp; (first | done | rfl | omega)))
  (try simp only [Act.put, sA, sB, sC])
  refine wpAnyH_take (i := 25) (oi := ?o1__25) (v := .bool true) ?h1__25 (by kernel_rfl) (by kernel_rfl) (by kernel_rfl) ?q1__25 ?y1__25 (by assumption) ?_
  case h1__25 => (first | (simp only [gA, gB, gC]; done) | (simp only [gA, gB, gC]; exact rfl))
  case q1__25 => exact fun _ _ _ h => h
  case y1__25 => (refine Or.inl ⟨rfl, ?_⟩; intro w hSw; (first | rfl | (go_simp; (try with_reducible rfl))))
  (try simp only [Act.put, sA, sB, sC])
  refine wpAnyH_take (i := 26) (oi := ?o1__26) (v := .bool true) ?h1__26 (by kernel_rfl) (by kernel_rfl) (by kernel_rfl) ?q1__26 ?y1__26 (by assumption) ?_
  case h1__26 => (first | (simp only [gA, gB, gC]; done) | (simp only [gA, gB, gC]; exact rfl))
  case q1__26 => exact fun _ _ _ h => h
  case y1__26 => (refine Or.inl ⟨rfl, ?_⟩; intro w hSw; (first | rfl | (go_simp; (try with_reducible rfl))))
  (try simp only [Act.put, sA, sB, sC])
  refine wpAnyH_take (i := 27) (oi := ?o1__27) (v := .pointer (some ⟨w.heap.size, 6, none⟩)) ?h1__27 (by kernel_rfl) (by kernel_rfl) (by kernel_rfl) ?q1__27 ?y1__27 (by assumption) ?_
  case h1__27 => (first | (simp only [gA, gB, gC]; done) | (simp only [gA, gB, gC]; exact rfl))
  case q1__27 => exact fun _ _ _ h => h
  case y1__27 => (refine Or.inl ⟨rfl, ?_⟩; intro w hSw; (first | rfl | (go_simp; (try with_reducible rfl))))
  (try simp only [Act.put, sA, sB, sC])
  refine wpAnyH_take (i := 28) (oi := ?o1__28) (v := .int .i64 l.ph) ?h1__28 (by kernel_rfl) (by kernel_rfl) (by kernel_rfl) ?q1__28 ?y1__28 (by assumption) ?_
  case h1__28 => (first | (simp only [gA, gB, gC]; done) | (simp only [gA, gB, gC]; exact rfl))
  case q1__28 => exact fun _ _ _ h => h
  case y1__28 => (refine Or.inl ⟨rfl, ?_⟩; intro w hSw; exact exec_cell 3 _ _ hSw.2.1 rfl rfl rfl Try.underlying3 rfl)
  (try simp only [Act.put, sA, sB, sC])
  refine wpAnyH_take (i := 29) (oi := ?o1__29) (v := .bool true) ?h1__29 (by kernel_rfl) (by kernel_rfl) (by kernel_rfl) ?q1__29 ?y1__29 (by assumption) ?_
  case h1__29 => (first | (simp only [gA, gB, gC]; done) | (simp only [gA, gB, gC]; exact rfl))
  case q1__29 => exact fun _ _ _ h => h
  case y1__29 => (refine Or.inl ⟨rfl, ?_⟩; intro w hSw; (have q0 := H3.out; go_simp; (first | done | rfl | omega)))
  (try simp only [Act.put, sA, sB, sC])
  refine wpAnyH_take (i := 30) (oi := ?o1__30) (v := .bool true) ?h1__30 (by kernel_rfl) (by kernel_rfl) (by kernel_rfl) ?q1__30 ?y1__30 (by assumption) ?_
  case h1__30 => (first | (simp only [gA, gB, gC]; done) | (simp only [gA, gB, gC]; exact rfl))
  case q1__30 => exact fun _ _ _ h => h
  case y1__30 => (refine Or.inl ⟨rfl, ?_⟩; intro w hSw; (first | rfl | (go_simp; (try with_reducible rfl))))
  (try simp only [Act.put, sA, sB, sC])
  refine wpAnyH_take (i := 31) (oi := ?o1__31) (v := .bool true) ?h1__31 (by kernel_rfl) (by kernel_rfl) (by kernel_rfl) ?q1__31 ?y1__31 (by assumption) ?_
  case h1__31 => (first | (simp only [gA, gB, gC]; done) | (simp only [gA, gB, gC]; exact rfl))
  case q1__31 => exact fun _ _ _ h => h
  case y1__31 => (refine Or.inl ⟨rfl, ?_⟩; intro w hSw; (first | rfl | (go_simp; (try with_reducible rfl))))
  (try simp only [Act.put, sA, sB, sC])
  refine wpAnyH_done (by kernel_rfl) ?_ _
  have HSd1 := Lib.hid hHeld.1
  have HBLd1 := Lib.hid (hHeld.2.1)
  have HBQd1 := Lib.hid (hHeld.2.2)
  clear hHeld HRK HRD HS1 HBL1 HBQ1
  (try go_wp2_with fail)
  go_ret
  exact ⟨rfl, HSd1.out⟩
theorem goodV (t : Nat) (c : CfgV) (ls : List LeaseV) (A : Option Addr) (cap : Nat) (l : LeaseV) (b : Bool) (w : World) (hq : Blk w t 101 (tabC c (.slice A ls.length cap))) (hb : goodB c l = b) : Calls Try.prog 72 #[.pointer (some ⟨t, 0, none⟩), .agg #[.int .i64 l.se, .int .i64 l.fl, .int .i64 l.fm, .int .i64 l.to, .int .i64 l.ma, .int .i64 l.ca, .int .i64 l.ph, .int .i64 l.un, .int .i64 l.re, .int .i64 l.gr]] w fun e w' => e = .returned (.bool b) ∧ Since w w' := by
  subst hb
  cases hm : mayB c (askOf l)
  · rw [show goodB c l = false by simp [goodB, hm]]; exact goodM t c ls A cap l w hq hm
  · by_cases h0 : 0 ≤ l.ca
    · by_cases h1 : l.ca < 8
      · by_cases h2 : 1 ≤ l.ph
        · by_cases h3 : l.ph ≤ 4
          · rw [show goodB c l = true by simp [goodB, hm, h0, h1, h2, h3]]; exact good4 t c ls A cap l w hq hm h0 h1 h2 h3
          · rw [show goodB c l = false by simp [goodB, h3]]; exact good3 t c ls A cap l w hq hm h0 h1 h2 h3
        · rw [show goodB c l = false by simp [goodB, h2]]; exact good2 t c ls A cap l w hq hm h0 h1 h2
      · rw [show goodB c l = false by simp [goodB, h1]]; exact good1 t c ls A cap l w hq hm h0 h1
    · rw [show goodB c l = false by simp [goodB, h0]]; exact good0 t c ls A cap l w hq hm h0
set_option maxHeartbeats 4000000 in
theorem putBad (lo t : Nat) (c : CfgV) (ls : List LeaseV) (A : Option Addr) (cap : Nat) (l : LeaseV) (w : World) (hq : Blk w t 101 (tabC c (.slice A ls.length cap))) (ho : w.ownsRow lo 56 10 (.slice A ls.length cap) ls.length (rowsOf leaC ls)) (hl : ls.length ≤ 10000) (hg : goodB c l = false) : Calls Try.prog 35 #[.pointer (some ⟨t, 0, none⟩), .agg #[.int .i64 l.se, .int .i64 l.fl, .int .i64 l.fm, .int .i64 l.to, .int .i64 l.ma, .int .i64 l.ca, .int .i64 l.ph, .int .i64 l.un, .int .i64 l.re, .int .i64 l.gr]] w fun e w' => e = .returned (.int .i64 1) ∧ Since w w' := by
  have HBQ := Lib.hid (show Blk w t 101 #[.int .i64 c.ca, .int .i64 c.fl, .int .i64 c.ft, .int .i64 c.se, .int .i64 c.dr, .int .i64 c.dw, .int .i64 c.ho, .int .i64 c.re, .int .i64 c.yi, .int .i64 c.qu, .int .i64 c.qo, .int .i64 c.lo, .int .i64 c.sl, .int .i64 c.rt, .int .i64 c.cp, .int .i64 c.tr, .int .i64 c.de, .int .i64 c.wi, .slice A ls.length cap] from hq)
  clear hq
  have HOW := Lib.hid ho
  clear ho
  have HL := Lib.hid hl
  clear hl
  have HG := Lib.hid hg
  clear hg
  go_enter Try.func35, Try.ntmps35
  go_upto_region 1 with fail
  obtain ⟨w1, hw1⟩ : ∃ w1, w1 = (w.alloc (.cells #[.int .i64 l.se, .int .i64 l.fl, .int .i64 l.fm, .int .i64 l.to, .int .i64 l.ma, .int .i64 l.ca, .int .i64 l.ph, .int .i64 l.un, .int .i64 l.re, .int .i64 l.gr] 56)) := ⟨_, rfl⟩
  rw [← hw1]
  have HBL1 := Lib.hid (show Blk w1 (w.heap.size) 56 #[.int .i64 l.se, .int .i64 l.fl, .int .i64 l.fm, .int .i64 l.to, .int .i64 l.ma, .int .i64 l.ca, .int .i64 l.ph, .int .i64 l.un, .int .i64 l.re, .int .i64 l.gr] by rw [hw1]; exact Blk.at_ (by (try simp only [size_alloc])) _ _)
  have HS1 := Lib.hid (show Since w w1 by rw [hw1]; exact Since.alloc (Since.refl w) _)
  have hNE : w.heap.size ≤ w.heap.size := by omega
  have HNE := Lib.hid hNE
  clear hNE hw1
  have HNE3 := Lib.hid (show w.heap.size ≤ w.heap.size from HNE.out)
  clear HNE
  have HBQ1 := Lib.hid (keep_blk HS1.out HBQ.out)
  have HOW1 := Lib.hid (keep_own HS1.out HOW.out)
  have HIQ := Lib.hid (own_ne_ty HOW.out HBQ.out (by decide))
  have HIA := Lib.hid (own_far HOW.out (Nat.le_refl _))
  have HNQA := Lib.hid (show t ≠ w.heap.size by have := Blk.lt HBQ.out; omega)
  have HLO := Lib.hid (show t < w.heap.size from Blk.lt HBQ.out)
  clear HBQ HOW
  refine wp_region_lit ?_
  refine wpList_q (by rfl) (.pointer (some ⟨t, 0, none⟩)) ?he ?_
  case he => (first | rfl | (go_simp; (try with_reducible rfl)))
  (try simp only [Act.put, sA, sB, sC])
  refine wpList_q (by rfl) (.agg #[.int .i64 l.se, .int .i64 l.fl, .int .i64 l.fm, .int .i64 l.to, .int .i64 l.ma, .int .i64 l.ca, .int .i64 l.ph, .int .i64 l.un, .int .i64 l.re, .int .i64 l.gr]) ?he ?_
  case he => exact exec_load_row 56 _ _ HBL1.out rfl rfl Try.underlying56 rfl (by kernel_rfl)
  (try simp only [Act.put, sA, sB, sC])
  refine wpList_wp (by rfl) (fun K hK => ?_)
  (try go_simp)
  refine (goodV t c ls A cap l false _ (show Blk _ t 101 (tabC c (.slice A ls.length cap)) from HBQ1.out) HG.out).mono ?_
  rintro e w2 ⟨rfl, hb⟩
  (try go_wp2_with fail)
  refine hK.out _ _ ?_
  clear hK K
  (try simp only [Act.put, sA, sB, sC])
  have HS2 := Lib.hid (Since.trans HS1.out hb)
  have HBL2 := Lib.hid (keep_blk hb HBL1.out)
  have HBQ2 := Lib.hid (keep_blk hb HBQ1.out)
  have HFr2 := Lib.hid (keep_own hb HOW1.out)
  clear HS1 HBL1 HBQ1 HOW1
  clear hb
  refine wpList_q (by rfl) (.bool true) ?he ?_
  case he => (go_simp; (try with_reducible rfl))
  (try simp only [Act.put, sA, sB, sC])
  refine wpList_nil ?_
  go_upto_region 2 with fail
  refine wp_region_lit ?_
  refine wpList_q (by rfl) (.int .i64 1) ?he ?_
  case he => (first | rfl | (go_simp; (try with_reducible rfl)))
  (try simp only [Act.put, sA, sB, sC])
  refine wpList_nil ?_
  (try go_wp2_with fail)
  go_ret
  exact ⟨rfl, HS2.out⟩
set_option maxHeartbeats 4000000 in
theorem putHit (lo t : Nat) (c : CfgV) (ls : List LeaseV) (A : Option Addr) (cap : Nat) (l : LeaseV) (k0 : Nat) (w : World) (hq : Blk w t 101 (tabC c (.slice A ls.length cap))) (ho : w.ownsRow lo 56 10 (.slice A ls.length cap) ls.length (rowsOf leaC ls)) (hl : ls.length ≤ 10000) (hg : goodB c l = true) (hf : atP ls (isP l) = some k0) : Calls Try.prog 35 #[.pointer (some ⟨t, 0, none⟩), .agg #[.int .i64 l.se, .int .i64 l.fl, .int .i64 l.fm, .int .i64 l.to, .int .i64 l.ma, .int .i64 l.ca, .int .i64 l.ph, .int .i64 l.un, .int .i64 l.re, .int .i64 l.gr]] w fun e w' => e = .returned (.int .i64 7) ∧ Since w w' := by
  have HBQ := Lib.hid (show Blk w t 101 #[.int .i64 c.ca, .int .i64 c.fl, .int .i64 c.ft, .int .i64 c.se, .int .i64 c.dr, .int .i64 c.dw, .int .i64 c.ho, .int .i64 c.re, .int .i64 c.yi, .int .i64 c.qu, .int .i64 c.qo, .int .i64 c.lo, .int .i64 c.sl, .int .i64 c.rt, .int .i64 c.cp, .int .i64 c.tr, .int .i64 c.de, .int .i64 c.wi, .slice A ls.length cap] from hq)
  clear hq
  have HOW := Lib.hid ho
  clear ho
  have HL := Lib.hid hl
  clear hl
  have HG := Lib.hid hg
  clear hg
  have HF := Lib.hid hf
  clear hf
  go_enter Try.func35, Try.ntmps35
  go_upto_region 1 with fail
  obtain ⟨w1, hw1⟩ : ∃ w1, w1 = (w.alloc (.cells #[.int .i64 l.se, .int .i64 l.fl, .int .i64 l.fm, .int .i64 l.to, .int .i64 l.ma, .int .i64 l.ca, .int .i64 l.ph, .int .i64 l.un, .int .i64 l.re, .int .i64 l.gr] 56)) := ⟨_, rfl⟩
  rw [← hw1]
  have HBL1 := Lib.hid (show Blk w1 (w.heap.size) 56 #[.int .i64 l.se, .int .i64 l.fl, .int .i64 l.fm, .int .i64 l.to, .int .i64 l.ma, .int .i64 l.ca, .int .i64 l.ph, .int .i64 l.un, .int .i64 l.re, .int .i64 l.gr] by rw [hw1]; exact Blk.at_ (by (try simp only [size_alloc])) _ _)
  have HS1 := Lib.hid (show Since w w1 by rw [hw1]; exact Since.alloc (Since.refl w) _)
  have hNE : w.heap.size ≤ w.heap.size := by omega
  have HNE := Lib.hid hNE
  clear hNE hw1
  have HNE3 := Lib.hid (show w.heap.size ≤ w.heap.size from HNE.out)
  clear HNE
  have HBQ1 := Lib.hid (keep_blk HS1.out HBQ.out)
  have HOW1 := Lib.hid (keep_own HS1.out HOW.out)
  have HIQ := Lib.hid (own_ne_ty HOW.out HBQ.out (by decide))
  have HIA := Lib.hid (own_far HOW.out (Nat.le_refl _))
  have HNQA := Lib.hid (show t ≠ w.heap.size by have := Blk.lt HBQ.out; omega)
  have HLO := Lib.hid (show t < w.heap.size from Blk.lt HBQ.out)
  clear HBQ HOW
  refine wp_region_lit ?_
  refine wpList_q (by rfl) (.pointer (some ⟨t, 0, none⟩)) ?he ?_
  case he => (first | rfl | (go_simp; (try with_reducible rfl)))
  (try simp only [Act.put, sA, sB, sC])
  refine wpList_q (by rfl) (.agg #[.int .i64 l.se, .int .i64 l.fl, .int .i64 l.fm, .int .i64 l.to, .int .i64 l.ma, .int .i64 l.ca, .int .i64 l.ph, .int .i64 l.un, .int .i64 l.re, .int .i64 l.gr]) ?he ?_
  case he => exact exec_load_row 56 _ _ HBL1.out rfl rfl Try.underlying56 rfl (by kernel_rfl)
  (try simp only [Act.put, sA, sB, sC])
  refine wpList_wp (by rfl) (fun K hK => ?_)
  (try go_simp)
  refine (goodV t c ls A cap l true _ (show Blk _ t 101 (tabC c (.slice A ls.length cap)) from HBQ1.out) HG.out).mono ?_
  rintro e w2 ⟨rfl, hb⟩
  (try go_wp2_with fail)
  refine hK.out _ _ ?_
  clear hK K
  (try simp only [Act.put, sA, sB, sC])
  have HS2 := Lib.hid (Since.trans HS1.out hb)
  have HBL2 := Lib.hid (keep_blk hb HBL1.out)
  have HBQ2 := Lib.hid (keep_blk hb HBQ1.out)
  have HFr2 := Lib.hid (keep_own hb HOW1.out)
  clear HS1 HBL1 HBQ1 HOW1
  clear hb
  refine wpList_q (by rfl) (.bool false) ?he ?_
  case he => (go_simp; (try with_reducible rfl))
  (try simp only [Act.put, sA, sB, sC])
  refine wpList_nil ?_
  go_upto_region 3 with fail
  refine wp_region_lit ?_
  refine wpList_q (by rfl) (.pointer (some ⟨t, 0, none⟩)) ?he ?_
  case he => (first | rfl | (go_simp; (try with_reducible rfl)))
  (try simp only [Act.put, sA, sB, sC])
  refine wpList_q (by rfl) (.func (.func 74) #[] #[.pointer (some ⟨w.heap.size, 0, none⟩)]) ?he ?_
  case he => (first | rfl | (go_simp; (try rfl)))
  (try simp only [Act.put, sA, sB, sC])
  refine wpList_wp (by rfl) (fun K hK => ?_)
  (try go_simp)
  refine (findK lo t c ls A cap 74 (.pointer (some ⟨w.heap.size, 0, none⟩)) (isP l) k0 _ (show Blk _ t 101 (tabC c (.slice A ls.length cap)) from HBQ2.out) HFr2.out HL.out (fun l2 w1 hs => put1T w.heap.size l l2 w1 (keep_blk hs HBL2.out)) (fun args w1 => enterF Try.func74 (by kernel_rfl) rfl args w1) HF.out).mono ?_
  rintro e w3 ⟨rfl, hb⟩
  (try go_wp2_with fail)
  refine hK.out _ _ ?_
  clear hK K
  (try simp only [Act.put, sA, sB, sC])
  have HS3 := Lib.hid (Since.trans HS2.out hb)
  have HBL3 := Lib.hid (keep_blk hb HBL2.out)
  have HBQ3 := Lib.hid (keep_blk hb HBQ2.out)
  have HFr3 := Lib.hid (keep_own hb HFr2.out)
  clear HS2 HBL2 HBQ2 HFr2
  clear hb
  refine wpList_q (by rfl) (.int .i64 (k0 : Int)) ?he ?_
  case he => (first | rfl | (go_simp; (try with_reducible rfl)))
  (try simp only [Act.put, sA, sB, sC])
  refine wpList_nil ?_
  go_upto_region 4 with fail
  refine wp_region_lit ?_
  refine wpList_q (by rfl) (.int .i64 (k0 : Int)) ?he ?_
  case he => (first | rfl | (go_simp; (try with_reducible rfl)))
  (try simp only [Act.put, sA, sB, sC])
  refine wpList_q (by rfl) (.bool true) ?he ?_
  case he => (go_simp; (first | done | rfl | omega))
  (try simp only [Act.put, sA, sB, sC])
  refine wpList_nil ?_
  go_upto_region 5 with fail
  refine wp_region_lit ?_
  refine wpList_q (by rfl) (.int .i64 7) ?he ?_
  case he => (first | rfl | (go_simp; (try with_reducible rfl)))
  (try simp only [Act.put, sA, sB, sC])
  refine wpList_nil ?_
  (try go_wp2_with fail)
  go_ret
  exact ⟨rfl, HS3.out⟩
set_option maxHeartbeats 4000000 in
theorem putFull (lo t : Nat) (c : CfgV) (ls : List LeaseV) (A : Option Addr) (cap : Nat) (l : LeaseV) (w : World) (hq : Blk w t 101 (tabC c (.slice A ls.length cap))) (ho : w.ownsRow lo 56 10 (.slice A ls.length cap) ls.length (rowsOf leaC ls)) (hl : ls.length ≤ 10000) (hg : goodB c l = true) (hf : atP ls (isP l) = none) (hu : full c ls l.fl = true) : Calls Try.prog 35 #[.pointer (some ⟨t, 0, none⟩), .agg #[.int .i64 l.se, .int .i64 l.fl, .int .i64 l.fm, .int .i64 l.to, .int .i64 l.ma, .int .i64 l.ca, .int .i64 l.ph, .int .i64 l.un, .int .i64 l.re, .int .i64 l.gr]] w fun e w' => e = .returned (.int .i64 5) ∧ Since w w' := by
  have HBQ := Lib.hid (show Blk w t 101 #[.int .i64 c.ca, .int .i64 c.fl, .int .i64 c.ft, .int .i64 c.se, .int .i64 c.dr, .int .i64 c.dw, .int .i64 c.ho, .int .i64 c.re, .int .i64 c.yi, .int .i64 c.qu, .int .i64 c.qo, .int .i64 c.lo, .int .i64 c.sl, .int .i64 c.rt, .int .i64 c.cp, .int .i64 c.tr, .int .i64 c.de, .int .i64 c.wi, .slice A ls.length cap] from hq)
  clear hq
  have HOW := Lib.hid ho
  clear ho
  have HL := Lib.hid hl
  clear hl
  have HG := Lib.hid hg
  clear hg
  have HF := Lib.hid hf
  clear hf
  have HU := Lib.hid hu
  clear hu
  go_enter Try.func35, Try.ntmps35
  go_upto_region 1 with fail
  obtain ⟨w1, hw1⟩ : ∃ w1, w1 = (w.alloc (.cells #[.int .i64 l.se, .int .i64 l.fl, .int .i64 l.fm, .int .i64 l.to, .int .i64 l.ma, .int .i64 l.ca, .int .i64 l.ph, .int .i64 l.un, .int .i64 l.re, .int .i64 l.gr] 56)) := ⟨_, rfl⟩
  rw [← hw1]
  have HBL1 := Lib.hid (show Blk w1 (w.heap.size) 56 #[.int .i64 l.se, .int .i64 l.fl, .int .i64 l.fm, .int .i64 l.to, .int .i64 l.ma, .int .i64 l.ca, .int .i64 l.ph, .int .i64 l.un, .int .i64 l.re, .int .i64 l.gr] by rw [hw1]; exact Blk.at_ (by (try simp only [size_alloc])) _ _)
  have HS1 := Lib.hid (show Since w w1 by rw [hw1]; exact Since.alloc (Since.refl w) _)
  have hNE : w.heap.size ≤ w.heap.size := by omega
  have HNE := Lib.hid hNE
  clear hNE hw1
  have HNE3 := Lib.hid (show w.heap.size ≤ w.heap.size from HNE.out)
  clear HNE
  have HBQ1 := Lib.hid (keep_blk HS1.out HBQ.out)
  have HOW1 := Lib.hid (keep_own HS1.out HOW.out)
  have HIQ := Lib.hid (own_ne_ty HOW.out HBQ.out (by decide))
  have HIA := Lib.hid (own_far HOW.out (Nat.le_refl _))
  have HNQA := Lib.hid (show t ≠ w.heap.size by have := Blk.lt HBQ.out; omega)
  have HLO := Lib.hid (show t < w.heap.size from Blk.lt HBQ.out)
  clear HBQ HOW
  refine wp_region_lit ?_
  refine wpList_q (by rfl) (.pointer (some ⟨t, 0, none⟩)) ?he ?_
  case he => (first | rfl | (go_simp; (try with_reducible rfl)))
  (try simp only [Act.put, sA, sB, sC])
  refine wpList_q (by rfl) (.agg #[.int .i64 l.se, .int .i64 l.fl, .int .i64 l.fm, .int .i64 l.to, .int .i64 l.ma, .int .i64 l.ca, .int .i64 l.ph, .int .i64 l.un, .int .i64 l.re, .int .i64 l.gr]) ?he ?_
  case he => exact exec_load_row 56 _ _ HBL1.out rfl rfl Try.underlying56 rfl (by kernel_rfl)
  (try simp only [Act.put, sA, sB, sC])
  refine wpList_wp (by rfl) (fun K hK => ?_)
  (try go_simp)
  refine (goodV t c ls A cap l true _ (show Blk _ t 101 (tabC c (.slice A ls.length cap)) from HBQ1.out) HG.out).mono ?_
  rintro e w2 ⟨rfl, hb⟩
  (try go_wp2_with fail)
  refine hK.out _ _ ?_
  clear hK K
  (try simp only [Act.put, sA, sB, sC])
  have HS2 := Lib.hid (Since.trans HS1.out hb)
  have HBL2 := Lib.hid (keep_blk hb HBL1.out)
  have HBQ2 := Lib.hid (keep_blk hb HBQ1.out)
  have HFr2 := Lib.hid (keep_own hb HOW1.out)
  clear HS1 HBL1 HBQ1 HOW1
  clear hb
  refine wpList_q (by rfl) (.bool false) ?he ?_
  case he => (go_simp; (try with_reducible rfl))
  (try simp only [Act.put, sA, sB, sC])
  refine wpList_nil ?_
  go_upto_region 3 with fail
  refine wp_region_lit ?_
  refine wpList_q (by rfl) (.pointer (some ⟨t, 0, none⟩)) ?he ?_
  case he => (first | rfl | (go_simp; (try with_reducible rfl)))
  (try simp only [Act.put, sA, sB, sC])
  refine wpList_q (by rfl) (.func (.func 74) #[] #[.pointer (some ⟨w.heap.size, 0, none⟩)]) ?he ?_
  case he => (first | rfl | (go_simp; (try rfl)))
  (try simp only [Act.put, sA, sB, sC])
  refine wpList_wp (by rfl) (fun K hK => ?_)
  (try go_simp)
  refine (findM lo t c ls A cap 74 (.pointer (some ⟨w.heap.size, 0, none⟩)) (isP l) _ (show Blk _ t 101 (tabC c (.slice A ls.length cap)) from HBQ2.out) HFr2.out HL.out (fun l2 w1 hs => put1T w.heap.size l l2 w1 (keep_blk hs HBL2.out)) (fun args w1 => enterF Try.func74 (by kernel_rfl) rfl args w1) HF.out).mono ?_
  rintro e w3 ⟨rfl, hb⟩
  (try go_wp2_with fail)
  refine hK.out _ _ ?_
  clear hK K
  (try simp only [Act.put, sA, sB, sC])
  have HS3 := Lib.hid (Since.trans HS2.out hb)
  have HBL3 := Lib.hid (keep_blk hb HBL2.out)
  have HBQ3 := Lib.hid (keep_blk hb HBQ2.out)
  have HFr3 := Lib.hid (keep_own hb HFr2.out)
  clear HS2 HBL2 HBQ2 HFr2
  clear hb
  refine wpList_q (by rfl) (.int .i64 (-1)) ?he ?_
  case he => (first | rfl | (go_simp; (try with_reducible rfl)))
  (try simp only [Act.put, sA, sB, sC])
  refine wpList_nil ?_
  go_upto_region 4 with fail
  refine wp_region_lit ?_
  refine wpList_q (by rfl) (.int .i64 (-1)) ?he ?_
  case he => (first | rfl | (go_simp; (try with_reducible rfl)))
  (try simp only [Act.put, sA, sB, sC])
  refine wpList_q (by rfl) (.bool false) ?he ?_
  case he => (go_simp; (try with_reducible rfl))
  (try simp only [Act.put, sA, sB, sC])
  refine wpList_nil ?_
  go_upto_region 6 with fail
  have hrK : ∀ W W' : World, Since W W' → (Since w W ∧ Blk W w.heap.size 56 #[.int .i64 l.se, .int .i64 l.fl, .int .i64 l.fm, .int .i64 l.to, .int .i64 l.ma, .int .i64 l.ca, .int .i64 l.ph, .int .i64 l.un, .int .i64 l.re, .int .i64 l.gr] ∧ Blk W t 101 #[.int .i64 c.ca, .int .i64 c.fl, .int .i64 c.ft, .int .i64 c.se, .int .i64 c.dr, .int .i64 c.dw, .int .i64 c.ho, .int .i64 c.re, .int .i64 c.yi, .int .i64 c.qu, .int .i64 c.qo, .int .i64 c.lo, .int .i64 c.sl, .int .i64 c.rt, .int .i64 c.cp, .int .i64 c.tr, .int .i64 c.de, .int .i64 c.wi, .slice A ls.length cap] ∧ (W).ownsRow lo 56 10 (.slice A ls.length cap) ls.length (rowsOf leaC ls)) → (Since w W' ∧ Blk W' w.heap.size 56 #[.int .i64 l.se, .int .i64 l.fl, .int .i64 l.fm, .int .i64 l.to, .int .i64 l.ma, .int .i64 l.ca, .int .i64 l.ph, .int .i64 l.un, .int .i64 l.re, .int .i64 l.gr] ∧ Blk W' t 101 #[.int .i64 c.ca, .int .i64 c.fl, .int .i64 c.ft, .int .i64 c.se, .int .i64 c.dr, .int .i64 c.dw, .int .i64 c.ho, .int .i64 c.re, .int .i64 c.yi, .int .i64 c.qu, .int .i64 c.qo, .int .i64 c.lo, .int .i64 c.sl, .int .i64 c.rt, .int .i64 c.cp, .int .i64 c.tr, .int .i64 c.de, .int .i64 c.wi, .slice A ls.length cap] ∧ (W').ownsRow lo 56 10 (.slice A ls.length cap) ls.length (rowsOf leaC ls)) := fun W W' k ⟨h, h0, h1, h2⟩ => ⟨h.trans k, keep_blk k h0, keep_blk k h1, keep_own k h2⟩
  have hrS : (fun W : World => Since w W ∧ Blk W w.heap.size 56 #[.int .i64 l.se, .int .i64 l.fl, .int .i64 l.fm, .int .i64 l.to, .int .i64 l.ma, .int .i64 l.ca, .int .i64 l.ph, .int .i64 l.un, .int .i64 l.re, .int .i64 l.gr] ∧ Blk W t 101 #[.int .i64 c.ca, .int .i64 c.fl, .int .i64 c.ft, .int .i64 c.se, .int .i64 c.dr, .int .i64 c.dw, .int .i64 c.ho, .int .i64 c.re, .int .i64 c.yi, .int .i64 c.qu, .int .i64 c.qo, .int .i64 c.lo, .int .i64 c.sl, .int .i64 c.rt, .int .i64 c.cp, .int .i64 c.tr, .int .i64 c.de, .int .i64 c.wi, .slice A ls.length cap] ∧ (W).ownsRow lo 56 10 (.slice A ls.length cap) ls.length (rowsOf leaC ls)) w3 := ⟨HS3.out, HBL3.out, HBQ3.out, HFr3.out⟩
  have HRK := Lib.hid hrK
  have HRD := Lib.hid (show (fun W : World => Since w W ∧ Blk W w.heap.size 56 #[.int .i64 l.se, .int .i64 l.fl, .int .i64 l.fm, .int .i64 l.to, .int .i64 l.ma, .int .i64 l.ca, .int .i64 l.ph, .int .i64 l.un, .int .i64 l.re, .int .i64 l.gr] ∧ Blk W t 101 #[.int .i64 c.ca, .int .i64 c.fl, .int .i64 c.ft, .int .i64 c.se, .int .i64 c.dr, .int .i64 c.dw, .int .i64 c.ho, .int .i64 c.re, .int .i64 c.yi, .int .i64 c.qu, .int .i64 c.qo, .int .i64 c.lo, .int .i64 c.sl, .int .i64 c.rt, .int .i64 c.cp, .int .i64 c.tr, .int .i64 c.de, .int .i64 c.wi, .slice A ls.length cap] ∧ (W).ownsRow lo 56 10 (.slice A ls.length cap) ls.length (rowsOf leaC ls)) (World.drew w3) from ⟨Since.drew hrS.1, hrS.2⟩)
  clear hrK hrS
  refine wp_region_held_drew (S := fun W : World => Since w W ∧ Blk W w.heap.size 56 #[.int .i64 l.se, .int .i64 l.fl, .int .i64 l.fm, .int .i64 l.to, .int .i64 l.ma, .int .i64 l.ca, .int .i64 l.ph, .int .i64 l.un, .int .i64 l.re, .int .i64 l.gr] ∧ Blk W t 101 #[.int .i64 c.ca, .int .i64 c.fl, .int .i64 c.ft, .int .i64 c.se, .int .i64 c.dr, .int .i64 c.dw, .int .i64 c.ho, .int .i64 c.re, .int .i64 c.yi, .int .i64 c.qu, .int .i64 c.qo, .int .i64 c.lo, .int .i64 c.sl, .int .i64 c.rt, .int .i64 c.cp, .int .i64 c.tr, .int .i64 c.de, .int .i64 c.wi, .slice A ls.length cap] ∧ (W).ownsRow lo 56 10 (.slice A ls.length cap) ls.length (rowsOf leaC ls)) (by kernel_rfl) HRD.out (fun hHeld => ?_)
  refine wpAnyH_take (i := 0) (oi := ?o6__0) (v := .pointer (some ⟨t, 0, none⟩)) ?h6__0 (by kernel_rfl) (by kernel_rfl) (by kernel_rfl) ?q6__0 ?y6__0 (by assumption) ?_
  case h6__0 => (first | (simp only [gA, gB, gC]; done) | (simp only [gA, gB, gC]; exact rfl))
  case q6__0 => exact fun _ _ _ h => h
  case y6__0 => (refine Or.inl ⟨rfl, ?_⟩; intro w hSw; (first | rfl | (go_simp; (try with_reducible rfl))))
  (try simp only [Act.put, sA, sB, sC])
  refine wpAnyH_take (i := 1) (oi := ?o6__1) (v := .pointer (some ⟨t, 0, none⟩)) ?h6__1 (by kernel_rfl) (by kernel_rfl) (by kernel_rfl) ?q6__1 ?y6__1 (by assumption) ?_
  case h6__1 => (first | (simp only [gA, gB, gC]; done) | (simp only [gA, gB, gC]; exact rfl))
  case q6__1 => exact fun _ _ _ h => h
  case y6__1 => (refine Or.inl ⟨rfl, ?_⟩; intro w hSw; (first | rfl | (go_simp; (try with_reducible rfl))))
  (try simp only [Act.put, sA, sB, sC])
  refine wpAnyH_take (i := 2) (oi := ?o6__2) (v := .pointer (some ⟨t, 0, none⟩)) ?h6__2 (by kernel_rfl) (by kernel_rfl) (by kernel_rfl) ?q6__2 ?y6__2 (by assumption) ?_
  case h6__2 => (first | (simp only [gA, gB, gC]; done) | (simp only [gA, gB, gC]; exact rfl))
  case q6__2 => exact fun _ _ _ h => h
  case y6__2 => (refine Or.inl ⟨rfl, ?_⟩; intro w hSw; (first | rfl | (go_simp; (try with_reducible rfl))))
  (try simp only [Act.put, sA, sB, sC])
  refine wpAnyH_take (i := 3) (oi := ?o6__3) (v := .agg #[.int .i64 c.ca, .int .i64 c.fl, .int .i64 c.ft, .int .i64 c.se, .int .i64 c.dr, .int .i64 c.dw, .int .i64 c.ho, .int .i64 c.re, .int .i64 c.yi, .int .i64 c.qu, .int .i64 c.qo, .int .i64 c.lo, .int .i64 c.sl, .int .i64 c.rt, .int .i64 c.cp, .int .i64 c.tr, .int .i64 c.de, .int .i64 c.wi]) ?h6__3 (by kernel_rfl) (by kernel_rfl) (by kernel_rfl) ?q6__3 ?y6__3 (by assumption) ?_
  case h6__3 => (first | (simp only [gA, gB, gC]; done) | (simp only [gA, gB, gC]; exact rfl))
  case q6__3 => exact fun _ _ _ h => h
  case y6__3 => (refine Or.inl ⟨rfl, ?_⟩; intro w hSw; exact exec_part (n := 18) 23 _ _ hSw.2.2.1 rfl rfl rfl rfl Try.underlying23 rfl (by kernel_rfl))
  (try simp only [Act.put, sA, sB, sC])
  refine wpAnyH_take (i := 4) (oi := ?o6__4) (v := .pointer (some ⟨t, 0, none⟩)) ?h6__4 (by kernel_rfl) (by kernel_rfl) (by kernel_rfl) ?q6__4 ?y6__4 (by assumption) ?_
  case h6__4 => (first | (simp only [gA, gB, gC]; done) | (simp only [gA, gB, gC]; exact rfl))
  case q6__4 => exact fun _ _ _ h => h
  case y6__4 => (refine Or.inl ⟨rfl, ?_⟩; intro w hSw; (first | rfl | (go_simp; (try with_reducible rfl))))
  (try simp only [Act.put, sA, sB, sC])
  refine wpAnyH_take (i := 5) (oi := ?o6__5) (v := .pointer (some ⟨t, 0, none⟩)) ?h6__5 (by kernel_rfl) (by kernel_rfl) (by kernel_rfl) ?q6__5 ?y6__5 (by assumption) ?_
  case h6__5 => (first | (simp only [gA, gB, gC]; done) | (simp only [gA, gB, gC]; exact rfl))
  case q6__5 => exact fun _ _ _ h => h
  case y6__5 => (refine Or.inl ⟨rfl, ?_⟩; intro w hSw; (first | rfl | (go_simp; (try with_reducible rfl))))
  (try simp only [Act.put, sA, sB, sC])
  refine wpAnyH_take (i := 6) (oi := ?o6__6) (v := .pointer (some ⟨t, 18, none⟩)) ?h6__6 (by kernel_rfl) (by kernel_rfl) (by kernel_rfl) ?q6__6 ?y6__6 (by assumption) ?_
  case h6__6 => (first | (simp only [gA, gB, gC]; done) | (simp only [gA, gB, gC]; exact rfl))
  case q6__6 => exact fun _ _ _ h => h
  case y6__6 => (refine Or.inl ⟨rfl, ?_⟩; intro w hSw; (first | rfl | (go_simp; (try with_reducible rfl))))
  (try simp only [Act.put, sA, sB, sC])
  refine wpAnyH_take (i := 7) (oi := ?o6__7) (v := .slice A ls.length cap) ?h6__7 (by kernel_rfl) (by kernel_rfl) (by kernel_rfl) ?q6__7 ?y6__7 (by assumption) ?_
  case h6__7 => (first | (simp only [gA, gB, gC]; done) | (simp only [gA, gB, gC]; exact rfl))
  case q6__7 => exact fun _ _ _ h => h
  case y6__7 => (refine Or.inl ⟨rfl, ?_⟩; intro w hSw; exact exec_cell 24 _ _ hSw.2.2.1 rfl rfl rfl Try.underlying24 rfl)
  (try simp only [Act.put, sA, sB, sC])
  refine wpAnyH_take (i := 8) (oi := ?o6__8) (v := .pointer (some ⟨w.heap.size, 0, none⟩)) ?h6__8 (by kernel_rfl) (by kernel_rfl) (by kernel_rfl) ?q6__8 ?y6__8 (by assumption) ?_
  case h6__8 => (first | (simp only [gA, gB, gC]; done) | (simp only [gA, gB, gC]; exact rfl))
  case q6__8 => exact fun _ _ _ h => h
  case y6__8 => (refine Or.inl ⟨rfl, ?_⟩; intro w hSw; (first | rfl | (go_simp; (try with_reducible rfl))))
  (try simp only [Act.put, sA, sB, sC])
  refine wpAnyH_take (i := 9) (oi := ?o6__9) (v := .pointer (some ⟨w.heap.size, 1, none⟩)) ?h6__9 (by kernel_rfl) (by kernel_rfl) (by kernel_rfl) ?q6__9 ?y6__9 (by assumption) ?_
  case h6__9 => (first | (simp only [gA, gB, gC]; done) | (simp only [gA, gB, gC]; exact rfl))
  case q6__9 => exact fun _ _ _ h => h
  case y6__9 => (refine Or.inl ⟨rfl, ?_⟩; intro w hSw; (first | rfl | (go_simp; (try with_reducible rfl))))
  (try simp only [Act.put, sA, sB, sC])
  refine wpAnyH_take (i := 10) (oi := ?o6__10) (v := .int .i64 l.fl) ?h6__10 (by kernel_rfl) (by kernel_rfl) (by kernel_rfl) ?q6__10 ?y6__10 (by assumption) ?_
  case h6__10 => (first | (simp only [gA, gB, gC]; done) | (simp only [gA, gB, gC]; exact rfl))
  case q6__10 => exact fun _ _ _ h => h
  case y6__10 => (refine Or.inl ⟨rfl, ?_⟩; intro w hSw; exact exec_cell 3 _ _ hSw.2.1 rfl rfl rfl Try.underlying3 rfl)
  (try simp only [Act.put, sA, sB, sC])
  refine wpAnyH_ready (rs := [11]) (by kernel_rfl) (by simp) ?_
  refine AllReadyH.cons (o := ?o6__11) ?h6__11 (fun K hK => ?_) AllReadyH.nil
  case h6__11 => (first | (simp only [gA, gB, gC]; done) | (simp only [gA, gB, gC]; exact rfl))
  (try go_simp)
  refine (freeV c ls lo A cap l.fl false _ (hHeld.2.2.2) HL.out HU.out).mono ?_
  rintro e w4 ⟨rfl, hb⟩
  (try go_wp2_with fail)
  refine hK.out _ _ (by (apply HRK.out; exact hb; exact hHeld)) (fun hHeld2 => ?_)
  clear hK K hHeld hb
  have hHeld := hHeld2
  clear hHeld2
  (try simp only [Act.put, sA, sB, sC])
  refine wpAnyH_take (i := 12) (oi := ?o6__12) (v := .bool true) ?h6__12 (by kernel_rfl) (by kernel_rfl) (by kernel_rfl) ?q6__12 ?y6__12 (by assumption) ?_
  case h6__12 => (first | (simp only [gA, gB, gC]; done) | (simp only [gA, gB, gC]; exact rfl))
  case q6__12 => exact fun _ _ _ h => h
  case y6__12 => (refine Or.inl ⟨rfl, ?_⟩; intro w hSw; (go_simp; (try with_reducible rfl)))
  (try simp only [Act.put, sA, sB, sC])
  refine wpAnyH_done (by kernel_rfl) ?_ _
  have HSd6 := Lib.hid hHeld.1
  have HBLd6 := Lib.hid (hHeld.2.1)
  have HBQd6 := Lib.hid (hHeld.2.2.1)
  have HFrd6 := Lib.hid (hHeld.2.2.2)
  clear hHeld HRK HRD HS3 HBL3 HBQ3 HFr3
  go_upto_region 7 with fail
  refine wp_region_lit ?_
  refine wpList_q (by rfl) (.int .i64 5) ?he ?_
  case he => (first | rfl | (go_simp; (try with_reducible rfl)))
  (try simp only [Act.put, sA, sB, sC])
  refine wpList_nil ?_
  (try go_wp2_with fail)
  go_ret
  exact ⟨rfl, HSd6.out⟩
set_option maxHeartbeats 4000000 in
theorem putOk (lo t : Nat) (c : CfgV) (ls : List LeaseV) (A : Option Addr) (cap : Nat) (l : LeaseV) (w : World) (hq : Blk w t 101 (tabC c (.slice A ls.length cap))) (ho : w.ownsRow lo 56 10 (.slice A ls.length cap) ls.length (rowsOf leaC ls)) (hl : ls.length ≤ 10000) (hg : goodB c l = true) (hf : atP ls (isP l) = none) (hu : full c ls l.fl = false) (h0 : lo ≤ t) : Calls Try.prog 35 #[.pointer (some ⟨t, 0, none⟩), .agg #[.int .i64 l.se, .int .i64 l.fl, .int .i64 l.fm, .int .i64 l.to, .int .i64 l.ma, .int .i64 l.ca, .int .i64 l.ph, .int .i64 l.un, .int .i64 l.re, .int .i64 l.gr]] w fun e w' => e = .returned (.int .i64 0) ∧ ∃ S', TO lo t c (ls ++ [l]) S' w' ∧ Upd (t :: blkOf A) w w' ∧ ∀ g ∈ S', g ∈ t :: blkOf A ∨ w.heap.size ≤ g := by
  have HBQ := Lib.hid (show Blk w t 101 #[.int .i64 c.ca, .int .i64 c.fl, .int .i64 c.ft, .int .i64 c.se, .int .i64 c.dr, .int .i64 c.dw, .int .i64 c.ho, .int .i64 c.re, .int .i64 c.yi, .int .i64 c.qu, .int .i64 c.qo, .int .i64 c.lo, .int .i64 c.sl, .int .i64 c.rt, .int .i64 c.cp, .int .i64 c.tr, .int .i64 c.de, .int .i64 c.wi, .slice A ls.length cap] from hq)
  clear hq
  have HOW := Lib.hid ho
  clear ho
  have HL := Lib.hid hl
  clear hl
  have HG := Lib.hid hg
  clear hg
  have HF := Lib.hid hf
  clear hf
  have HU := Lib.hid hu
  clear hu
  have H0 := Lib.hid h0
  clear h0
  go_enter Try.func35, Try.ntmps35
  go_upto_region 1 with fail
  obtain ⟨w1, hw1⟩ : ∃ w1, w1 = (w.alloc (.cells #[.int .i64 l.se, .int .i64 l.fl, .int .i64 l.fm, .int .i64 l.to, .int .i64 l.ma, .int .i64 l.ca, .int .i64 l.ph, .int .i64 l.un, .int .i64 l.re, .int .i64 l.gr] 56)) := ⟨_, rfl⟩
  rw [← hw1]
  have HBL1 := Lib.hid (show Blk w1 (w.heap.size) 56 #[.int .i64 l.se, .int .i64 l.fl, .int .i64 l.fm, .int .i64 l.to, .int .i64 l.ma, .int .i64 l.ca, .int .i64 l.ph, .int .i64 l.un, .int .i64 l.re, .int .i64 l.gr] by rw [hw1]; exact Blk.at_ (by (try simp only [size_alloc])) _ _)
  have HS1 := Lib.hid (show Since w w1 by rw [hw1]; exact Since.alloc (Since.refl w) _)
  have hNE : w.heap.size ≤ w.heap.size := by omega
  have HNE := Lib.hid hNE
  clear hNE hw1
  have HNE3 := Lib.hid (show w.heap.size ≤ w.heap.size from HNE.out)
  clear HNE
  have HBQ1 := Lib.hid (keep_blk HS1.out HBQ.out)
  have HOW1 := Lib.hid (keep_own HS1.out HOW.out)
  have HIQ := Lib.hid (own_ne_ty HOW.out HBQ.out (by decide))
  have HIA := Lib.hid (own_far HOW.out (Nat.le_refl _))
  have HNQA := Lib.hid (show t ≠ w.heap.size by have := Blk.lt HBQ.out; omega)
  have HLO := Lib.hid (show t < w.heap.size from Blk.lt HBQ.out)
  clear HBQ HOW
  refine wp_region_lit ?_
  refine wpList_q (by rfl) (.pointer (some ⟨t, 0, none⟩)) ?he ?_
  case he => (first | rfl | (go_simp; (try with_reducible rfl)))
  (try simp only [Act.put, sA, sB, sC])
  refine wpList_q (by rfl) (.agg #[.int .i64 l.se, .int .i64 l.fl, .int .i64 l.fm, .int .i64 l.to, .int .i64 l.ma, .int .i64 l.ca, .int .i64 l.ph, .int .i64 l.un, .int .i64 l.re, .int .i64 l.gr]) ?he ?_
  case he => exact exec_load_row 56 _ _ HBL1.out rfl rfl Try.underlying56 rfl (by kernel_rfl)
  (try simp only [Act.put, sA, sB, sC])
  refine wpList_wp (by rfl) (fun K hK => ?_)
  (try go_simp)
  refine (goodV t c ls A cap l true _ (show Blk _ t 101 (tabC c (.slice A ls.length cap)) from HBQ1.out) HG.out).mono ?_
  rintro e w2 ⟨rfl, hb⟩
  (try go_wp2_with fail)
  refine hK.out _ _ ?_
  clear hK K
  (try simp only [Act.put, sA, sB, sC])
  have HS2 := Lib.hid (Since.trans HS1.out hb)
  have HBL2 := Lib.hid (keep_blk hb HBL1.out)
  have HBQ2 := Lib.hid (keep_blk hb HBQ1.out)
  have HFr2 := Lib.hid (keep_own hb HOW1.out)
  clear HS1 HBL1 HBQ1 HOW1
  clear hb
  refine wpList_q (by rfl) (.bool false) ?he ?_
  case he => (go_simp; (try with_reducible rfl))
  (try simp only [Act.put, sA, sB, sC])
  refine wpList_nil ?_
  go_upto_region 3 with fail
  refine wp_region_lit ?_
  refine wpList_q (by rfl) (.pointer (some ⟨t, 0, none⟩)) ?he ?_
  case he => (first | rfl | (go_simp; (try with_reducible rfl)))
  (try simp only [Act.put, sA, sB, sC])
  refine wpList_q (by rfl) (.func (.func 74) #[] #[.pointer (some ⟨w.heap.size, 0, none⟩)]) ?he ?_
  case he => (first | rfl | (go_simp; (try rfl)))
  (try simp only [Act.put, sA, sB, sC])
  refine wpList_wp (by rfl) (fun K hK => ?_)
  (try go_simp)
  refine (findM lo t c ls A cap 74 (.pointer (some ⟨w.heap.size, 0, none⟩)) (isP l) _ (show Blk _ t 101 (tabC c (.slice A ls.length cap)) from HBQ2.out) HFr2.out HL.out (fun l2 w1 hs => put1T w.heap.size l l2 w1 (keep_blk hs HBL2.out)) (fun args w1 => enterF Try.func74 (by kernel_rfl) rfl args w1) HF.out).mono ?_
  rintro e w3 ⟨rfl, hb⟩
  (try go_wp2_with fail)
  refine hK.out _ _ ?_
  clear hK K
  (try simp only [Act.put, sA, sB, sC])
  have HS3 := Lib.hid (Since.trans HS2.out hb)
  have HBL3 := Lib.hid (keep_blk hb HBL2.out)
  have HBQ3 := Lib.hid (keep_blk hb HBQ2.out)
  have HFr3 := Lib.hid (keep_own hb HFr2.out)
  clear HS2 HBL2 HBQ2 HFr2
  clear hb
  refine wpList_q (by rfl) (.int .i64 (-1)) ?he ?_
  case he => (first | rfl | (go_simp; (try with_reducible rfl)))
  (try simp only [Act.put, sA, sB, sC])
  refine wpList_nil ?_
  go_upto_region 4 with fail
  refine wp_region_lit ?_
  refine wpList_q (by rfl) (.int .i64 (-1)) ?he ?_
  case he => (first | rfl | (go_simp; (try with_reducible rfl)))
  (try simp only [Act.put, sA, sB, sC])
  refine wpList_q (by rfl) (.bool false) ?he ?_
  case he => (go_simp; (try with_reducible rfl))
  (try simp only [Act.put, sA, sB, sC])
  refine wpList_nil ?_
  go_upto_region 6 with fail
  have hrK : ∀ W W' : World, Since W W' → (Since w W ∧ Blk W w.heap.size 56 #[.int .i64 l.se, .int .i64 l.fl, .int .i64 l.fm, .int .i64 l.to, .int .i64 l.ma, .int .i64 l.ca, .int .i64 l.ph, .int .i64 l.un, .int .i64 l.re, .int .i64 l.gr] ∧ Blk W t 101 #[.int .i64 c.ca, .int .i64 c.fl, .int .i64 c.ft, .int .i64 c.se, .int .i64 c.dr, .int .i64 c.dw, .int .i64 c.ho, .int .i64 c.re, .int .i64 c.yi, .int .i64 c.qu, .int .i64 c.qo, .int .i64 c.lo, .int .i64 c.sl, .int .i64 c.rt, .int .i64 c.cp, .int .i64 c.tr, .int .i64 c.de, .int .i64 c.wi, .slice A ls.length cap] ∧ (W).ownsRow lo 56 10 (.slice A ls.length cap) ls.length (rowsOf leaC ls)) → (Since w W' ∧ Blk W' w.heap.size 56 #[.int .i64 l.se, .int .i64 l.fl, .int .i64 l.fm, .int .i64 l.to, .int .i64 l.ma, .int .i64 l.ca, .int .i64 l.ph, .int .i64 l.un, .int .i64 l.re, .int .i64 l.gr] ∧ Blk W' t 101 #[.int .i64 c.ca, .int .i64 c.fl, .int .i64 c.ft, .int .i64 c.se, .int .i64 c.dr, .int .i64 c.dw, .int .i64 c.ho, .int .i64 c.re, .int .i64 c.yi, .int .i64 c.qu, .int .i64 c.qo, .int .i64 c.lo, .int .i64 c.sl, .int .i64 c.rt, .int .i64 c.cp, .int .i64 c.tr, .int .i64 c.de, .int .i64 c.wi, .slice A ls.length cap] ∧ (W').ownsRow lo 56 10 (.slice A ls.length cap) ls.length (rowsOf leaC ls)) := fun W W' k ⟨h, h0, h1, h2⟩ => ⟨h.trans k, keep_blk k h0, keep_blk k h1, keep_own k h2⟩
  have hrS : (fun W : World => Since w W ∧ Blk W w.heap.size 56 #[.int .i64 l.se, .int .i64 l.fl, .int .i64 l.fm, .int .i64 l.to, .int .i64 l.ma, .int .i64 l.ca, .int .i64 l.ph, .int .i64 l.un, .int .i64 l.re, .int .i64 l.gr] ∧ Blk W t 101 #[.int .i64 c.ca, .int .i64 c.fl, .int .i64 c.ft, .int .i64 c.se, .int .i64 c.dr, .int .i64 c.dw, .int .i64 c.ho, .int .i64 c.re, .int .i64 c.yi, .int .i64 c.qu, .int .i64 c.qo, .int .i64 c.lo, .int .i64 c.sl, .int .i64 c.rt, .int .i64 c.cp, .int .i64 c.tr, .int .i64 c.de, .int .i64 c.wi, .slice A ls.length cap] ∧ (W).ownsRow lo 56 10 (.slice A ls.length cap) ls.length (rowsOf leaC ls)) w3 := ⟨HS3.out, HBL3.out, HBQ3.out, HFr3.out⟩
  have HRK := Lib.hid hrK
  have HRD := Lib.hid (show (fun W : World => Since w W ∧ Blk W w.heap.size 56 #[.int .i64 l.se, .int .i64 l.fl, .int .i64 l.fm, .int .i64 l.to, .int .i64 l.ma, .int .i64 l.ca, .int .i64 l.ph, .int .i64 l.un, .int .i64 l.re, .int .i64 l.gr] ∧ Blk W t 101 #[.int .i64 c.ca, .int .i64 c.fl, .int .i64 c.ft, .int .i64 c.se, .int .i64 c.dr, .int .i64 c.dw, .int .i64 c.ho, .int .i64 c.re, .int .i64 c.yi, .int .i64 c.qu, .int .i64 c.qo, .int .i64 c.lo, .int .i64 c.sl, .int .i64 c.rt, .int .i64 c.cp, .int .i64 c.tr, .int .i64 c.de, .int .i64 c.wi, .slice A ls.length cap] ∧ (W).ownsRow lo 56 10 (.slice A ls.length cap) ls.length (rowsOf leaC ls)) (World.drew w3) from ⟨Since.drew hrS.1, hrS.2⟩)
  clear hrK hrS
  refine wp_region_held_drew (S := fun W : World => Since w W ∧ Blk W w.heap.size 56 #[.int .i64 l.se, .int .i64 l.fl, .int .i64 l.fm, .int .i64 l.to, .int .i64 l.ma, .int .i64 l.ca, .int .i64 l.ph, .int .i64 l.un, .int .i64 l.re, .int .i64 l.gr] ∧ Blk W t 101 #[.int .i64 c.ca, .int .i64 c.fl, .int .i64 c.ft, .int .i64 c.se, .int .i64 c.dr, .int .i64 c.dw, .int .i64 c.ho, .int .i64 c.re, .int .i64 c.yi, .int .i64 c.qu, .int .i64 c.qo, .int .i64 c.lo, .int .i64 c.sl, .int .i64 c.rt, .int .i64 c.cp, .int .i64 c.tr, .int .i64 c.de, .int .i64 c.wi, .slice A ls.length cap] ∧ (W).ownsRow lo 56 10 (.slice A ls.length cap) ls.length (rowsOf leaC ls)) (by kernel_rfl) HRD.out (fun hHeld => ?_)
  refine wpAnyH_take (i := 0) (oi := ?o6__0) (v := .pointer (some ⟨t, 0, none⟩)) ?h6__0 (by kernel_rfl) (by kernel_rfl) (by kernel_rfl) ?q6__0 ?y6__0 (by assumption) ?_
  case h6__0 => (first | (simp only [gA, gB, gC]; done) | (simp only [gA, gB, gC]; exact rfl))
  case q6__0 => exact fun _ _ _ h => h
  case y6__0 => (refine Or.inl ⟨rfl, ?_⟩; intro w hSw; (first | rfl | (go_simp; (try with_reducible rfl))))
  (try simp only [Act.put, sA, sB, sC])
  refine wpAnyH_take (i := 1) (oi := ?o6__1) (v := .pointer (some ⟨t, 0, none⟩)) ?h6__1 (by kernel_rfl) (by kernel_rfl) (by kernel_rfl) ?q6__1 ?y6__1 (by assumption) ?_
  case h6__1 => (first | (simp only [gA, gB, gC]; done) | (simp only [gA, gB, gC]; exact rfl))
  case q6__1 => exact fun _ _ _ h => h
  case y6__1 => (refine Or.inl ⟨rfl, ?_⟩; intro w hSw; (first | rfl | (go_simp; (try with_reducible rfl))))
  (try simp only [Act.put, sA, sB, sC])
  refine wpAnyH_take (i := 2) (oi := ?o6__2) (v := .pointer (some ⟨t, 0, none⟩)) ?h6__2 (by kernel_rfl) (by kernel_rfl) (by kernel_rfl) ?q6__2 ?y6__2 (by assumption) ?_
  case h6__2 => (first | (simp only [gA, gB, gC]; done) | (simp only [gA, gB, gC]; exact rfl))
  case q6__2 => exact fun _ _ _ h => h
  case y6__2 => (refine Or.inl ⟨rfl, ?_⟩; intro w hSw; (first | rfl | (go_simp; (try with_reducible rfl))))
  (try simp only [Act.put, sA, sB, sC])
  refine wpAnyH_take (i := 3) (oi := ?o6__3) (v := .agg #[.int .i64 c.ca, .int .i64 c.fl, .int .i64 c.ft, .int .i64 c.se, .int .i64 c.dr, .int .i64 c.dw, .int .i64 c.ho, .int .i64 c.re, .int .i64 c.yi, .int .i64 c.qu, .int .i64 c.qo, .int .i64 c.lo, .int .i64 c.sl, .int .i64 c.rt, .int .i64 c.cp, .int .i64 c.tr, .int .i64 c.de, .int .i64 c.wi]) ?h6__3 (by kernel_rfl) (by kernel_rfl) (by kernel_rfl) ?q6__3 ?y6__3 (by assumption) ?_
  case h6__3 => (first | (simp only [gA, gB, gC]; done) | (simp only [gA, gB, gC]; exact rfl))
  case q6__3 => exact fun _ _ _ h => h
  case y6__3 => (refine Or.inl ⟨rfl, ?_⟩; intro w hSw; exact exec_part (n := 18) 23 _ _ hSw.2.2.1 rfl rfl rfl rfl Try.underlying23 rfl (by kernel_rfl))
  (try simp only [Act.put, sA, sB, sC])
  refine wpAnyH_take (i := 4) (oi := ?o6__4) (v := .pointer (some ⟨t, 0, none⟩)) ?h6__4 (by kernel_rfl) (by kernel_rfl) (by kernel_rfl) ?q6__4 ?y6__4 (by assumption) ?_
  case h6__4 => (first | (simp only [gA, gB, gC]; done) | (simp only [gA, gB, gC]; exact rfl))
  case q6__4 => exact fun _ _ _ h => h
  case y6__4 => (refine Or.inl ⟨rfl, ?_⟩; intro w hSw; (first | rfl | (go_simp; (try with_reducible rfl))))
  (try simp only [Act.put, sA, sB, sC])
  refine wpAnyH_take (i := 5) (oi := ?o6__5) (v := .pointer (some ⟨t, 0, none⟩)) ?h6__5 (by kernel_rfl) (by kernel_rfl) (by kernel_rfl) ?q6__5 ?y6__5 (by assumption) ?_
  case h6__5 => (first | (simp only [gA, gB, gC]; done) | (simp only [gA, gB, gC]; exact rfl))
  case q6__5 => exact fun _ _ _ h => h
  case y6__5 => (refine Or.inl ⟨rfl, ?_⟩; intro w hSw; (first | rfl | (go_simp; (try with_reducible rfl))))
  (try simp only [Act.put, sA, sB, sC])
  refine wpAnyH_take (i := 6) (oi := ?o6__6) (v := .pointer (some ⟨t, 18, none⟩)) ?h6__6 (by kernel_rfl) (by kernel_rfl) (by kernel_rfl) ?q6__6 ?y6__6 (by assumption) ?_
  case h6__6 => (first | (simp only [gA, gB, gC]; done) | (simp only [gA, gB, gC]; exact rfl))
  case q6__6 => exact fun _ _ _ h => h
  case y6__6 => (refine Or.inl ⟨rfl, ?_⟩; intro w hSw; (first | rfl | (go_simp; (try with_reducible rfl))))
  (try simp only [Act.put, sA, sB, sC])
  refine wpAnyH_take (i := 7) (oi := ?o6__7) (v := .slice A ls.length cap) ?h6__7 (by kernel_rfl) (by kernel_rfl) (by kernel_rfl) ?q6__7 ?y6__7 (by assumption) ?_
  case h6__7 => (first | (simp only [gA, gB, gC]; done) | (simp only [gA, gB, gC]; exact rfl))
  case q6__7 => exact fun _ _ _ h => h
  case y6__7 => (refine Or.inl ⟨rfl, ?_⟩; intro w hSw; exact exec_cell 24 _ _ hSw.2.2.1 rfl rfl rfl Try.underlying24 rfl)
  (try simp only [Act.put, sA, sB, sC])
  refine wpAnyH_take (i := 8) (oi := ?o6__8) (v := .pointer (some ⟨w.heap.size, 0, none⟩)) ?h6__8 (by kernel_rfl) (by kernel_rfl) (by kernel_rfl) ?q6__8 ?y6__8 (by assumption) ?_
  case h6__8 => (first | (simp only [gA, gB, gC]; done) | (simp only [gA, gB, gC]; exact rfl))
  case q6__8 => exact fun _ _ _ h => h
  case y6__8 => (refine Or.inl ⟨rfl, ?_⟩; intro w hSw; (first | rfl | (go_simp; (try with_reducible rfl))))
  (try simp only [Act.put, sA, sB, sC])
  refine wpAnyH_take (i := 9) (oi := ?o6__9) (v := .pointer (some ⟨w.heap.size, 1, none⟩)) ?h6__9 (by kernel_rfl) (by kernel_rfl) (by kernel_rfl) ?q6__9 ?y6__9 (by assumption) ?_
  case h6__9 => (first | (simp only [gA, gB, gC]; done) | (simp only [gA, gB, gC]; exact rfl))
  case q6__9 => exact fun _ _ _ h => h
  case y6__9 => (refine Or.inl ⟨rfl, ?_⟩; intro w hSw; (first | rfl | (go_simp; (try with_reducible rfl))))
  (try simp only [Act.put, sA, sB, sC])
  refine wpAnyH_take (i := 10) (oi := ?o6__10) (v := .int .i64 l.fl) ?h6__10 (by kernel_rfl) (by kernel_rfl) (by kernel_rfl) ?q6__10 ?y6__10 (by assumption) ?_
  case h6__10 => (first | (simp only [gA, gB, gC]; done) | (simp only [gA, gB, gC]; exact rfl))
  case q6__10 => exact fun _ _ _ h => h
  case y6__10 => (refine Or.inl ⟨rfl, ?_⟩; intro w hSw; exact exec_cell 3 _ _ hSw.2.1 rfl rfl rfl Try.underlying3 rfl)
  (try simp only [Act.put, sA, sB, sC])
  refine wpAnyH_ready (rs := [11]) (by kernel_rfl) (by simp) ?_
  refine AllReadyH.cons (o := ?o6__11) ?h6__11 (fun K hK => ?_) AllReadyH.nil
  case h6__11 => (first | (simp only [gA, gB, gC]; done) | (simp only [gA, gB, gC]; exact rfl))
  (try go_simp)
  refine (freeV c ls lo A cap l.fl true _ (hHeld.2.2.2) HL.out HU.out).mono ?_
  rintro e w4 ⟨rfl, hb⟩
  (try go_wp2_with fail)
  refine hK.out _ _ (by (apply HRK.out; exact hb; exact hHeld)) (fun hHeld2 => ?_)
  clear hK K hHeld hb
  have hHeld := hHeld2
  clear hHeld2
  (try simp only [Act.put, sA, sB, sC])
  refine wpAnyH_take (i := 12) (oi := ?o6__12) (v := .bool false) ?h6__12 (by kernel_rfl) (by kernel_rfl) (by kernel_rfl) ?q6__12 ?y6__12 (by assumption) ?_
  case h6__12 => (first | (simp only [gA, gB, gC]; done) | (simp only [gA, gB, gC]; exact rfl))
  case q6__12 => exact fun _ _ _ h => h
  case y6__12 => (refine Or.inl ⟨rfl, ?_⟩; intro w hSw; (go_simp; (try with_reducible rfl)))
  (try simp only [Act.put, sA, sB, sC])
  refine wpAnyH_done (by kernel_rfl) ?_ _
  have HSd6 := Lib.hid hHeld.1
  have HBLd6 := Lib.hid (hHeld.2.1)
  have HBQd6 := Lib.hid (hHeld.2.2.1)
  have HFrd6 := Lib.hid (hHeld.2.2.2)
  clear hHeld HRK HRD HS3 HBL3 HBQ3 HFr3
  have HSU := Lib.hid (show Upd (t :: blkOf A) w w4 from Upd.of_since HSd6.out)
  clear HSd6
  go_upto_region 8 with fail
  have hrK : ∀ W W' : World, Since W W' → (Upd (t :: blkOf A) w W ∧ Blk W w.heap.size 56 #[.int .i64 l.se, .int .i64 l.fl, .int .i64 l.fm, .int .i64 l.to, .int .i64 l.ma, .int .i64 l.ca, .int .i64 l.ph, .int .i64 l.un, .int .i64 l.re, .int .i64 l.gr] ∧ HasRow W t 101 19) → (Upd (t :: blkOf A) w W' ∧ Blk W' w.heap.size 56 #[.int .i64 l.se, .int .i64 l.fl, .int .i64 l.fm, .int .i64 l.to, .int .i64 l.ma, .int .i64 l.ca, .int .i64 l.ph, .int .i64 l.un, .int .i64 l.re, .int .i64 l.gr] ∧ HasRow W' t 101 19) := fun W W' k ⟨h, h0, h1⟩ => ⟨h.trans k, keep_blk k h0, HasRow.keep k h1⟩
  have hrS : (fun W : World => Upd (t :: blkOf A) w W ∧ Blk W w.heap.size 56 #[.int .i64 l.se, .int .i64 l.fl, .int .i64 l.fm, .int .i64 l.to, .int .i64 l.ma, .int .i64 l.ca, .int .i64 l.ph, .int .i64 l.un, .int .i64 l.re, .int .i64 l.gr] ∧ HasRow W t 101 19) w4 := ⟨HSU.out, HBLd6.out, HasRow.of HBQd6.out rfl⟩
  have HRK := Lib.hid hrK
  have HRD := Lib.hid (show (fun W : World => Upd (t :: blkOf A) w W ∧ Blk W w.heap.size 56 #[.int .i64 l.se, .int .i64 l.fl, .int .i64 l.fm, .int .i64 l.to, .int .i64 l.ma, .int .i64 l.ca, .int .i64 l.ph, .int .i64 l.un, .int .i64 l.re, .int .i64 l.gr] ∧ HasRow W t 101 19) (World.drew w4) from ⟨Upd.drew hrS.1, hrS.2⟩)
  clear hrK hrS
  have HPQ := Lib.hid (show Blk (World.drew w4) t 101 #[.int .i64 c.ca, .int .i64 c.fl, .int .i64 c.ft, .int .i64 c.se, .int .i64 c.dr, .int .i64 c.dw, .int .i64 c.ho, .int .i64 c.re, .int .i64 c.yi, .int .i64 c.qu, .int .i64 c.qo, .int .i64 c.lo, .int .i64 c.sl, .int .i64 c.rt, .int .i64 c.cp, .int .i64 c.tr, .int .i64 c.de, .int .i64 c.wi, .slice A ls.length cap] from HBQd6.out)
  have HEr := Lib.hid (show ((World.drew w4)).ownsRow lo 56 10 (.slice A ls.length cap) ls.length (rowsOf leaC ls) from HFrd6.out)
  clear HFrd6
  refine wp_region_held_drew (S := fun W : World => Upd (t :: blkOf A) w W ∧ Blk W w.heap.size 56 #[.int .i64 l.se, .int .i64 l.fl, .int .i64 l.fm, .int .i64 l.to, .int .i64 l.ma, .int .i64 l.ca, .int .i64 l.ph, .int .i64 l.un, .int .i64 l.re, .int .i64 l.gr] ∧ HasRow W t 101 19) (by kernel_rfl) HRD.out (fun hHeld => ?_)
  refine wpAnyH_take (i := 0) (oi := ?o8__0) (v := .pointer (some ⟨t, 0, none⟩)) ?h8__0 (by kernel_rfl) (by kernel_rfl) (by kernel_rfl) ?q8__0 ?y8__0 (by assumption) ?_
  case h8__0 => (first | (simp only [gA, gB, gC]; done) | (simp only [gA, gB, gC]; exact rfl))
  case q8__0 => exact fun _ _ _ h => h
  case y8__0 => (refine Or.inl ⟨rfl, ?_⟩; intro w hSw; (first | rfl | (go_simp; (try with_reducible rfl))))
  (try simp only [Act.put, sA, sB, sC])
  refine wpAnyH_take (i := 1) (oi := ?o8__1) (v := .pointer (some ⟨t, 0, none⟩)) ?h8__1 (by kernel_rfl) (by kernel_rfl) (by kernel_rfl) ?q8__1 ?y8__1 (by assumption) ?_
  case h8__1 => (first | (simp only [gA, gB, gC]; done) | (simp only [gA, gB, gC]; exact rfl))
  case q8__1 => exact fun _ _ _ h => h
  case y8__1 => (refine Or.inl ⟨rfl, ?_⟩; intro w hSw; (first | rfl | (go_simp; (try with_reducible rfl))))
  (try simp only [Act.put, sA, sB, sC])
  refine wpAnyH_take (i := 2) (oi := ?o8__2) (v := .pointer (some ⟨t, 0, none⟩)) ?h8__2 (by kernel_rfl) (by kernel_rfl) (by kernel_rfl) ?q8__2 ?y8__2 (by assumption) ?_
  case h8__2 => (first | (simp only [gA, gB, gC]; done) | (simp only [gA, gB, gC]; exact rfl))
  case q8__2 => exact fun _ _ _ h => h
  case y8__2 => (refine Or.inl ⟨rfl, ?_⟩; intro w hSw; (first | rfl | (go_simp; (try with_reducible rfl))))
  (try simp only [Act.put, sA, sB, sC])
  refine wpAnyH_take (i := 3) (oi := ?o8__3) (v := .pointer (some ⟨t, 18, none⟩)) ?h8__3 (by kernel_rfl) (by kernel_rfl) (by kernel_rfl) ?q8__3 ?y8__3 (by assumption) ?_
  case h8__3 => (first | (simp only [gA, gB, gC]; done) | (simp only [gA, gB, gC]; exact rfl))
  case q8__3 => exact fun _ _ _ h => h
  case y8__3 => (refine Or.inl ⟨rfl, ?_⟩; intro w hSw; (first | rfl | (go_simp; (try with_reducible rfl))))
  (try simp only [Act.put, sA, sB, sC])
  refine wpAnyH_take (i := 5) (oi := ?o8__5) (v := .agg #[.int .i64 l.se, .int .i64 l.fl, .int .i64 l.fm, .int .i64 l.to, .int .i64 l.ma, .int .i64 l.ca, .int .i64 l.ph, .int .i64 l.un, .int .i64 l.re, .int .i64 l.gr]) ?h8__5 (by kernel_rfl) (by kernel_rfl) (by kernel_rfl) ?q8__5 ?y8__5 (by assumption) ?_
  case h8__5 => (first | (simp only [gA, gB, gC]; done) | (simp only [gA, gB, gC]; exact rfl))
  case q8__5 => exact fun _ _ _ h => h
  case y8__5 => (refine Or.inl ⟨rfl, ?_⟩; intro w hSw; exact exec_load_row 56 _ _ hSw.2.1 rfl rfl Try.underlying56 rfl (by kernel_rfl))
  (try simp only [Act.put, sA, sB, sC])
  refine wpAnyH_ready (rs := [4, 6]) (by kernel_rfl) (by simp) ?_
  refine AllReadyH.cons (o := ?o8__4b) ?h8__4b (fun K hK => ?g8__4b) (AllReadyH.cons (o := ?o8__6b) ?h8__6b (fun K hK => ?g8__6b) AllReadyH.nil)
  case h8__4b => (first | (simp only [gA, gB, gC]; done) | (simp only [gA, gB, gC]; exact rfl))
  case h8__6b => (first | (simp only [gA, gB, gC]; done) | (simp only [gA, gB, gC]; exact rfl))
  case g8__4b =>
    rw [if_pos (by rfl)]
    refine wp_q (.slice A ls.length cap) ?e8_b4_4 ?_
    case e8_b4_4 => exact exec_cell 24 _ _ HPQ.out rfl rfl rfl Try.underlying24 rfl
    refine hK.out _ _ hHeld (fun hHeld2 => ?_)
    clear hK K hHeld2
    (try simp only [Act.put, sA, sB, sC])
    refine wpAnyH_ready (rs := [6]) (by kernel_rfl) (by simp) ?_
    refine AllReadyH.cons (o := ?o8_b4_6) ?h8_b4_6 (fun K hK => ?_) AllReadyH.nil
    case h8_b4_6 => (first | (simp only [gA, gB, gC]; done) | (simp only [gA, gB, gC]; exact rfl))
    rw [if_pos (by rfl)]
    refine wp_new (fun b => .slice (some ⟨b, 0, none⟩) 1 1) 56 #[.int .i64 l.se, .int .i64 l.fl, .int .i64 l.fm, .int .i64 l.to, .int .i64 l.ma, .int .i64 l.ca, .int .i64 l.ph, .int .i64 l.un, .int .i64 l.re, .int .i64 l.gr] (by rintro b rfl; first | rfl | kernel_rfl) ?_
    intro bn34 w5 hge hB hb
    refine hK.out _ _ (by (apply HRK.out; exact hb; exact hHeld)) (fun hHeld2 => ?_)
    have HPQk := Lib.hid (keep_blk hb HPQ.out)
    clear HPQ
    have HErk := Lib.hid (keep_own hb HEr.out)
    clear HEr
    have HNn34Q := Lib.hid (show bn34 ≠ t by obtain ⟨old, Bo, _⟩ := hHeld.2.2; have := Blk.lt Bo; omega)
    have HGn34 := Lib.hid (show w.heap.size ≤ bn34 by have := Upd.size hHeld.1; (try simp at this); (try simp at hge); omega)
    have HXn34 := Lib.hid hB
    clear hB
    clear hge
    clear hK K hHeld hb
    have hHeld := hHeld2
    clear hHeld2
    (try simp only [Act.put, sA, sB, sC])
    refine wpAnyH_ready (rs := [7]) (by kernel_rfl) (by simp) ?_
    refine AllReadyH.cons (o := ?o8_b4_7) ?h8_b4_7 (fun K hK => ?_) AllReadyH.nil
    case h8_b4_7 => (first | (simp only [gA, gB, gC]; done) | (simp only [gA, gB, gC]; exact rfl))
    rw [if_pos (by rfl)]
    refine wp_append_row (.tmp 32) (.tmp 34) 24 rfl lo 56 (Value.agg #[.int .i64 0, .int .i64 0, .int .i64 0, .int .i64 0, .int .i64 0, .int .i64 0, .int .i64 0, .int .i64 0, .int .i64 0, .int .i64 0]) 10 80 Try.underlying24 (by kernel_rfl) rfl (by decide) (by decide) A ls.length cap (rowsOf leaC ls) rfl HErk.out _ (some ⟨bn34, 0, none⟩) 1 1 (leaC l) rfl (reads_blk (cs := leaC l) HXn34.out rfl) (leaC_one l) (by have := HL.out; omega) (by have q1 := HLO.out; have q2 := H0.out; have q3 := Upd.size hHeld.1; omega) ((ls ++ [l]).length) (rowsOf leaC (ls ++ [l])) (by simp) (by rw [rowsOf_append, rowsOf_one]) ?_
    intro A_1 c_1 w6 hown hupd hfar
    have hHeld3 : (fun W : World => Upd (t :: blkOf A) w W ∧ Blk W w.heap.size 56 #[.int .i64 l.se, .int .i64 l.fl, .int .i64 l.fm, .int .i64 l.to, .int .i64 l.ma, .int .i64 l.ca, .int .i64 l.ph, .int .i64 l.un, .int .i64 l.re, .int .i64 l.gr] ∧ HasRow W t 101 19) w6 := ⟨Upd.comp hHeld.1 hupd (fun _ h => .inl (List.mem_cons_of_mem _ h)), Upd.blk hupd (hHeld.2.1) HIA.out, HasRow.upd hupd (hHeld.2.2) HIQ.out⟩
    have HPQku := Lib.hid (Upd.blk hupd HPQk.out HIQ.out)
    have HIQ_r_1 := Lib.hid (nin_next hfar HIQ.out (Blk.lt HPQk.out))
    clear HPQk
    have HOW_w6 := Lib.hid hown
    have HFAR := Lib.hid (show ∀ g ∈ blkOf A_1, g ∈ blkOf A ∨ w.heap.size ≤ g from fun g hg => by have q := hfar g hg; rcases q with q | q; exact .inl q; exact .inr (Nat.le_trans (Upd.size hHeld.1) q))
    refine hK.out _ _ hHeld3 (fun hHeld2 => ?_)
    clear hK K hHeld hHeld3 hupd hown hfar HErk HXn34
    have hHeld := hHeld2
    clear hHeld2
    (try simp only [Act.put, sA, sB, sC])
    refine wpAnyH_take (i := 8) (oi := ?o8_b4_8) (v := .pointer (some ⟨t, 0, none⟩)) ?h8_b4_8 (by kernel_rfl) (by kernel_rfl) (by kernel_rfl) ?q8_b4_8 ?y8_b4_8 (by assumption) ?_
    case h8_b4_8 => (first | (simp only [gA, gB, gC]; done) | (simp only [gA, gB, gC]; exact rfl))
    case q8_b4_8 => exact fun _ _ _ h => h
    case y8_b4_8 => (refine Or.inl ⟨rfl, ?_⟩; intro w hSw; (first | rfl | (go_simp; (try with_reducible rfl))))
    (try simp only [Act.put, sA, sB, sC])
    refine wpAnyH_take (i := 9) (oi := ?o8_b4_9) (v := .pointer (some ⟨t, 18, none⟩)) ?h8_b4_9 (by kernel_rfl) (by kernel_rfl) (by kernel_rfl) ?q8_b4_9 ?y8_b4_9 (by assumption) ?_
    case h8_b4_9 => (first | (simp only [gA, gB, gC]; done) | (simp only [gA, gB, gC]; exact rfl))
    case q8_b4_9 => exact fun _ _ _ h => h
    case y8_b4_9 => (refine Or.inl ⟨rfl, ?_⟩; intro w hSw; (first | rfl | (go_simp; (try with_reducible rfl))))
    (try simp only [Act.put, sA, sB, sC])
    refine wpAnyH_ready (rs := [10]) (by kernel_rfl) (by simp) ?_
    refine AllReadyH.cons (o := ?o8_b4_10) ?h8_b4_10 (fun K hK => ?_) AllReadyH.nil
    case h8_b4_10 => (first | (simp only [gA, gB, gC]; done) | (simp only [gA, gB, gC]; exact rfl))
    rw [if_pos (by rfl)]
    refine wp_st_cell 24 _ _ rfl #[.int .i64 c.ca, .int .i64 c.fl, .int .i64 c.ft, .int .i64 c.se, .int .i64 c.dr, .int .i64 c.dw, .int .i64 c.ho, .int .i64 c.re, .int .i64 c.yi, .int .i64 c.qu, .int .i64 c.qo, .int .i64 c.lo, .int .i64 c.sl, .int .i64 c.rt, .int .i64 c.cp, .int .i64 c.tr, .int .i64 c.de, .int .i64 c.wi, .slice A_1 ((ls ++ [l]).length) c_1] (.slice A_1 ((ls ++ [l]).length) c_1) rfl rfl HPQku.out (by show 18 < 19; decide) rfl (by first | rfl | simp [Value.oneCell']) (by kernel_rfl) ?_
    clear HPQku
    intro w7 hw
    have HOW_w6r := Lib.hid (show (w7).ownsRow lo 56 10 (.slice A_1 ((ls ++ [l]).length) c_1) ((ls ++ [l]).length) (rowsOf leaC (ls ++ [l])) by rw [hw]; exact own_row_far HOW_w6.out HIQ_r_1.out _)
    clear HOW_w6
    have HRQ := Lib.hid (show Blk w7 t 101 #[.int .i64 c.ca, .int .i64 c.fl, .int .i64 c.ft, .int .i64 c.se, .int .i64 c.dr, .int .i64 c.dw, .int .i64 c.ho, .int .i64 c.re, .int .i64 c.yi, .int .i64 c.qu, .int .i64 c.qo, .int .i64 c.lo, .int .i64 c.sl, .int .i64 c.rt, .int .i64 c.cp, .int .i64 c.tr, .int .i64 c.de, .int .i64 c.wi, .slice A_1 ((ls ++ [l]).length) c_1] by obtain ⟨old, Bo, _⟩ := hHeld.2.2; rw [hw]; exact Blk.row Bo _)
    have hHeld3 : (fun W : World => Upd (t :: blkOf A) w W ∧ Blk W w.heap.size 56 #[.int .i64 l.se, .int .i64 l.fl, .int .i64 l.fm, .int .i64 l.to, .int .i64 l.ma, .int .i64 l.ca, .int .i64 l.ph, .int .i64 l.un, .int .i64 l.re, .int .i64 l.gr] ∧ HasRow W t 101 19) w7 := ⟨by rw [hw]; exact Upd.setRow hHeld.1 (.inl (by simp)) _, by rw [hw]; exact Blk.row_far (hHeld.2.1) (Ne.symm HNQA.out) _, HasRow.of HRQ.out rfl⟩
    refine hK.out _ _ hHeld3 (fun hHeld2 => ?_)
    clear hK K hHeld hHeld3 hw
    have hHeld := hHeld2
    clear hHeld2
    (try simp only [Act.put, sA, sB, sC])
    refine wpAnyH_done (by kernel_rfl) ?_ _
    have HSd8 := Lib.hid hHeld.1
    have HBLd8 := Lib.hid (hHeld.2.1)
    have HBQd8 := Lib.hid HRQ.out
    clear HRQ
    clear hHeld HRK HRD HSU HBLd6 HBQd6
    have HFrd8 := Lib.hid HOW_w6r.out
    clear HOW_w6r
    go_upto_region 9 with fail
    refine wp_region_lit ?_
    refine wpList_q (by rfl) (.int .i64 0) ?he ?_
    case he => (first | rfl | (go_simp; (try with_reducible rfl)))
    (try simp only [Act.put, sA, sB, sC])
    refine wpList_nil ?_
    (try go_wp2_with fail)
    go_ret
    exact ⟨rfl, t :: blkOf A_1, ⟨H0.out, A_1, c_1, rfl, HBQd8.out, HFrd8.out⟩, HSd8.out, fun g hg => by rcases List.mem_cons.1 hg with rfl | hg; exact .inl (by simp); rcases HFAR.out g hg with h | h; exact .inl (List.mem_cons_of_mem _ h); exact .inr h⟩
  case g8__6b =>
    rw [if_pos (by rfl)]
    refine wp_new (fun b => .slice (some ⟨b, 0, none⟩) 1 1) 56 #[.int .i64 l.se, .int .i64 l.fl, .int .i64 l.fm, .int .i64 l.to, .int .i64 l.ma, .int .i64 l.ca, .int .i64 l.ph, .int .i64 l.un, .int .i64 l.re, .int .i64 l.gr] (by rintro b rfl; first | rfl | kernel_rfl) ?_
    intro bn34 w5 hge hB hb
    refine hK.out _ _ (by (apply HRK.out; exact hb; exact hHeld)) (fun hHeld2 => ?_)
    have HPQk := Lib.hid (keep_blk hb HPQ.out)
    clear HPQ
    have HErk := Lib.hid (keep_own hb HEr.out)
    clear HEr
    have HNn34Q := Lib.hid (show bn34 ≠ t by obtain ⟨old, Bo, _⟩ := hHeld.2.2; have := Blk.lt Bo; omega)
    have HGn34 := Lib.hid (show w.heap.size ≤ bn34 by have := Upd.size hHeld.1; (try simp at this); (try simp at hge); omega)
    have HXn34 := Lib.hid hB
    clear hB
    clear hge
    clear hK K hHeld hb
    have hHeld := hHeld2
    clear hHeld2
    (try simp only [Act.put, sA, sB, sC])
    refine wpAnyH_ready (rs := [4]) (by kernel_rfl) (by simp) ?_
    refine AllReadyH.cons (o := ?o8_b6_4) ?h8_b6_4 (fun K hK => ?_) AllReadyH.nil
    case h8_b6_4 => (first | (simp only [gA, gB, gC]; done) | (simp only [gA, gB, gC]; exact rfl))
    rw [if_pos (by rfl)]
    refine wp_q (.slice A ls.length cap) ?e8_b6_4 ?_
    case e8_b6_4 => exact exec_cell 24 _ _ HPQk.out rfl rfl rfl Try.underlying24 rfl
    refine hK.out _ _ hHeld (fun hHeld2 => ?_)
    clear hK K hHeld2
    (try simp only [Act.put, sA, sB, sC])
    refine wpAnyH_ready (rs := [7]) (by kernel_rfl) (by simp) ?_
    refine AllReadyH.cons (o := ?o8_b6_7) ?h8_b6_7 (fun K hK => ?_) AllReadyH.nil
    case h8_b6_7 => (first | (simp only [gA, gB, gC]; done) | (simp only [gA, gB, gC]; exact rfl))
    rw [if_pos (by rfl)]
    refine wp_append_row (.tmp 32) (.tmp 34) 24 rfl lo 56 (Value.agg #[.int .i64 0, .int .i64 0, .int .i64 0, .int .i64 0, .int .i64 0, .int .i64 0, .int .i64 0, .int .i64 0, .int .i64 0, .int .i64 0]) 10 80 Try.underlying24 (by kernel_rfl) rfl (by decide) (by decide) A ls.length cap (rowsOf leaC ls) rfl HErk.out _ (some ⟨bn34, 0, none⟩) 1 1 (leaC l) rfl (reads_blk (cs := leaC l) HXn34.out rfl) (leaC_one l) (by have := HL.out; omega) (by have q1 := HLO.out; have q2 := H0.out; have q3 := Upd.size hHeld.1; omega) ((ls ++ [l]).length) (rowsOf leaC (ls ++ [l])) (by simp) (by rw [rowsOf_append, rowsOf_one]) ?_
    intro A_2 c_2 w6 hown hupd hfar
    have hHeld3 : (fun W : World => Upd (t :: blkOf A) w W ∧ Blk W w.heap.size 56 #[.int .i64 l.se, .int .i64 l.fl, .int .i64 l.fm, .int .i64 l.to, .int .i64 l.ma, .int .i64 l.ca, .int .i64 l.ph, .int .i64 l.un, .int .i64 l.re, .int .i64 l.gr] ∧ HasRow W t 101 19) w6 := ⟨Upd.comp hHeld.1 hupd (fun _ h => .inl (List.mem_cons_of_mem _ h)), Upd.blk hupd (hHeld.2.1) HIA.out, HasRow.upd hupd (hHeld.2.2) HIQ.out⟩
    have HPQku := Lib.hid (Upd.blk hupd HPQk.out HIQ.out)
    have HIQ_r_2 := Lib.hid (nin_next hfar HIQ.out (Blk.lt HPQk.out))
    clear HPQk
    have HOW_w6 := Lib.hid hown
    have HFAR := Lib.hid (show ∀ g ∈ blkOf A_2, g ∈ blkOf A ∨ w.heap.size ≤ g from fun g hg => by have q := hfar g hg; rcases q with q | q; exact .inl q; exact .inr (Nat.le_trans (Upd.size hHeld.1) q))
    refine hK.out _ _ hHeld3 (fun hHeld2 => ?_)
    clear hK K hHeld hHeld3 hupd hown hfar HErk HXn34
    have hHeld := hHeld2
    clear hHeld2
    (try simp only [Act.put, sA, sB, sC])
    refine wpAnyH_take (i := 8) (oi := ?o8_b6_8) (v := .pointer (some ⟨t, 0, none⟩)) ?h8_b6_8 (by kernel_rfl) (by kernel_rfl) (by kernel_rfl) ?q8_b6_8 ?y8_b6_8 (by assumption) ?_
    case h8_b6_8 => (first | (simp only [gA, gB, gC]; done) | (simp only [gA, gB, gC]; exact rfl))
    case q8_b6_8 => exact fun _ _ _ h => h
    case y8_b6_8 => (refine Or.inl ⟨rfl, ?_⟩; intro w hSw; (first | rfl | (go_simp; (try with_reducible rfl))))
    (try simp only [Act.put, sA, sB, sC])
    refine wpAnyH_take (i := 9) (oi := ?o8_b6_9) (v := .pointer (some ⟨t, 18, none⟩)) ?h8_b6_9 (by kernel_rfl) (by kernel_rfl) (by kernel_rfl) ?q8_b6_9 ?y8_b6_9 (by assumption) ?_
    case h8_b6_9 => (first | (simp only [gA, gB, gC]; done) | (simp only [gA, gB, gC]; exact rfl))
    case q8_b6_9 => exact fun _ _ _ h => h
    case y8_b6_9 => (refine Or.inl ⟨rfl, ?_⟩; intro w hSw; (first | rfl | (go_simp; (try with_reducible rfl))))
    (try simp only [Act.put, sA, sB, sC])
    refine wpAnyH_ready (rs := [10]) (by kernel_rfl) (by simp) ?_
    refine AllReadyH.cons (o := ?o8_b6_10) ?h8_b6_10 (fun K hK => ?_) AllReadyH.nil
    case h8_b6_10 => (first | (simp only [gA, gB, gC]; done) | (simp only [gA, gB, gC]; exact rfl))
    rw [if_pos (by rfl)]
    refine wp_st_cell 24 _ _ rfl #[.int .i64 c.ca, .int .i64 c.fl, .int .i64 c.ft, .int .i64 c.se, .int .i64 c.dr, .int .i64 c.dw, .int .i64 c.ho, .int .i64 c.re, .int .i64 c.yi, .int .i64 c.qu, .int .i64 c.qo, .int .i64 c.lo, .int .i64 c.sl, .int .i64 c.rt, .int .i64 c.cp, .int .i64 c.tr, .int .i64 c.de, .int .i64 c.wi, .slice A_2 ((ls ++ [l]).length) c_2] (.slice A_2 ((ls ++ [l]).length) c_2) rfl rfl HPQku.out (by show 18 < 19; decide) rfl (by first | rfl | simp [Value.oneCell']) (by kernel_rfl) ?_
    clear HPQku
    intro w7 hw
    have HOW_w6r := Lib.hid (show (w7).ownsRow lo 56 10 (.slice A_2 ((ls ++ [l]).length) c_2) ((ls ++ [l]).length) (rowsOf leaC (ls ++ [l])) by rw [hw]; exact own_row_far HOW_w6.out HIQ_r_2.out _)
    clear HOW_w6
    have HRQ := Lib.hid (show Blk w7 t 101 #[.int .i64 c.ca, .int .i64 c.fl, .int .i64 c.ft, .int .i64 c.se, .int .i64 c.dr, .int .i64 c.dw, .int .i64 c.ho, .int .i64 c.re, .int .i64 c.yi, .int .i64 c.qu, .int .i64 c.qo, .int .i64 c.lo, .int .i64 c.sl, .int .i64 c.rt, .int .i64 c.cp, .int .i64 c.tr, .int .i64 c.de, .int .i64 c.wi, .slice A_2 ((ls ++ [l]).length) c_2] by obtain ⟨old, Bo, _⟩ := hHeld.2.2; rw [hw]; exact Blk.row Bo _)
    have hHeld3 : (fun W : World => Upd (t :: blkOf A) w W ∧ Blk W w.heap.size 56 #[.int .i64 l.se, .int .i64 l.fl, .int .i64 l.fm, .int .i64 l.to, .int .i64 l.ma, .int .i64 l.ca, .int .i64 l.ph, .int .i64 l.un, .int .i64 l.re, .int .i64 l.gr] ∧ HasRow W t 101 19) w7 := ⟨by rw [hw]; exact Upd.setRow hHeld.1 (.inl (by simp)) _, by rw [hw]; exact Blk.row_far (hHeld.2.1) (Ne.symm HNQA.out) _, HasRow.of HRQ.out rfl⟩
    refine hK.out _ _ hHeld3 (fun hHeld2 => ?_)
    clear hK K hHeld hHeld3 hw
    have hHeld := hHeld2
    clear hHeld2
    (try simp only [Act.put, sA, sB, sC])
    refine wpAnyH_done (by kernel_rfl) ?_ _
    have HSd8v2 := Lib.hid hHeld.1
    have HBLd8v2 := Lib.hid (hHeld.2.1)
    have HBQd8v2 := Lib.hid HRQ.out
    clear HRQ
    clear hHeld HRK HRD HSU HBLd6 HBQd6
    have HFrd8v2 := Lib.hid HOW_w6r.out
    clear HOW_w6r
    go_upto_region 9 with fail
    refine wp_region_lit ?_
    refine wpList_q (by rfl) (.int .i64 0) ?he ?_
    case he => (first | rfl | (go_simp; (try with_reducible rfl)))
    (try simp only [Act.put, sA, sB, sC])
    refine wpList_nil ?_
    (try go_wp2_with fail)
    go_ret
    exact ⟨rfl, t :: blkOf A_2, ⟨H0.out, A_2, c_2, rfl, HBQd8v2.out, HFrd8v2.out⟩, HSd8v2.out, fun g hg => by rcases List.mem_cons.1 hg with rfl | hg; exact .inl (by simp); rcases HFAR.out g hg with h | h; exact .inl (List.mem_cons_of_mem _ h); exact .inr h⟩
theorem putT (lo t : Nat) (c : CfgV) (ls : List LeaseV) (S : List Nat) (l : LeaseV) (w : World) (h : TO lo t c ls S w) (hl : ls.length ≤ 10000) :
    Calls Try.prog 35 #[.pointer (some ⟨t, 0, none⟩), .agg #[.int .i64 l.se, .int .i64 l.fl, .int .i64 l.fm, .int .i64 l.to, .int .i64 l.ma, .int .i64 l.ca, .int .i64 l.ph, .int .i64 l.un, .int .i64 l.re, .int .i64 l.gr]] w fun e w' => ∃ S', e = .returned (.int .i64 (putE c ls l)) ∧ TO lo t c (putL c ls l) S' w' ∧ Upd S w w' ∧ ∀ g ∈ S', g ∈ S ∨ w.heap.size ≤ g := by
  have hT := h
  obtain ⟨h0, A, cap, rfl, B, O⟩ := h
  have same : ∀ {e : Ending} {w1 : World} {n : Int}, n ≠ 0 → putE c ls l = n → e = .returned (.int .i64 n) ∧ Since w w1 → ∃ S', e = .returned (.int .i64 (putE c ls l)) ∧ TO lo t c (putL c ls l) S' w1 ∧ Upd (t :: blkOf A) w w1 ∧ ∀ g ∈ S', g ∈ t :: blkOf A ∨ w.heap.size ≤ g := by
    rintro e w1 n hn he ⟨rfl, hb⟩
    have e2 : putL c ls l = ls := by unfold putL; rw [he, if_neg hn]
    rw [he, e2]
    exact ⟨_, rfl, hT.keep hb, Upd.of_since hb, fun g hg => .inl hg⟩
  cases hg : goodB c l with
  | false => exact (putBad lo t c ls A cap l w B O hl hg).mono fun e w1 hh => same (by decide) (by unfold putE; rw [if_pos hg]) hh
  | true =>
    cases hf : atP ls (isP l) with
    | some k => exact (putHit lo t c ls A cap l k w B O hl hg hf).mono fun e w1 hh => same (by decide) (by unfold putE; rw [if_neg (by rw [hg]; decide), if_pos (by rw [hf]; rfl)]) hh
    | none =>
      cases hu : full c ls l.fl with
      | true => exact (putFull lo t c ls A cap l w B O hl hg hf hu).mono fun e w1 hh => same (by decide) (by unfold putE; rw [if_neg (by rw [hg]; decide), if_neg (by rw [hf]; simp), if_pos hu]) hh
      | false =>
        refine (putOk lo t c ls A cap l w B O hl hg hf hu h0).mono ?_
        rintro e w1 ⟨rfl, S', hn, hup, hfar⟩
        have e1 : putE c ls l = 0 := by unfold putE; rw [if_neg (by rw [hg]; decide), if_neg (by rw [hf]; simp), if_neg (by rw [hu]; decide)]
        have e2 : putL c ls l = ls ++ [l] := by unfold putL; rw [e1, if_pos rfl]
        rw [e1, e2]
        exact ⟨S', rfl, hn, hup, hfar⟩
theorem putV (lo t : Nat) (c : CfgV) (ls : List LeaseV) (S : List Nat) (l : LeaseV) (w : World) (h : TO lo t c ls S w) (hl : ls.length ≤ 10000) (e0 : Int) (ls2 : List LeaseV) (he : putE c ls l = e0) (hl2 : putL c ls l = ls2) :
    Calls Try.prog 35 #[.pointer (some ⟨t, 0, none⟩), .agg #[.int .i64 l.se, .int .i64 l.fl, .int .i64 l.fm, .int .i64 l.to, .int .i64 l.ma, .int .i64 l.ca, .int .i64 l.ph, .int .i64 l.un, .int .i64 l.re, .int .i64 l.gr]] w fun e w' => ∃ S', e = .returned (.int .i64 e0) ∧ TO lo t c ls2 S' w' ∧ Upd S w w' ∧ ∀ g ∈ S', g ∈ S ∨ w.heap.size ≤ g := by
  subst he hl2; exact putT lo t c ls S l w h hl
end Go.Proofs.Ytggafipgfgbbiaa.Le
