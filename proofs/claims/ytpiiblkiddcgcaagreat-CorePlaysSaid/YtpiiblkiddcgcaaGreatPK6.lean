/-
  Wanted: part 6.
  No condition.
-/
import Derived.Test.YtpiiblkiddcgcaaGreatPK5
import Derived.Test.YtpiiblkiddcgcaaGreatPK2
import Derived.Test.YtpiiblkiddcgcaaGreatPK1
import Derived.Test.YtpiiblkiddcgcaaGreatProg
import Derived.WalkKit
set_option linter.all false
namespace Go.Proofs.YtpiiblkiddcgcaaGreat
namespace Gr
open Go.RowKit Ba Mem En Mo Go.Proofs.YtpiiblkiddcgcaaGreat.Ty Go.Proofs.YtpiiblkiddcgcaaGreat.St
open Ct (cfgA carA)
open Et (carsO)
set_option maxRecDepth 100000
attribute [local irreducible] Go.Calls
def upto {α:Type} (f:α→α) (ws:List α) (i:Nat):List α:=(ws.take i).map f++ws.drop i
section
variable {α:Type} {f:α→α} {ws:List α} {i:Nat}
theorem upto_len:(upto f ws i).length=ws.length:=by simp [upto]; omega
theorem upto_zero:upto f ws 0=ws:=by simp [upto]
theorem upto_end:upto f ws ws.length=ws.map f:=by simp [upto]
theorem upto_at (hi:i < ws.length) (h2:i < (upto f ws i).length):(upto f ws i)[i]=ws[i]:=by
 have:(upto f ws i)[i]?=some ws[i]:=by
  unfold upto
  rw [List.getElem?_append_right (by simp; omega)]
  simp [Nat.min_eq_left (Nat.le_of_lt hi),hi]
 rw [List.getElem?_eq_getElem h2] at this
 exact Option.some.inj this
theorem upto_set (hi:i < ws.length):(upto f ws i).set i (f ws[i])=upto f ws (i+1):=by
 unfold upto
 rw [List.set_append_right _ _ (by simp; omega)]
 simp only [List.length_map,List.length_take,Nat.min_eq_left (Nat.le_of_lt hi),Nat.sub_self]
 rw [List.drop_eq_getElem_cons hi,List.set_cons_zero,List.take_succ_eq_append_getElem hi,List.map_append,List.append_assoc]
 rfl
theorem upto_same (hi:i < ws.length) (h:f ws[i]=ws[i]):upto f ws (i+1)=upto f ws i:=by
 rw [← upto_set hi,h]
 apply List.ext_getElem?
 intro j
 rw [List.getElem?_set]
 split
 ·rename_i hj
  subst hj
  have h2:i < (upto f ws i).length:=by rw [upto_len]; exact hi
  rw [if_pos h2,List.getElem?_eq_getElem h2,upto_at hi h2]
 ·rfl
end
def disW (car:Int) (a:WaitV):WaitV:=if a.ca=car then { a with ca := -1 } else a
set_option maxHeartbeats 4000000 in
abbrev wPS (lo g n c k:Nat) (ls:List WaitV):={x:List Value×List Value // x.1.length=0+k*4∧∀ y w',Blk w' g 76 (el x.1 (waitA y) x.2)→WaitsAt lo (some ⟨g,0,none⟩) n c (ls.set k y) w'}
theorem wait_open {lo g n c k:Nat} {ls:List WaitV} {w:World} {x:WaitV} (h:WaitsAt lo (some ⟨g,0,none⟩) n c ls w) (hx:ls[k]?=some x):∃ p:wPS lo g n c k ls,g∈blkOf (some ⟨g,0,none⟩)∧p.1.1.length=0+k*4∧Blk w g 76 (el p.1.1 (waitA x) p.1.2):=by
 obtain ⟨hi,rfl⟩:=List.getElem?_eq_some_iff.1 hx
 obtain ⟨P,S,hP,hB,hb⟩:=own_el waitL_len h hi
 exact ⟨⟨(P,S),hP,fun y w' hB'=>hb y w' hB'⟩,by simp [blkOf],hP,hB⟩
theorem disownT (lo q:Nat) (G:GrV) (v1:Value) (A2:Option Addr) (c2:Nat) (car:Int) (w:World) (hq:Blk w q 70 (grpA G v1 (.slice A2 G.waits.length c2))) (ho:WaitsAt lo A2 G.waits.length c2 G.waits w) (hl:G.waits.length≤1000000):Calls Tryz.prog 104 #[.pointer (some ⟨q,0,none⟩),.int .i64 car] w fun e w'=>e=.returned (.tuple #[])∧WaitsAt lo A2 G.waits.length c2 (G.waits.map (disW car)) w'∧Upd (blkOf A2) w w':=by
 obtain ⟨g,hA⟩:∃ g,0 < G.waits.length→A2=some ⟨g,0,none⟩:=by
  rcases own_at ho with ⟨_,h0,_⟩ | ⟨g,_,h1,_⟩
  ·exact ⟨0,fun k=>by omega⟩
  ·exact ⟨g,fun _=>h1⟩
 refine entH tab_ok (Hold.addObj (hold_q (S:=blkOf A2) [.i .i64 G.c.ca,.i .i64 G.c.fl,.i .i64 G.c.ft,.i .i64 G.c.se,.i .i64 G.c.dr,.i .i64 G.c.dw,.i .i64 G.c.ho,.i .i64 G.c.re,.i .i64 G.c.yi,.i .i64 G.c.qu,.i .i64 G.c.qo,.i .i64 G.c.lo,.i .i64 G.c.sl,.i .i64 G.c.rt,.i .i64 G.c.cp,.i .i64 G.c.tr,.i .i64 G.c.de,.i .i64 G.c.wi,.v v1,.v (.slice A2 G.waits.length c2),.i .i64 G.now] hq) (waitsO lo A2 G.waits.length c2 G.waits true) ho (fun _ g hg=>.inl hg) (by intro r hr _; rw [List.mem_singleton] at hr; subst hr; exact own_ne_ty ho hq (by decide)) (by intro A hA; cases hA)) [.p 0 0,.i .i64 car] Tryz.func104 Tryz.ntmps104 rfl rfl ?_
 repeat' (first | refine gs_ ?_|((conv=>whnf); first | intro b | refine b3_ (fun h=>?_) (fun h=>?_)|refine fin_s ?_))
 conv=>whnf
 refine lpS ⟨tab_ok⟩ (ι:={k:Nat // k≤G.waits.length}) (fun x=>match x with | ⟨k,_⟩=>⟨[(0,.p 0 0),(1,.i .i64 car),(9,.i .i64 G.waits.length),(10,.i .i64 (k:Int))],[⟨q,70,true,0,[],[.i .i64 G.c.ca,.i .i64 G.c.fl,.i .i64 G.c.ft,.i .i64 G.c.se,.i .i64 G.c.dr,.i .i64 G.c.dw,.i .i64 G.c.ho,.i .i64 G.c.re,.i .i64 G.c.yi,.i .i64 G.c.qu,.i .i64 G.c.qo,.i .i64 G.c.lo,.i .i64 G.c.sl,.i .i64 G.c.rt,.i .i64 G.c.cp,.i .i64 G.c.tr,.i .i64 G.c.de,.i .i64 G.c.wi,.v v1,.v (.slice A2 G.waits.length c2),.i .i64 G.now],[],false⟩],[waitsO lo A2 G.waits.length c2 (upto (disW car) G.waits k) true]⟩) (fun x=>G.waits.length - x.1) ⟨0,Nat.zero_le _⟩ (wk ?_ (by rfl) (by rfl) (by show [waitsO lo A2 _ c2 (upto (disW car) G.waits 0) true]=[waitsO lo A2 _ c2 G.waits true]; rw [upto_zero])) ?_
 ·repeat' (first | exact trivial | rfl | ((conv=>whnf); refine And.intro ?_ ?_))
 rintro ⟨k,hk⟩
 by_cases hlt:k < G.waits.length
 ·obtain rfl:=hA (by omega)
  have hlen:(upto (disW car) G.waits k).length=G.waits.length:=upto_len
  have hx:(upto (disW car) G.waits k)[k]?=some G.waits[k]:=by rw [List.getElem?_eq_getElem (by omega),upto_at hlt]
  refine sm_open ⟨tab_ok⟩ (π:=wPS lo g G.waits.length c2 k (upto (disW car) G.waits k)) 0 (fun p=>⟨g,76,true,0+k*4,p.1.1,[.i .i64 G.waits[k].fl,.i .i64 G.waits[k].wy,.i .i64 G.waits[k].ca,.i .i64 G.waits[k].si],p.1.2,true⟩) (by rfl) (by rfl) (fun w hw=>wait_open hw hx) (fun p=>rfl) (fun p=>?_)
  repeat' (first | refine gs_ ?_|((conv=>whnf); first | intro b | refine bto ?_|refine bfo ?_|refine wr_i ?_|refine b3_ (fun h=>?_) (fun h=>?_)|refine opir ⟨tab_ok⟩ 1 (by rfl) (by rfl) (by rfl) (by rfl) (by rfl) (by rfl) (by rfl) ⟨⟨by omega,by omega⟩,by show 0+k*4=_; simp⟩ ?_|refine back ⟨k+1,by omega⟩ (wk_close 1 (waitsO lo (some ⟨g,0,none⟩) G.waits.length c2 (upto (disW car) G.waits (k+1)) true) 0 ?_ (fun w' hB=>?_) (by rfl) (by rfl) (by rfl) (by rfl) (by rfl) (by rfl)) ?_|refine fin_s ?_))
  all_goals first | (show G.waits.length - (k+1) < G.waits.length - k; omega)|skip
  all_goals first
   | (show WaitsAt _ _ _ _ _ _; rw [← upto_set hlt]; refine p.2.2 _ _ ?_; unfold disW; first | (rw [if_pos (by assumption)]; exact hB)|(rw [if_neg (by assumption)]; exact hB))
   | (repeat' (first | exact trivial | rfl | ((conv=>whnf); refine And.intro ?_ ?_)))
 ·refine sm_run ⟨tab_ok⟩ ?_
  repeat' (first | refine gs_ ?_|((conv=>whnf); first | intro b | refine bto ?_|refine bfo ?_|refine wr_i ?_|refine b3_ (fun h=>?_) (fun h=>?_)|refine fin fun w' hH=>⟨rfl, ?_,hH.upd⟩|refine fin_s ?_))
  obtain rfl:k=G.waits.length:=by omega
  have:=hH.obj (waitsO lo A2 G.waits.length c2 (upto (disW car) G.waits G.waits.length) true) (List.mem_singleton.2 rfl)
  rw [upto_end] at this
  exact this
end Gr
namespace Gr
open Go.RowKit Ba Mem En Mo Go.Proofs.YtpiiblkiddcgcaaGreat.Ty Go.Proofs.YtpiiblkiddcgcaaGreat.St
open Ct (cfgA carA)
open Et (carsO)
set_option maxRecDepth 100000
attribute [local irreducible] Go.Calls
def fltY (y:Bool) (x:CarV):CarV:=if y=true then { x with br:=true,sp:=0,su:=0,sd:=0 } else { x with br:=false }
def fltW (y:Bool) (i:Int) (ws:List WaitV):List WaitV:=if y=true then ws.map (disW i) else ws
theorem fltW_len {y:Bool} {i:Int} {ws:List WaitV}:(fltW y i ws).length=ws.length:=by unfold fltW; split <;> simp
theorem fault1T (g off:Nat) (P S:List Value) (x:CarV) (cp cq cr q:Nat) (v:Int) (y:Bool) (lo:Nat) (G:GrV) (v1:Value) (A2:Option Addr) (c2:Nat) (w:World) (hb:Blk w g 67 (el P (carA x) S)) (hp:P.length=off) (hcp:Blk w cp 4 #[.bool y]) (hcq:Blk w cq 25 #[.pointer (some ⟨q,0,none⟩)]) (hcr:Blk w cr 3 #[.int .i64 v]) (hq:Blk w q 70 (grpA G v1 (.slice A2 G.waits.length c2))) (ho:WaitsAt lo A2 G.waits.length c2 G.waits w) (hl:G.waits.length≤1000000) :
  Calls Tryz.prog 103 #[.pointer (some ⟨g,off,none⟩),.pointer (some ⟨cp,0,none⟩),.pointer (some ⟨cq,0,none⟩),.pointer (some ⟨cr,0,none⟩)] w fun e w'=>e=.returned (.int .i64 0)∧Blk w' g 67 (el P (carA (fltY y x)) S)∧WaitsAt lo A2 G.waits.length c2 (fltW y v G.waits) w'∧Upd (g::blkOf A2) w w':=by
 have h0:=fun n:Nat=>Hold.addRow (m:=[]) (Hold.nil Tryz.prog tab (g::blkOf A2) n w) ⟨g,67,true,off,P,(sCar x),S,true⟩ hb (fun _=>.inl (by simp)) (by intro q hq; cases hq) (by intro A hA; cases hA) rfl hp
 have h1:=fun n:Nat=>Hold.addRow (h0 n) ⟨q,70,true,0,[],[.i .i64 G.c.ca,.i .i64 G.c.fl,.i .i64 G.c.ft,.i .i64 G.c.se,.i .i64 G.c.dr,.i .i64 G.c.dw,.i .i64 G.c.ho,.i .i64 G.c.re,.i .i64 G.c.yi,.i .i64 G.c.qu,.i .i64 G.c.qo,.i .i64 G.c.lo,.i .i64 G.c.sl,.i .i64 G.c.rt,.i .i64 G.c.cp,.i .i64 G.c.tr,.i .i64 G.c.de,.i .i64 G.c.wi,.v v1,.v (.slice A2 G.waits.length c2),.i .i64 G.now],[],false⟩ hq (by intro h; cases h) (by intro r hr _; simp only [List.nil_append,List.mem_singleton] at hr; subst hr; exact Blk.ne_ hb hq (by decide)) (by intro A hA; cases hA)
 have h2:=fun n:Nat=>Hold.addRow (h1 n) ⟨cp,4,true,0,[],[.b y],[],false⟩ hcp (by intro h; cases h) (by intro r hr _; simp only [List.nil_append,List.mem_append,List.mem_singleton] at hr; rcases hr with rfl | rfl <;> exact Blk.ne_ (by assumption) hcp (by decide)) (by intro A hA; cases hA)
 have h3:=fun n:Nat=>Hold.addRow (h2 n) ⟨cq,25,true,0,[],[.p 1 0],[],false⟩ hcq (by intro h; cases h) (by intro r hr _; simp only [List.nil_append,List.mem_append,List.mem_singleton] at hr; rcases hr with (rfl | rfl)|rfl <;> exact Blk.ne_ (by assumption) hcq (by decide)) (by intro A hA; cases hA)
 have h4:=fun n:Nat=>Hold.addRow (h3 n) ⟨cr,3,true,0,[],[.i .i64 v],[],false⟩ hcr (by intro h; cases h) (by intro r hr _; simp only [List.nil_append,List.mem_append,List.mem_singleton] at hr; rcases hr with ((rfl | rfl)|rfl)|rfl <;> exact Blk.ne_ (by assumption) hcr (by decide)) (by intro A hA; cases hA)
 have h5:=fun n:Nat=>Hold.addObj (h4 n) (waitsO lo A2 G.waits.length c2 G.waits true) ho (fun _ g hg=>.inl (List.mem_cons_of_mem _ hg)) (by intro r hr _; simp only [List.nil_append,List.mem_append,List.mem_singleton] at hr; rcases hr with (((rfl | rfl)|rfl)|rfl)|rfl <;> exact own_ne_ty ho (by assumption) (by decide)) (by intro A hA; cases hA)
 refine entH tab_ok (h5 _) [.p 0 0,.p 2 0,.p 3 0,.p 4 0] Tryz.func103 Tryz.ntmps103 rfl rfl ?_
 repeat' (first | refine gs_ ?_|((conv=>whnf); first | intro b | refine b3_ (fun h=>?_) (fun h=>?_)|refine callO (f:=104) (A:=waitsO lo A2 G.waits.length c2 G.waits true) 0 (fun _:Unit=>.t []) (fun _=>waitsO lo A2 G.waits.length c2 (G.waits.map (disW v)) true) (fun w hH hA=>(disownT lo q G v1 A2 c2 v w (hH.row 1 _ rfl rfl) hA hl).mono (by rintro e w' ⟨rfl,h1,h2⟩; exact ⟨(),rfl,h1,h2,fun _ h=>.inl h⟩)) (fun _=>?_)|refine fin fun w' hH=>⟨rfl, ?_, ?_,hH.upd⟩|refine fin_s ?_))
 all_goals first
  | (show Blk _ _ _ (el P (carA (fltY y x)) S); subst y; have:=hH.row 0 _ rfl rfl; exact this)
  | (show WaitsAt _ _ _ _ _ _; subst y; have:=hH.obj _ (List.mem_singleton.2 rfl); exact this)
  | trace_state
def pairO (A B:Asr):Asr:=⟨A.F++B.F,A.rw && B.rw,fun w=>A.st w∧B.st w,fun k h hs=>⟨A.up k (fun g hg=>h g (List.mem_append.2 (.inl hg))) hs.1,B.up k (fun g hg=>h g (List.mem_append.2 (.inr hg))) hs.2⟩,fun h g hg=>(List.mem_append.1 hg).elim (A.lt h.1 g) (B.lt h.2 g)⟩
theorem hold_pair {X:Cx} {m:List Row} {A B:Asr} {w:World} (h:Hold X m [A,B] w) (hA:A.rw=true) (hB:B.rw=true):Hold X m [pairO A B] w:=by
 have a1:A∈[A,B]:=List.mem_cons_self ..
 have b1:B∈[A,B]:=List.mem_cons_of_mem _ (List.mem_cons_self ..)
 refine ⟨h.upd,h.row,h.wf,h.ne,fun C hC=>?_,fun C hC j r hj hl hg=>?_,fun C hC _ g hg=>?_,List.pairwise_singleton _ _⟩
 ·rw [List.mem_singleton] at hC; subst hC; exact ⟨h.obj A a1,h.obj B b1⟩
 ·rw [List.mem_singleton] at hC; subst hC
  exact (List.mem_append.1 hg).elim (h.far A a1 j r hj hl) (h.far B b1 j r hj hl)
 ·rw [List.mem_singleton] at hC; subst hC
  exact (List.mem_append.1 hg).elim (h.own A a1 hA g) (h.own B b1 hB g)
def fltX (x:CarV):CarV:={ x with br:=true,sp:=0,su:=0,sd:=0 }
def faultR (G:GrV) (i:Int) (y:Bool):GrV×Int :=
 if y=true then (if 0≤i∧i.toNat < G.cars.length then ({ (one G i (fun x=>(fltX x,0))).1 with waits:=G.waits.map (disW i) },0) else (G,1)) else one G i (fun x=>({ x with br:=false },0))
theorem fault_in {G:GrV} {k:Nat} {y:Bool} (hk:k < G.cars.length):faultR G (k:Int) y=({ G.car k (fltY y G.cars[k]) with waits:=fltW y k G.waits },0):=by
 unfold faultR
 cases y
 ·rw [if_neg (by decide),one_in hk]; rfl
 ·rw [if_pos rfl,if_pos ⟨by omega,by simpa using hk⟩,one_in hk]; rfl
theorem fault_out {G:GrV} {i:Int} {y:Bool} (h:i < 0∨(G.cars.length:Int)≤i):faultR G i y=(G,1):=by
 unfold faultR
 cases y
 ·rw [if_neg (by decide),one_out h]
 ·rw [if_pos rfl,if_neg (by omega)]
theorem faultG {lo q:Nat} {G:GrV} {S:List Nat} {w:World} (hg:GO lo q G S w) (hl:G.waits.length≤1000000) (i:Int) (y:Bool):Calls Tryz.prog 40 #[.pointer (some ⟨q,0,none⟩),.int .i64 i,.bool y] w fun e w'=>e=.returned (.int .i64 (faultR G i y).2)∧∃ S',GO lo q (faultR G i y).1 S' w'∧Upd S w w'∧∀ g∈S',g∈S∨w.heap.size≤g:=by
 obtain ⟨A1,c1,A2,c2,h0,hS,hH⟩:=hold_go (n:=_) hg
 by_cases hi:i < 0∨(G.cars.length:Int)≤i
 ·rw [fault_out hi]
  refine entH tab_ok (hH) [.p 0 0,.i .i64 i,.b y] Tryz.func40 Tryz.ntmps40 rfl rfl ?_
  repeat' (first | refine gs_ ?_|((conv=>whnf); first | intro b | refine b3_ (fun h=>?_) (fun h=>?_)|refine callH (f:=77) (.i .i64 1) (fun w hH=>change0 q G A1 _ c1 _ i _ w (hH.row 0 _ rfl rfl) hi) ?_|refine fin_go (by rfl) (by intro m; rfl) h0 hS (by rfl) (by rfl) (by rfl) (by rfl) (by intro m; rfl)|refine fin_s ?_))
 ·obtain ⟨k,rfl⟩:∃ k:Nat,i=(k:Int):=⟨i.toNat,by omega⟩
  have hk:k < G.cars.length:=by omega
  rw [fault_in hk]
  obtain ⟨g,rfl⟩:=own_addr (hH.obj (carsO lo A1 _ c1 _ true) (List.mem_cons_self ..)) (by omega)
  have hgA:g∉blkOf A2:=by
   intro h
   have d:=(List.pairwise_cons.1 hH.dis).1 (waitsO lo A2 G.waits.length c2 G.waits true) (List.mem_singleton.2 rfl) (.inl rfl) g (by simp [carsO,blkOf])
   exact d h
  refine entH tab_ok (hold_pair hH rfl rfl) [.p 0 0,.i .i64 (k:Int),.b y] Tryz.func40 Tryz.ntmps40 rfl rfl ?_
  repeat' (first | refine gs_ ?_|((conv=>whnf); first | intro b | refine b3_ (fun h=>?_) (fun h=>?_)|refine callO (f:=77) 0 (A:=pairO (carsO lo (some ⟨g,0,none⟩) G.cars.length c1 G.cars true) (waitsO lo A2 G.waits.length c2 G.waits true)) (fun _:Unit=>.i .i64 0) (fun _=>pairO (carsO lo (some ⟨g,0,none⟩) G.cars.length c1 (G.cars.set k (fltY y G.cars[k])) true) (waitsO lo A2 G.waits.length c2 (fltW y k G.waits) true)) (fun w hH hA=>?_) (fun _=>?_)|refine fin_s ?_))
  ·have ob1:pairO (carsO lo (some ⟨g,0,none⟩) G.cars.length c1 G.cars true) (waitsO lo A2 G.waits.length c2 G.waits true)∈[pairO (carsO lo (some ⟨g,0,none⟩) G.cars.length c1 G.cars true) (waitsO lo A2 G.waits.length c2 G.waits true)]:=List.mem_singleton.2 rfl
   refine (change3 q g G _ c1 _ _ k _ _ _ _ 0 (pairO (carsO lo (some ⟨g,0,none⟩) G.cars.length c1 G.cars true) (waitsO lo A2 G.waits.length c2 G.waits true)) (pairO (carsO lo (some ⟨g,0,none⟩) G.cars.length c1 (G.cars.set k (fltY y G.cars[k])) true) (waitsO lo A2 G.waits.length c2 (fltW y k G.waits) true)) w (hH.row 0 _ rfl rfl) hA (hH.far _ ob1 0 _ rfl rfl) rfl hk rfl rfl (entC (by kernel_rfl)) (fun w1 hu hO=>?_)).mono (fun e w' h=>⟨(),h⟩)
   obtain ⟨P,S1,hP,hB,hback⟩:=own_el carL_len hO.1 hk
   refine (fault1T g _ P S1 G.cars[k] _ _ _ q k y lo G _ A2 c2 w1 hB hP (hu.blk (hH.row 3 _ rfl rfl) (hH.far _ ob1 3 _ rfl rfl)) (hu.blk (hH.row 1 _ rfl rfl) (hH.far _ ob1 1 _ rfl rfl)) (hu.blk (hH.row 2 _ rfl rfl) (hH.far _ ob1 2 _ rfl rfl)) (hu.blk (hH.row 0 _ rfl rfl) (hH.far _ ob1 0 _ rfl rfl)) hO.2 hl).mono ?_
   rintro e w' ⟨rfl,h1,h2,h3⟩
   exact ⟨rfl,⟨hback _ w' h1,h2⟩,h3,fun _ h=>.inl h⟩
  ·conv=>whnf
   refine fin fun w' hH=>?_
   have ob:=hH.obj _ (List.mem_singleton.2 rfl)
   have rw0:=hH.row 0 _ rfl rfl
   refine ⟨rfl,S,⟨h0,some ⟨g,0,none⟩,c1,A2,c2,hS, ?_, ?_, ?_⟩,hH.upd,fun _ h=>.inl h⟩
   ·have e1:(G.cars.set k (fltY y G.cars[k])).length=G.cars.length:=List.length_set
    show Blk w' q _ (grpA _ (.slice _ (G.cars.set k (fltY y G.cars[k])).length c1) (.slice A2 (fltW y k G.waits).length c2))
    rw [e1,fltW_len]; exact rw0
   ·have:=ob.1
    simpa [CarsAt,carsO,pairO,GrV.car,List.length_set] using this
   ·have:=ob.2
    show WaitsAt lo A2 (fltW y k G.waits).length c2 (fltW y k G.waits) w'
    rw [fltW_len]; exact this
end Gr
namespace En
open Go.RowKit Ba Mem
open Gr (pairO)
section
variable {X:Cx} {m:List Row} {ob:List Asr} {w w':World} {s:St}
theorem sm_hold {c:Code} {K:Exit→St→Prop} (m':List Row) (ob':List Asr) (hm:m'=s.m) (h:∀ w,Hold X s.m s.ob w→Hold X m' ob' w) (k:Sm X c ⟨s.fr,m',ob'⟩ K):Sm X c s K:=⟨fun a w hR=>by
 subst hm
 exact k.out a w ⟨hR.ds,hR.sz,hR.fr,h w hR.h⟩⟩
theorem Hold.unpair {A B:Asr} {post:List Asr} (h:Hold X m (pairO A B::post) w) (hA:A.rw=true) (hB:B.rw=true) (hd:A.st w→B.st w→∀ g∈A.F,g∉B.F):Hold X m (A::B::post) w:=by
 have ho:=h.obj (pairO A B) (List.mem_cons_self ..)
 have hp:=List.pairwise_cons.1 h.dis
 have hrw:(pairO A B).rw=true:=by show (A.rw && B.rw)=true; rw [hA,hB]; rfl
 have d0:=hd ho.1 ho.2
 refine ⟨h.upd,h.row,h.wf,h.ne,fun C hC=>?_,fun C hC j r hj hl hg=>?_,fun C hC hr g hg=>?_, ?_⟩
 ·rcases List.mem_cons.1 hC with rfl | hC
  ·exact ho.1
  rcases List.mem_cons.1 hC with rfl | hC
  ·exact ho.2
  ·exact h.obj C (List.mem_cons_of_mem _ hC)
 ·rcases List.mem_cons.1 hC with rfl | hC
  ·exact h.far _ (List.mem_cons_self ..) j r hj hl (List.mem_append.2 (.inl hg))
  rcases List.mem_cons.1 hC with rfl | hC
  ·exact h.far _ (List.mem_cons_self ..) j r hj hl (List.mem_append.2 (.inr hg))
  ·exact h.far C (List.mem_cons_of_mem _ hC) j r hj hl hg
 ·rcases List.mem_cons.1 hC with rfl | hC
  ·exact h.own _ (List.mem_cons_self ..) hrw g (List.mem_append.2 (.inl hg))
  rcases List.mem_cons.1 hC with rfl | hC
  ·exact h.own _ (List.mem_cons_self ..) hrw g (List.mem_append.2 (.inr hg))
  ·exact h.own C (List.mem_cons_of_mem _ hC) hr g hg
 ·rw [List.pairwise_cons,List.pairwise_cons]
  refine ⟨fun C hC=>?_,fun C hC=>fun _ g hg=>hp.1 C hC (.inl hrw) g (List.mem_append.2 (.inr hg)),hp.2⟩
  rcases List.mem_cons.1 hC with rfl | hC
  ·exact fun _=>d0
  ·exact fun _ g hg=>hp.1 C hC (.inl hrw) g (List.mem_append.2 (.inl hg))
theorem Hold.pair {A B:Asr} {post:List Asr} (h:Hold X m (A::B::post) w) (hA:A.rw=true) (hB:B.rw=true):Hold X m (pairO A B::post) w:=by
 have a1:A∈A::B::post:=List.mem_cons_self ..
 have b1:B∈A::B::post:=List.mem_cons_of_mem _ (List.mem_cons_self ..)
 have c1:∀ C∈post,C∈A::B::post:=fun C hC=>List.mem_cons_of_mem _ (List.mem_cons_of_mem _ hC)
 have hp:=List.pairwise_cons.1 h.dis
 have hq:=List.pairwise_cons.1 hp.2
 refine ⟨h.upd,h.row,h.wf,h.ne,fun C hC=>?_,fun C hC j r hj hl hg=>?_,fun C hC hr g hg=>?_, ?_⟩
 ·rcases List.mem_cons.1 hC with rfl | hC
  ·exact ⟨h.obj A a1,h.obj B b1⟩
  ·exact h.obj C (c1 C hC)
 ·rcases List.mem_cons.1 hC with rfl | hC
  ·exact (List.mem_append.1 hg).elim (h.far A a1 j r hj hl) (h.far B b1 j r hj hl)
  ·exact h.far C (c1 C hC) j r hj hl hg
 ·rcases List.mem_cons.1 hC with rfl | hC
  ·exact (List.mem_append.1 hg).elim (h.own A a1 hA g) (h.own B b1 hB g)
  ·exact h.own C (c1 C hC) hr g hg
 ·rw [List.pairwise_cons]
  refine ⟨fun C hC _ g hg=>?_,hq.2⟩
  rcases List.mem_append.1 hg with hg | hg
  ·exact hp.1 C (List.mem_cons_of_mem _ hC) (.inl hA) g hg
  ·exact hq.1 C hC (.inl hB) g hg
theorem callON {ι:Type} {f:FuncId} {vs:List SV} {K:SV→St→Prop} (i:Nat) {A:Asr} (v:ι→SV) (B C:ι→Asr)
  (hc:∀ w,Hold X s.m s.ob w→A.st w→Calls X.P f (denL s.m vs).toArray w fun e w'=>∃ x,e=.returned (den s.m (v x))∧(B x).st w'∧(C x).st w'∧Upd A.F w w'∧(∀ g∈(B x).F,g∈A.F∨w.heap.size≤g)∧∀ g∈(C x).F,w.heap.size≤g∧g∉(B x).F)
  (h:∀ x,setO i (B x) s.ob fun ob=>appO ob (C x) fun ob=>K (v x) ⟨s.fr,s.m,ob⟩) (hA:s.ob[i]?=some A:=by rfl) (hrw:A.rw=true:=by rfl)
  (he:entChk X.P f=true:=by kernel_rfl) (hv:∀ x,okV s.m.length (v x)=true:=by intro x; rfl):CallVC X f vs s K:=by
 refine ⟨entC he,fun w hH=>(hc w hH (hH.obj A (List.mem_of_getElem? hA))).mono ?_⟩
 rintro e w' ⟨x,rfl,h1,h2,h3,h4,h5⟩
 refine ⟨v x,s.m,s.ob.set i (B x)++[C x],rfl,hv x,Ext.refl _, ?_,appO_of (setO_of (h x))⟩
 refine Hold.addObj (hH.obj_set hA hrw h1 h3 h4) (C x) h2 (fun _ g hg=>.inr (Nat.le_trans hH.upd.size (h5 g hg).1)) (fun r hr hl hg=>?_) (fun D hD _ g hg hgC=>?_)
 ·obtain ⟨j,hj⟩:=List.mem_iff_getElem?.1 hr
  have:=(hH.row j r hj hl).lt; have:=(h5 _ hg).1; omega
 ·rcases mem_set_or hD with rfl | ⟨j,hne,hD⟩
  ·exact (h5 g hgC).2 hg
  ·have:=D.lt (hH.obj D (List.mem_of_getElem? hD)) g hg; have:=(h5 g hgC).1; omega
theorem opao (i k:Nat) {A E:Asr} {o:Oper} {K:St→Prop} {xs ys:Operand} {t e:TypeId} {lo size n c0 m c n2 bytes:Nat} {A0 A1:Option Addr} {z:Value} {vals cells zs:List Value} (B:Option Addr→Nat→Asr)
  (ho:o.op=.call { callee:=.builtin .append,args:=#[xs,ys],argTypes:=#[t,t] }) (hxs:evO xs s.fr=some (.v (.slice A0 n c0))) (hys:evO ys s.fr=some (.v (.slice A1 m c)))
  (hA:s.ob[i]?=some A) (hE:s.ob[k]?=some E) (hrw:A.rw=true) (hF:A.F=blkOf A0) (hst:∀ w,A.st w→w.ownsRow lo e size (.slice A0 n c0) n vals) (hB:∀ A' c' w,w.ownsRow lo e size (.slice A' n2 c') n2 zs→(B A' c').st w) (hBF:∀ A' c',(B A' c').F=blkOf A')
  (hr:∀ w,E.st w→Reads w w.heap.size size A1 m cells)
  (ht:X.P.underlying t=some (.slice e)) (hinf:(X.P.info? e).map (fun i=>(i.zero,i.size,i.bytes))=some (some z,size,bytes)) (hzs:z.cells.size=size) (hsz:0 < size) (hby:bytes≤1000) (h1:∀ u∈cells,u.oneCell'=true)
  (hnm:n+m≤1000000) (hbase:∀ w,Hold X s.m s.ob w→lo≤w.heap.size) (hn2:n+m=n2) (hzs2:vals++cells=zs)
  (h:∀ A' c',setO i (B A' c') s.ob fun ob=>put X.n o.dst (.v (.slice A' n2 c')) ⟨s.fr,s.m,ob⟩ K):OpVC X o s K:=⟨fun a w Q hR=>by
 refine wp_append_row xs ys t ho lo e z size bytes ht hinf hzs hsz hby A0 n c0 vals (by rw [(evO_of hR.fr hxs).2]; rfl) (hst w (hR.h.obj A (List.mem_of_getElem? hA))) _ A1 m c cells (by rw [(evO_of hR.fr hys).2]; rfl) (hr w (hR.h.obj E (List.mem_of_getElem? hE))) h1 hnm (hbase w hR.h) n2 zs hn2 hzs2 ?_
 intro A' c' w' hown hupd hfar
 have hH:=hR.h.obj_set hA hrw (hB A' c' w' hown) (by rw [hF]; exact hupd) (by rw [hF,hBF]; exact hfar)
 obtain ⟨s',r1,r2,r3,r4⟩:=put_of (a:=a) (s:=⟨s.fr,s.m,s.ob.set i (B A' c')⟩) (v:=.v (.slice A' n2 c')) hR.ds hR.sz hR.fr hH rfl (setO_of (h A' c'))
 exact ⟨s',r1,by rw [r2]; exact Ext.refl _,r4⟩⟩
theorem opxc {o:Oper} {K:St→Prop} {t:TypeId} {x:Operand} {g off:Nat} {ad:Addr} (v:SV) (hr:∀ w,Hold X s.m s.ob w→w.rangeAt g off [den s.m v]) (hX:X.Ok) (ho:o.op=.load t x) (hx:evO x s.fr=some (.v (.pointer (some ad)))) (had:ad=⟨g,off,none⟩) (h:put X.n o.dst v s K)
  (hn:(match tyO t X.tab with | some y=>!y.row | none=>false)=true:=by rfl) (hv:okV s.m.length v=true:=by rfl):OpVC X o s K:=by
 subst had
 refine opq v (fun a w hf hH=>?_) h hv
 cases hy:tyO t X.tab with
 | none=>simp [hy] at hn
 | some y =>
  simp only [hy,Bool.not_eq_true'] at hn
  obtain ⟨d,i,T⟩:=(hX.tab _ _ hy).out
  have he:=(evO_of hf hx).2
  have hc:w.cell? ⟨g,off,none⟩=some (den s.m v):=hr w hH 0 _ rfl
  have hrow:=T.row
  rw [hn] at hrow
  have hagg:(isAgg t).run X.P w=.ok false w:=by
   unfold isAgg
   rw [Sem.run_bind,run_underlying T.un w]
   cases d <;> simp_all [TypeDesc.isRow]
  unfold execOp
  simp only [ho,he,den,Instr.loadAt,Instr.sureAddr,Sem.run_bind,Sem.run_pure,Result.andThen_ok]
  simp [loadVar,Sem.run_bind,hagg,hc]
end
structure Ek (α:Type) where
 t:TypeId
 k:Nat
 c:α→List Value
 len:∀ a,(c a).length=k
 one:∀ a,∀ u∈c a,u.oneCell'=true
def Ek.At {α:Type} (E:Ek α) (lo:Nat) (A:Option Addr) (n c:Nat) (ls:List α) (w:World):Prop:=w.ownsRow lo E.t E.k (.slice A n c) n (rowsOf E.c ls)
def rwO {α:Type} (E:Ek α) (lo:Nat) (A:Option Addr) (n c:Nat) (ls:List α) (rw:Bool):Asr:=⟨blkOf A,rw,E.At lo A n c ls,fun k h hs=>k.own hs h,fun h=>own_lt h⟩
section
variable {α:Type} {E:Ek α} {lo g n c k:Nat} {A:Option Addr} {ls:List α} {w:World} {x:α}
theorem Ek.addr (h:E.At lo A n c ls w):∃ g,0 < n→A=some ⟨g,0,none⟩:=by
 rcases own_at h with ⟨_,h0,_⟩ | ⟨g,_,h1,_⟩
 ·exact ⟨0,fun k=>by omega⟩
 ·exact ⟨g,fun _=>h1⟩
theorem Ek.rng (h:E.At lo (some ⟨g,0,none⟩) n c ls w) (hx:ls[k]?=some x):w.rangeAt g (0+k*E.k) (E.c x):=by
 obtain ⟨hi,rfl⟩:=List.getElem?_eq_some_iff.1 hx
 obtain ⟨P,S,hP,hB,_⟩:=own_el E.len h hi
 have:=el_part (P:=P) (S:=S) (cs:=(E.c ls[k]).toArray) (j:=0) (n:=E.k) (l:=E.c ls[k]) hP (by show List.take E.k (E.c ls[k])=_; rw [List.take_of_length_le (by rw [E.len]; exact Nat.le_refl _)]) (by simp [E.len])
 exact range_of hB this (E.len _)
theorem Ek.nil (E:Ek α) (lo:Nat) (w:World):E.At lo none 0 0 [] w:=World.ownsRow_nil _ _ _ _
theorem Ek.base {lo':Nat} (h:E.At lo A n c ls w) (hb:lo'≤lo):E.At lo' A n c ls w:=own_base h hb
theorem Ek.reads (h:E.At lo A n c ls w):Reads w w.heap.size E.k A n (rowsOf E.c ls):=own_reads h
end
theorem opst {α:Type} {s:St} {X:Cx} (hX:X.Ok) (i kk:Nat) (E:Ek α) (v:α) (vs:List SV) {lo g n c:Nat} {ls:List α} {o:Oper} {K:St→Prop} {ty:TypeId} {x y:Operand} {ad:Addr} (ho:o.op=.store ty x y) (hx:evO x s.fr=some (.v (.pointer (some ad)))) (had:ad=⟨g,kk*E.k,none⟩) (hy:evO y s.fr=some (.a vs)) (hvs:denL s.m vs=E.c v) (hA:s.ob[i]?=some (rwO E lo (some ⟨g,0,none⟩) n c ls true)) (hi:kk < ls.length)
  (hk0:0 < E.k) (hn:(match tyO ty X.tab with | some z=>Nat.beq z.size E.k | none=>false)=true) (h:setO i (rwO E lo (some ⟨g,0,none⟩) n c (ls.set kk v) true) s.ob fun ob=>put X.n o.dst (.v undef) ⟨s.fr,s.m,ob⟩ K):OpVC X o s K:=⟨fun a w Q hR=>by
 subst had
 cases hz:tyO ty X.tab with
 | none=>simp [hz] at hn
 | some z =>
  simp only [hz] at hn
  obtain ⟨d,inf,T⟩:=(hX.tab _ _ hz).out
  have hst:=hR.h.obj _ (List.mem_of_getElem? hA)
  refine wp_set_row ty x y ho E.len hk0 E.one (show w.ownsRow lo E.t E.k (.slice (some ⟨g,0,none⟩) n c) n (rowsOf E.c ls) from hst) hi v (by rw [(evO_of hR.fr hx).2]; rfl) (by rw [(evO_of hR.fr hy).2]; simp only [den,hvs]) (by rw [T.inf]; simp [T.size,Nat.eq_of_beq_eq_true hn]) (fun w' hown hu=>?_)
  have hH:=hR.h.obj_set (B:=rwO E lo (some ⟨g,0,none⟩) n c (ls.set kk v) true) hA rfl hown (by simpa [rwO,blkOf] using hu) (fun g hg=>.inl hg)
  obtain ⟨s',r1,r2,r3,r4⟩:=put_of (a:=a) (s:=⟨s.fr,s.m,s.ob.set i (rwO E lo (some ⟨g,0,none⟩) n c (ls.set kk v) true)⟩) (v:=.v undef) hR.ds hR.sz hR.fr hH rfl (setO_of h)
  exact ⟨s',r1,by rw [r2]; exact Ext.refl _,r4⟩⟩
end En
namespace Qu
open Go.RowKit Ba Mem Go.Proofs.YtpiiblkiddcgcaaGreat.Ty
def btw (n lo hi:Int):Int:=if n < lo then lo else if hi < n then hi else n
def askC (a:AskV):List Value:=[.int .i64 a.se,.int .i64 a.fl,.int .i64 a.fm,.int .i64 a.to,.int .i64 a.ma]
theorem askC_len (a:AskV):(askC a).length=5:=rfl
theorem askC_one (a:AskV):∀ u∈askC a,u.oneCell'=true:=by
 intro u hu
 simp only [askC,List.mem_cons,List.not_mem_nil,or_false] at hu
 rcases hu with rfl | rfl | rfl | rfl | rfl <;> rfl
theorem asks_one (ls:List AskV):∀ u∈rowsOf askC ls,u.oneCell'=true:=rowsOf_one' askC_one ls
def QO (lo q:Nat) (room:Int) (ls:List AskV) (S:List Nat) (w:World):Prop :=
 lo≤q∧∃ A c,S=q::blkOf A∧Blk w q 153 #[.int .i64 room,.slice A ls.length c]∧w.ownsRow lo 46 5 (.slice A ls.length c) ls.length (rowsOf askC ls)
section
variable {w w':World} {lo q b:Nat} {room:Int} {ls:List AskV} {S T:List Nat}
theorem QO.upd (k:Upd T w w') (h:QO lo q room ls S w) (hT:∀ g∈S,g∉T):QO lo q room ls S w':=by
 obtain ⟨h0,A,c,rfl,B,O⟩:=h
 exact ⟨h0,A,c,rfl,k.blk B (hT _ (by simp)),k.own O (fun g hg=>hT g (by simp [hg]))⟩
theorem QO.low (h:QO lo q room ls S w):∀ g∈S,lo≤g:=by
 obtain ⟨h0,A,c,rfl,B,O⟩:=h
 intro g hg
 rcases List.mem_cons.1 hg with rfl | hg
 ·exact h0
 ·exact own_low O g hg
theorem QO.lt (h:QO lo q room ls S w):∀ g∈S,g < w.heap.size:=by
 obtain ⟨h0,A,c,rfl,B,O⟩:=h
 intro g hg
 rcases List.mem_cons.1 hg with rfl | hg
 ·exact B.lt
 ·exact own_lt O g hg
end
def isS (s:Int) (a:AskV):Bool:=a.se == s
def atS (ls:List AskV) (s:Int):Option Nat:=ls.findIdx? (isS s)
theorem atS_some {ls:List AskV} {s:Int} {k:Nat} (h:atS ls s=some k):k < ls.length∧(∀ hk:k < ls.length,(ls[k]).se=s)∧∀ j,j < k→∀ hj:j < ls.length,(ls[j]).se≠s:=by
 obtain ⟨hk,h1,h2⟩:=List.findIdx?_eq_some_iff_getElem.1 h
 refine ⟨hk,fun _=>by simpa [isS] using h1,fun j hj _=>?_⟩
 have:=h2 j hj
 simpa [isS] using this
def putE (room:Int) (ls:List AskV) (a:AskV):Int:=if (atS ls a.se).isSome then 7 else if room≤(ls.length:Int) then 5 else 0
def putL (room:Int) (ls:List AskV) (a:AskV):List AskV:=if putE room ls a=0 then ls++[a] else ls
def dropL (ls:List AskV) (s:Int):List AskV:=match atS ls s with | some k=>ls.eraseIdx k | none=>ls
end Qu
namespace Qu
open Go.RowKit Ba Mem Go.Proofs.YtpiiblkiddcgcaaGreat.Ty
section
variable {w w':World} {a:Option Addr} {n:Nat} {zs:List Int}
end
def atI (zs:List Int) (v:Int):Option Nat:=zs.findIdx? (fun z=>z == v)
def okF (zs:List Int) (a:AskV):Bool:=!(atI zs a.fl).isSome
def atF (ls:List AskV) (zs:List Int):Option Nat:=ls.findIdx? (okF zs)
theorem atF_some {ls:List AskV} {zs:List Int} {k:Nat} (h:atF ls zs=some k):k < ls.length∧(∀ hk:k < ls.length,(atI zs (ls[k]).fl).isSome=false)∧∀ j,j < k→∀ hj:j < ls.length,(atI zs (ls[j]).fl).isSome=true:=by
 obtain ⟨hk,h1,h2⟩:=List.findIdx?_eq_some_iff_getElem.1 h
 refine ⟨hk,fun _=>by simpa [okF] using h1,fun j hj _=>?_⟩
 have:=h2 j hj
 unfold okF at this
 revert this
 cases (atI zs (ls[j]).fl).isSome <;> simp
end Qu
namespace Qu
open Go.RowKit Ba Mem Go.Proofs.YtpiiblkiddcgcaaGreat.Ty
set_option maxRecDepth 100000
attribute [local irreducible] Go.wpList
def leaC (a:LeaseV):List Value:=[.int .i64 a.se,.int .i64 a.fl,.int .i64 a.fm,.int .i64 a.to,.int .i64 a.ma,.int .i64 a.ca,.int .i64 a.ph,.int .i64 a.un,.int .i64 a.re,.int .i64 a.gr]
theorem leaC_len (a:LeaseV):(leaC a).length=10:=rfl
theorem leaC_one (a:LeaseV):∀ u∈leaC a,u.oneCell'=true:=by
 intro u hu
 simp only [leaC,List.mem_cons,List.not_mem_nil,or_false] at hu
 rcases hu with rfl | rfl | rfl | rfl | rfl | rfl | rfl | rfl | rfl | rfl <;> rfl
theorem leas_one (ls:List LeaseV):∀ u∈rowsOf leaC ls,u.oneCell'=true:=rowsOf_one' leaC_one ls
namespace CA
set_option maxHeartbeats 4000000 in
theorem cloneNil (w:World):Calls Tryz.prog 190 #[.slice none 0 0] w fun e w'=>e=.returned (.slice none 0 0)∧Since w w':=by
 go_enter Tryz.func190,Tryz.ntmps190
 go_upto_region 1 with fail
 have HS1:=Lib.hid (Since.refl w)
 refine wp_region_lit ?_
 refine tkL (.slice none 0 0) (h:=?_)
 try simp only[Act.put,sA,sB,sC]
 refine tkL (.bool true) (h:=?_)
 try simp only[Act.put,sA,sB,sC]
 refine wpList_nil ?_
 go_upto_region 2 with fail
 refine wp_region_lit ?_
 refine tkL (.slice none 0 0) (h:=?_)
 try simp only[Act.put,sA,sB,sC]
 refine wpList_nil ?_
 (try go_wp2_with fail)
 go_ret
 exact ⟨rfl,HS1.out⟩
set_option maxHeartbeats 4000000 in
theorem cloneSome (ad:Addr) (n c:Nat) (ls:List AskV) (w:World) (hR:Reads w w.heap.size 5 (some ad) n (rowsOf askC ls)) (hN:n≤1000000):Calls Tryz.prog 190 #[.slice (some ad) n c] w fun e w'=>∃ A' c',e=.returned (.slice A' n c')∧w'.ownsRow w.heap.size 46 5 (.slice A' n c') n (rowsOf askC ls)∧Since w w':=by
 have HR:=Lib.hid hR
 clear hR
 have HN:=Lib.hid hN
 clear hN
 go_enter Tryz.func190,Tryz.ntmps190
 go_upto_region 1 with fail
 have HS1:=Lib.hid (Since.refl w)
 refine wp_region_lit ?_
 refine tkL (.slice (some ad) n c) (h:=?_)
 try simp only[Act.put,sA,sB,sC]
 refine tkL (.bool false) (h:=?_)
 try simp only[Act.put,sA,sB,sC]
 refine wpList_nil ?_
 go_upto_region 3 with fail
 refine wp_region_lit ?_
 refine wpList_wp (by rfl) (fun K hK=>?_)
 refine wp_new (fun b=>.slice (some ⟨b,0,none⟩) 0 0) 46 #[] (by rintro b rfl; first | rfl | kernel_rfl) ?_
 intro bn5 w2 hge hB hb
 refine hK.out _ _ ?_
 clear hK K
 try simp only[Act.put,sA,sB,sC]
 have HGn5:=Lib.hid (show w.heap.size≤bn5 by have:=Since.size HS1.out; omega)
 have HS2:=Lib.hid (Since.trans HS1.out hb)
 clear HS1 
 clear hb hge
 have HBn52:=Lib.hid hB
 clear hB
 refine tkL (.slice (some ad) n c) (h:=?_)
 try simp only[Act.put,sA,sB,sC]
 refine wpList_wp (by rfl) (fun K hK=>?_)
 have HOE:=Lib.hid (own_empty (e:=46) (size:=5) HBn52.out HGn5.out)
 clear HBn52
 refine wp_append_row (.tmp 5) (.tmp 6) 95 rfl w.heap.size 46 (Value.agg #[.int .i64 0,.int .i64 0,.int .i64 0,.int .i64 0,.int .i64 0]) 5 40 Tryz.underlying95 (by kernel_rfl) rfl (by decide) (by decide) (some ⟨bn5,0,none⟩) 0 0 ([]) rfl HOE.out _ (some ad) n c (rowsOf askC ls) rfl (own_reads_since HS2.out (Nat.le_refl _) HR.out) (asks_one ls) (by have:=HN.out; omega) HS2.out.size n (rowsOf askC ls) (Nat.zero_add _) rfl ?_
 intro A_1 c_1 w3 hown hupd hfar
 refine hK.out _ _ ?_
 clear hK K
 try simp only[Act.put,sA,sB,sC]
 have HS3:=Lib.hid (Since.upd HS2.out hupd (own_low HOE.out))
 have HFr3:=Lib.hid hown
 clear hupd hown hfar HS2 HOE
 refine tkL (.slice A_1 n c_1) (h:=?_)
 try simp only[Act.put,sA,sB,sC]
 refine wpList_nil ?_
 (try go_wp2_with fail)
 go_ret
 exact ⟨A_1,c_1,rfl,HFr3.out,HS3.out⟩
theorem cloneT (lo:Nat) (A:Option Addr) (c:Nat) (ls:List AskV) (w:World) (hO:w.ownsRow lo 46 5 (.slice A ls.length c) ls.length (rowsOf askC ls)) (hl:ls.length≤1000000):Calls Tryz.prog 190 #[.slice A ls.length c] w fun e w'=>∃ A' c',e=.returned (.slice A' ls.length c')∧w'.ownsRow w.heap.size 46 5 (.slice A' ls.length c') ls.length (rowsOf askC ls)∧Since w w':=by
 rcases own_at hO with ⟨rfl,h0,hx⟩ | ⟨g,cur,rfl,_⟩
 ·have hc:c=0:=by
   rcases hO.2 with ⟨hv,_⟩ | ⟨_,_,_,hv,_⟩
   ·simp at hv; exact hv.2
   ·simp at hv
  subst hc
  rw [hx,h0]
  refine (cloneNil w).mono ?_
  rintro e w1 ⟨rfl,hb⟩
  exact ⟨none,0,rfl,World.ownsRow_nil _ _ _ _,hb⟩
 ·exact cloneSome _ _ c ls w (own_reads hO) hl
set_option maxHeartbeats 4000000 in
theorem deleteT (lo g m c i:Nat) (ls:List AskV) (w:World) (hO:w.ownsRow lo 46 5 (.slice (some ⟨g,0,none⟩) (m+1) c) (m+1) (rowsOf askC ls)) (hl:ls.length=m+1) (hi:i≤m) (hc:m+1≤c) (hm:m+1≤1000000):Calls Tryz.prog 187 #[.slice (some ⟨g,0,none⟩) (m+1) c,.int .i64 (i:Int),.int .i64 ((i:Int)+1)] w fun e w'=>e=.returned (.slice (some ⟨g,0,none⟩) m c)∧w'.ownsRow lo 46 5 (.slice (some ⟨g,0,none⟩) m c) m (rowsOf askC (ls.eraseIdx i))∧Upd [g] w w':=by
 have HOW:=Lib.hid hO
 clear hO
 have HL:=Lib.hid hl
 clear hl
 have HI:=Lib.hid hi
 clear hi
 have HC:=Lib.hid hc
 clear hc
 have HM:=Lib.hid hm
 clear hm
 go_enter Tryz.func187,Tryz.ntmps187
 go_upto_region 1 with fail
 have HS1:=Lib.hid (Upd.refl [g] w)
 refine wp_region_lit ?_
 refine tkL (.slice (some ⟨g,0,none⟩) (m+1) c) (h:=?_)
 try simp only[Act.put,sA,sB,sC]
 refine tkL (.int .i64 (i:Int)) (h:=?_)
 try simp only[Act.put,sA,sB,sC]
 refine tkL (.int .i64 ((i:Int)+1)) (h:=?_)
 try simp only[Act.put,sA,sB,sC]
 refine tkL (.slice (some ⟨g,0,none⟩) (m+1) c) (h:=?_)
 try simp only[Act.put,sA,sB,sC]
 refine tkL (.int .i64 ((m+1:Nat):Int)) (h:=?_)
 try simp only[Act.put,sA,sB,sC]
 refine wpList_q (by rfl) (.slice (cutA (m+1) i (some ⟨g,0,none⟩:Option Addr) 5) (i+1 - i) (m+1 - i)) ?he ?_
 case he=>exact exec_slice (s:=5) 95 46 _ _ _ _ rfl rfl Tryz.underlying95 (by kernel_rfl) (sb_lhm _ _ _ _ (l:=i) (h:=i+1) (m:=m+1) rfl (by push_cast; rfl) rfl (by omega) (by have q0:=HI.out; omega) HC.out) (by rfl) rfl rfl
 try simp only[Act.put,sA,sB,sC]
 refine wpList_nil ?_
 go_upto_region 2 with fail
 refine wp_region_lit ?_
 refine tkL (.int .i64 (i:Int)) (h:=?_)
 try simp only[Act.put,sA,sB,sC]
 refine tkL (.int .i64 ((i:Int)+1)) (h:=?_)
 try simp only[Act.put,sA,sB,sC]
 refine wpList_q (by rfl) (.bool false) ?he ?_
 case he=>(go_simp; (first | done | rfl | omega))
 try simp only[Act.put,sA,sB,sC]
 refine wpList_nil ?_
 go_upto_region 4 with fail
 refine wp_region_lit ?_
 refine tkL (.slice (some ⟨g,0,none⟩) (m+1) c) (h:=?_)
 try simp only[Act.put,sA,sB,sC]
 refine tkL (.int .i64 ((m+1:Nat):Int)) (h:=?_)
 try simp only[Act.put,sA,sB,sC]
 refine tkL (.int .i64 ((m+1:Nat):Int)) (h:=?_)
 try simp only[Act.put,sA,sB,sC]
 refine wpList_nil ?_
 go_upto_region 5 with fail
 have HKS:Hid (KeepS (fun W:World=>Upd [g] w W) w):=Lib.hid ⟨fun W W' k h=>h.trans k,HS1.out⟩
 have HRK:=Lib.hid HKS.out.1
 have HEr:=Lib.hid (show ((World.drew w)).ownsRow lo 46 5 (.slice (some ⟨g,0,none⟩) (m+1) c) (m+1) (rowsOf askC ls) from HOW.out)
 clear HOW
 refine wp_held HKS.out (by kernel_rfl) (fun hHeld=>?_)
 refine tkQ 0 (.slice (some ⟨g,0,none⟩) (m+1) c) hHeld (h:=?_)
 try simp only[Act.put,sA,sB,sC]
 refine tkQ 1 (.int .i64 (i:Int)) hHeld (h:=?_)
 try simp only[Act.put,sA,sB,sC]
 refine tkQ 2 (.slice (some ⟨g,0,none⟩) i c) hHeld (he:=by intro w hSw; exact exec_slice (s:=5) 95 46 _ _ _ _ rfl rfl Tryz.underlying95 (by kernel_rfl) (sb_h _ _ (h:=i) rfl (by have q0:=HI.out; have q1:=HC.out; omega)) (by split <;> simp [Addr.add]) rfl rfl) (h:=?_)
 try simp only[Act.put,sA,sB,sC]
 refine tkQ 3 (.slice (some ⟨g,0,none⟩) (m+1) c) hHeld (h:=?_)
 try simp only[Act.put,sA,sB,sC]
 refine tkQ 4 (.int .i64 ((i:Int)+1)) hHeld (h:=?_)
 try simp only[Act.put,sA,sB,sC]
 refine tkQ 5 (.slice (cutA c (i+1) (some ⟨g,0,none⟩:Option Addr) 5) (m+1 - (i+1)) (c - (i+1))) hHeld (he:=by intro w hSw; exact exec_slice (s:=5) 95 46 _ _ _ _ rfl rfl Tryz.underlying95 (by kernel_rfl) (sb_l _ _ (l:=i+1) (by push_cast; rfl) (by have q0:=HI.out; omega)) (by rfl) rfl rfl) (h:=?_)
 try simp only[Act.put,sA,sB,sC]
 refine wpAnyH_ready (rs:=[6]) (by kernel_rfl) (by simp) ?_
 refine AllReadyH.cons (o:=?o5__6) ?h5__6 (fun K hK=>?_) AllReadyH.nil
 case h5__6=>(first | (simp only [gA,gB,gC]; done)|(simp only [gA,gB,gC]; exact rfl))
 rw [if_pos (by rfl)]
 refine wp_append_room (.tmp 22) (.tmp 25) 95 rfl lo 46 5 Tryz.underlying95 (by kernel_rfl) g i c ((rowsOf askC ls).take (i*5)) rfl (own_prefix HEr.out (by have q0:=HI.out; omega)) _ (cutA c (i+1) (some ⟨g,0,none⟩:Option Addr) 5) (m+1 - (i+1)) (c - (i+1)) ((rowsOf askC ls).drop ((i+1)*5)) rfl (reads_cut (own_reads HEr.out) (by have q0:=HI.out; omega) HC.out) (fun u hu=>asks_one ls u (List.mem_of_mem_drop hu)) (by have q0:=HI.out; have q1:=HC.out; omega) m (rowsOf askC (ls.eraseIdx i)) (by have q0:=HI.out; omega) (erase_rows askC_len (by have q0:=HI.out; have q2:=HL.out; omega)) ?_
 intro w2 hown hupd
 skip
 have hHeld3:=HKS.out.at_ w2 (Upd.comp hHeld hupd (fun _ h=>.inl h))
 have HOW_w2:=Lib.hid hown
 refine hK.out _ _ hHeld3 (fun hHeld2=>?_)
 clear hK K hHeld hHeld3 hupd hown  HEr 
 have hHeld:=hHeld2
 clear hHeld2
 try simp only[Act.put,sA,sB,sC]
 refine tkQ 7 (.slice (some ⟨g,0,none⟩) m c) hHeld (h:=?_)
 try simp only[Act.put,sA,sB,sC]
 refine wpAnyH_done (by kernel_rfl) ?_ _
 have HSd5:=Lib.hid hHeld
 clear hHeld HRK HKS HS1 
 have HFrd5:=Lib.hid HOW_w2.out
 clear HOW_w2
 go_upto_region 6 with fail
 refine wp_region_lit ?_
 refine tkL (.slice (some ⟨g,0,none⟩) m c) (h:=?_)
 try simp only[Act.put,sA,sB,sC]
 refine tkL (.slice (some ⟨g,0,none⟩) m c) (h:=?_)
 try simp only[Act.put,sA,sB,sC]
 refine tkL (.int .i64 (m:Int)) (h:=?_)
 try simp only[Act.put,sA,sB,sC]
 refine tkL (.int .i64 ((m+1:Nat):Int)) (h:=?_)
 try simp only[Act.put,sA,sB,sC]
 refine wpList_q (by rfl) (.slice (some ⟨g,m*5,none⟩) 1 (c - m)) ?he ?_
 case he=>exact exec_slice (s:=5) 95 46 _ _ _ _ rfl rfl Tryz.underlying95 (by kernel_rfl) (sb_lh _ _ _ (l:=m) (h:=m+1) rfl rfl (by omega) HC.out) (by have q1:=HC.out; rw [if_neg (by omega)]; simp [Go.WideShapes.add_plain]) (by omega) rfl
 try simp only[Act.put,sA,sB,sC]
 refine wpList_wp (by rfl) (fun K hK=>?_)
 refine wp_clear_behind _ 95 rfl lo 46 (Value.agg #[.int .i64 0,.int .i64 0,.int .i64 0,.int .i64 0,.int .i64 0]) 5 40 Tryz.underlying95 (by kernel_rfl) rfl (by intro u hu; simp [Value.cells] at hu; (try rcases hu with rfl | rfl | rfl | rfl) <;> rfl) g m c _ HFrd5.out 1 (c - m) (by decide) HC.out rfl ?_
 intro w3 hown hupd
 refine hK.out _ _ ?_
 clear hK K
 try simp only[Act.put,sA,sB,sC]
 have HSz:=Lib.hid (Upd.comp HSd5.out hupd (fun _ h=>.inl h))
 have HOWz:=Lib.hid hown
 clear hown hupd HSd5 HFrd5
 refine wpList_nil ?_
 go_upto_region 7 with fail
 refine wp_region_lit ?_
 refine tkL (.slice (some ⟨g,0,none⟩) m c) (h:=?_)
 try simp only[Act.put,sA,sB,sC]
 refine tkL (.slice (some ⟨g,0,none⟩) m c) (h:=?_)
 try simp only[Act.put,sA,sB,sC]
 refine wpList_nil ?_
 (try go_wp2_with fail)
 go_ret
 exact ⟨rfl,HOWz.out,HSz.out⟩
end CA
namespace CL
set_option maxHeartbeats 4000000 in
theorem cloneNil (w:World):Calls Tryz.prog 115 #[.slice none 0 0] w fun e w'=>e=.returned (.slice none 0 0)∧Since w w':=by
 go_enter Tryz.func115,Tryz.ntmps115
 go_upto_region 1 with fail
 have HS1:=Lib.hid (Since.refl w)
 refine wp_region_lit ?_
 refine tkL (.slice none 0 0) (h:=?_)
 try simp only[Act.put,sA,sB,sC]
 refine tkL (.bool true) (h:=?_)
 try simp only[Act.put,sA,sB,sC]
 refine wpList_nil ?_
 go_upto_region 2 with fail
 refine wp_region_lit ?_
 refine tkL (.slice none 0 0) (h:=?_)
 try simp only[Act.put,sA,sB,sC]
 refine wpList_nil ?_
 (try go_wp2_with fail)
 go_ret
 exact ⟨rfl,HS1.out⟩
set_option maxHeartbeats 4000000 in
theorem cloneSome (ad:Addr) (n c:Nat) (ls:List LeaseV) (w:World) (hR:Reads w w.heap.size 10 (some ad) n (rowsOf leaC ls)) (hN:n≤1000000):Calls Tryz.prog 115 #[.slice (some ad) n c] w fun e w'=>∃ A' c',e=.returned (.slice A' n c')∧w'.ownsRow w.heap.size 101 10 (.slice A' n c') n (rowsOf leaC ls)∧Since w w':=by
 have HR:=Lib.hid hR
 clear hR
 have HN:=Lib.hid hN
 clear hN
 go_enter Tryz.func115,Tryz.ntmps115
 go_upto_region 1 with fail
 have HS1:=Lib.hid (Since.refl w)
 refine wp_region_lit ?_
 refine tkL (.slice (some ad) n c) (h:=?_)
 try simp only[Act.put,sA,sB,sC]
 refine tkL (.bool false) (h:=?_)
 try simp only[Act.put,sA,sB,sC]
 refine wpList_nil ?_
 go_upto_region 3 with fail
 refine wp_region_lit ?_
 refine wpList_wp (by rfl) (fun K hK=>?_)
 refine wp_new (fun b=>.slice (some ⟨b,0,none⟩) 0 0) 101 #[] (by rintro b rfl; first | rfl | kernel_rfl) ?_
 intro bn5 w2 hge hB hb
 refine hK.out _ _ ?_
 clear hK K
 try simp only[Act.put,sA,sB,sC]
 have HGn5:=Lib.hid (show w.heap.size≤bn5 by have:=Since.size HS1.out; omega)
 have HS2:=Lib.hid (Since.trans HS1.out hb)
 clear HS1 
 clear hb hge
 have HBn52:=Lib.hid hB
 clear hB
 refine tkL (.slice (some ad) n c) (h:=?_)
 try simp only[Act.put,sA,sB,sC]
 refine wpList_wp (by rfl) (fun K hK=>?_)
 have HOE:=Lib.hid (own_empty (e:=101) (size:=10) HBn52.out HGn5.out)
 clear HBn52
 refine wp_append_row (.tmp 5) (.tmp 6) 96 rfl w.heap.size 101 (Value.agg #[.int .i64 0,.int .i64 0,.int .i64 0,.int .i64 0,.int .i64 0,.int .i64 0,.int .i64 0,.int .i64 0,.int .i64 0,.int .i64 0]) 10 80 Tryz.underlying96 (by kernel_rfl) rfl (by decide) (by decide) (some ⟨bn5,0,none⟩) 0 0 ([]) rfl HOE.out _ (some ad) n c (rowsOf leaC ls) rfl (own_reads_since HS2.out (Nat.le_refl _) HR.out) (leas_one ls) (by have:=HN.out; omega) HS2.out.size n (rowsOf leaC ls) (Nat.zero_add _) rfl ?_
 intro A_1 c_1 w3 hown hupd hfar
 refine hK.out _ _ ?_
 clear hK K
 try simp only[Act.put,sA,sB,sC]
 have HS3:=Lib.hid (Since.upd HS2.out hupd (own_low HOE.out))
 have HFr3:=Lib.hid hown
 clear hupd hown hfar HS2 HOE
 refine tkL (.slice A_1 n c_1) (h:=?_)
 try simp only[Act.put,sA,sB,sC]
 refine wpList_nil ?_
 (try go_wp2_with fail)
 go_ret
 exact ⟨A_1,c_1,rfl,HFr3.out,HS3.out⟩
theorem cloneT (lo:Nat) (A:Option Addr) (c:Nat) (ls:List LeaseV) (w:World) (hO:w.ownsRow lo 101 10 (.slice A ls.length c) ls.length (rowsOf leaC ls)) (hl:ls.length≤1000000):Calls Tryz.prog 115 #[.slice A ls.length c] w fun e w'=>∃ A' c',e=.returned (.slice A' ls.length c')∧w'.ownsRow w.heap.size 101 10 (.slice A' ls.length c') ls.length (rowsOf leaC ls)∧Since w w':=by
 rcases own_at hO with ⟨rfl,h0,hx⟩ | ⟨g,cur,rfl,_⟩
 ·have hc:c=0:=by
   rcases hO.2 with ⟨hv,_⟩ | ⟨_,_,_,hv,_⟩
   ·simp at hv; exact hv.2
   ·simp at hv
  subst hc
  rw [hx,h0]
  refine (cloneNil w).mono ?_
  rintro e w1 ⟨rfl,hb⟩
  exact ⟨none,0,rfl,World.ownsRow_nil _ _ _ _,hb⟩
 ·exact cloneSome _ _ c ls w (own_reads hO) hl
set_option maxHeartbeats 4000000 in
theorem deleteT (lo g m c i:Nat) (ls:List LeaseV) (w:World) (hO:w.ownsRow lo 101 10 (.slice (some ⟨g,0,none⟩) (m+1) c) (m+1) (rowsOf leaC ls)) (hl:ls.length=m+1) (hi:i≤m) (hc:m+1≤c) (hm:m+1≤1000000):Calls Tryz.prog 212 #[.slice (some ⟨g,0,none⟩) (m+1) c,.int .i64 (i:Int),.int .i64 ((i:Int)+1)] w fun e w'=>e=.returned (.slice (some ⟨g,0,none⟩) m c)∧w'.ownsRow lo 101 10 (.slice (some ⟨g,0,none⟩) m c) m (rowsOf leaC (ls.eraseIdx i))∧Upd [g] w w':=by
 have HOW:=Lib.hid hO
 clear hO
 have HL:=Lib.hid hl
 clear hl
 have HI:=Lib.hid hi
 clear hi
 have HC:=Lib.hid hc
 clear hc
 have HM:=Lib.hid hm
 clear hm
 go_enter Tryz.func212,Tryz.ntmps212
 go_upto_region 1 with fail
 have HS1:=Lib.hid (Upd.refl [g] w)
 refine wp_region_lit ?_
 refine tkL (.slice (some ⟨g,0,none⟩) (m+1) c) (h:=?_)
 try simp only[Act.put,sA,sB,sC]
 refine tkL (.int .i64 (i:Int)) (h:=?_)
 try simp only[Act.put,sA,sB,sC]
 refine tkL (.int .i64 ((i:Int)+1)) (h:=?_)
 try simp only[Act.put,sA,sB,sC]
 refine tkL (.slice (some ⟨g,0,none⟩) (m+1) c) (h:=?_)
 try simp only[Act.put,sA,sB,sC]
 refine tkL (.int .i64 ((m+1:Nat):Int)) (h:=?_)
 try simp only[Act.put,sA,sB,sC]
 refine wpList_q (by rfl) (.slice (cutA (m+1) i (some ⟨g,0,none⟩:Option Addr) 10) (i+1 - i) (m+1 - i)) ?he ?_
 case he=>exact exec_slice (s:=10) 96 101 _ _ _ _ rfl rfl Tryz.underlying96 (by kernel_rfl) (sb_lhm _ _ _ _ (l:=i) (h:=i+1) (m:=m+1) rfl (by push_cast; rfl) rfl (by omega) (by have q0:=HI.out; omega) HC.out) (by rfl) rfl rfl
 try simp only[Act.put,sA,sB,sC]
 refine wpList_nil ?_
 go_upto_region 2 with fail
 refine wp_region_lit ?_
 refine tkL (.int .i64 (i:Int)) (h:=?_)
 try simp only[Act.put,sA,sB,sC]
 refine tkL (.int .i64 ((i:Int)+1)) (h:=?_)
 try simp only[Act.put,sA,sB,sC]
 refine wpList_q (by rfl) (.bool false) ?he ?_
 case he=>(go_simp; (first | done | rfl | omega))
 try simp only[Act.put,sA,sB,sC]
 refine wpList_nil ?_
 go_upto_region 4 with fail
 refine wp_region_lit ?_
 refine tkL (.slice (some ⟨g,0,none⟩) (m+1) c) (h:=?_)
 try simp only[Act.put,sA,sB,sC]
 refine tkL (.int .i64 ((m+1:Nat):Int)) (h:=?_)
 try simp only[Act.put,sA,sB,sC]
 refine tkL (.int .i64 ((m+1:Nat):Int)) (h:=?_)
 try simp only[Act.put,sA,sB,sC]
 refine wpList_nil ?_
 go_upto_region 5 with fail
 have HKS:Hid (KeepS (fun W:World=>Upd [g] w W) w):=Lib.hid ⟨fun W W' k h=>h.trans k,HS1.out⟩
 have HRK:=Lib.hid HKS.out.1
 have HEr:=Lib.hid (show ((World.drew w)).ownsRow lo 101 10 (.slice (some ⟨g,0,none⟩) (m+1) c) (m+1) (rowsOf leaC ls) from HOW.out)
 clear HOW
 refine wp_held HKS.out (by kernel_rfl) (fun hHeld=>?_)
 refine tkQ 0 (.slice (some ⟨g,0,none⟩) (m+1) c) hHeld (h:=?_)
 try simp only[Act.put,sA,sB,sC]
 refine tkQ 1 (.int .i64 (i:Int)) hHeld (h:=?_)
 try simp only[Act.put,sA,sB,sC]
 refine tkQ 2 (.slice (some ⟨g,0,none⟩) i c) hHeld (he:=by intro w hSw; exact exec_slice (s:=10) 96 101 _ _ _ _ rfl rfl Tryz.underlying96 (by kernel_rfl) (sb_h _ _ (h:=i) rfl (by have q0:=HI.out; have q1:=HC.out; omega)) (by split <;> simp [Addr.add]) rfl rfl) (h:=?_)
 try simp only[Act.put,sA,sB,sC]
 refine tkQ 3 (.slice (some ⟨g,0,none⟩) (m+1) c) hHeld (h:=?_)
 try simp only[Act.put,sA,sB,sC]
 refine tkQ 4 (.int .i64 ((i:Int)+1)) hHeld (h:=?_)
 try simp only[Act.put,sA,sB,sC]
 refine tkQ 5 (.slice (cutA c (i+1) (some ⟨g,0,none⟩:Option Addr) 10) (m+1 - (i+1)) (c - (i+1))) hHeld (he:=by intro w hSw; exact exec_slice (s:=10) 96 101 _ _ _ _ rfl rfl Tryz.underlying96 (by kernel_rfl) (sb_l _ _ (l:=i+1) (by push_cast; rfl) (by have q0:=HI.out; omega)) (by rfl) rfl rfl) (h:=?_)
 try simp only[Act.put,sA,sB,sC]
 refine wpAnyH_ready (rs:=[6]) (by kernel_rfl) (by simp) ?_
 refine AllReadyH.cons (o:=?o5__6) ?h5__6 (fun K hK=>?_) AllReadyH.nil
 case h5__6=>(first | (simp only [gA,gB,gC]; done)|(simp only [gA,gB,gC]; exact rfl))
 rw [if_pos (by rfl)]
 refine wp_append_room (.tmp 22) (.tmp 25) 96 rfl lo 101 10 Tryz.underlying96 (by kernel_rfl) g i c ((rowsOf leaC ls).take (i*10)) rfl (own_prefix HEr.out (by have q0:=HI.out; omega)) _ (cutA c (i+1) (some ⟨g,0,none⟩:Option Addr) 10) (m+1 - (i+1)) (c - (i+1)) ((rowsOf leaC ls).drop ((i+1)*10)) rfl (reads_cut (own_reads HEr.out) (by have q0:=HI.out; omega) HC.out) (fun u hu=>leas_one ls u (List.mem_of_mem_drop hu)) (by have q0:=HI.out; have q1:=HC.out; omega) m (rowsOf leaC (ls.eraseIdx i)) (by have q0:=HI.out; omega) (erase_rows leaC_len (by have q0:=HI.out; have q2:=HL.out; omega)) ?_
 intro w2 hown hupd
 skip
 have hHeld3:=HKS.out.at_ w2 (Upd.comp hHeld hupd (fun _ h=>.inl h))
 have HOW_w2:=Lib.hid hown
 refine hK.out _ _ hHeld3 (fun hHeld2=>?_)
 clear hK K hHeld hHeld3 hupd hown  HEr 
 have hHeld:=hHeld2
 clear hHeld2
 try simp only[Act.put,sA,sB,sC]
 refine tkQ 7 (.slice (some ⟨g,0,none⟩) m c) hHeld (h:=?_)
 try simp only[Act.put,sA,sB,sC]
 refine wpAnyH_done (by kernel_rfl) ?_ _
 have HSd5:=Lib.hid hHeld
 clear hHeld HRK HKS HS1 
 have HFrd5:=Lib.hid HOW_w2.out
 clear HOW_w2
 go_upto_region 6 with fail
 refine wp_region_lit ?_
 refine tkL (.slice (some ⟨g,0,none⟩) m c) (h:=?_)
 try simp only[Act.put,sA,sB,sC]
 refine tkL (.slice (some ⟨g,0,none⟩) m c) (h:=?_)
 try simp only[Act.put,sA,sB,sC]
 refine tkL (.int .i64 (m:Int)) (h:=?_)
 try simp only[Act.put,sA,sB,sC]
 refine tkL (.int .i64 ((m+1:Nat):Int)) (h:=?_)
 try simp only[Act.put,sA,sB,sC]
 refine wpList_q (by rfl) (.slice (some ⟨g,m*10,none⟩) 1 (c - m)) ?he ?_
 case he=>exact exec_slice (s:=10) 96 101 _ _ _ _ rfl rfl Tryz.underlying96 (by kernel_rfl) (sb_lh _ _ _ (l:=m) (h:=m+1) rfl rfl (by omega) HC.out) (by have q1:=HC.out; rw [if_neg (by omega)]; simp [Go.WideShapes.add_plain]) (by omega) rfl
 try simp only[Act.put,sA,sB,sC]
 refine wpList_wp (by rfl) (fun K hK=>?_)
 refine wp_clear_behind _ 96 rfl lo 101 (Value.agg #[.int .i64 0,.int .i64 0,.int .i64 0,.int .i64 0,.int .i64 0,.int .i64 0,.int .i64 0,.int .i64 0,.int .i64 0,.int .i64 0]) 10 80 Tryz.underlying96 (by kernel_rfl) rfl (by intro u hu; simp [Value.cells] at hu; (try rcases hu with rfl | rfl | rfl | rfl) <;> rfl) g m c _ HFrd5.out 1 (c - m) (by decide) HC.out rfl ?_
 intro w3 hown hupd
 refine hK.out _ _ ?_
 clear hK K
 try simp only[Act.put,sA,sB,sC]
 have HSz:=Lib.hid (Upd.comp HSd5.out hupd (fun _ h=>.inl h))
 have HOWz:=Lib.hid hown
 clear hown hupd HSd5 HFrd5
 refine wpList_nil ?_
 go_upto_region 7 with fail
 refine wp_region_lit ?_
 refine tkL (.slice (some ⟨g,0,none⟩) m c) (h:=?_)
 try simp only[Act.put,sA,sB,sC]
 refine tkL (.slice (some ⟨g,0,none⟩) m c) (h:=?_)
 try simp only[Act.put,sA,sB,sC]
 refine wpList_nil ?_
 (try go_wp2_with fail)
 go_ret
 exact ⟨rfl,HOWz.out,HSz.out⟩
end CL
end Qu
namespace Qu
open Go.RowKit Ba Mem En Go.Proofs.YtpiiblkiddcgcaaGreat.Ty
set_option maxRecDepth 100000
attribute [local irreducible] Go.Calls
def askE:Ek AskV:=⟨46,5,askC,askC_len,askC_one⟩
def intE:Ek Int:=⟨3,1,fun z=>[.int .i64 z],fun _=>rfl,fun a u hu=>by rw [List.mem_singleton] at hu; subst hu; rfl⟩
def qO (lo q:Nat) (room:Int) (ls:List AskV) (S:List Nat) (rw:Bool):Asr:=⟨S,rw,QO lo q room ls S,fun k h hs=>hs.upd k h,fun h=>h.lt⟩
def oM (y:Option Nat):Int:=match y with | some k=>(k:Int)|none=>0
def oQ (y:Option Nat):Int:=match y with | some k=>(k:Int)|none => -1
theorem QO.base {lo lo' q:Nat} {room:Int} {ls:List AskV} {S:List Nat} {w:World} (h:QO lo q room ls S w) (hb:lo'≤lo):QO lo' q room ls S w:=by
 obtain ⟨h0,A,c,rfl,B,O⟩:=h
 exact ⟨by omega,A,c,rfl,B,own_base O hb⟩
theorem hold_qu {lo q n:Nat} {room:Int} {ls:List AskV} {S:List Nat} {w:World} (hg:QO lo q room ls S w):∃ A c,lo≤q∧S=q::blkOf A∧Hold ⟨Tryz.prog,tab,S,w,n,[]⟩ [⟨q,153,true,0,[],[.i .i64 room,.v (.slice A ls.length c)],[],true⟩] [rwO askE lo A ls.length c ls true] w:=by
 obtain ⟨h0,A,c,rfl,B,O⟩:=hg
 have hq:q∉blkOf A:=own_ne_ty O B (by decide)
 exact ⟨A,c,h0,rfl,Hold.addObj (Hold.addRow (m:=[]) (Hold.nil _ tab _ n w) ⟨q,153,true,0,[],[.i .i64 room,.v (.slice A ls.length c)],[],true⟩ B (fun _=>.inl (by simp)) (by intro q hq; cases hq) (by intro A hA; cases hA)) (rwO askE lo A ls.length c ls true) O (fun _ g hg=>.inl (List.mem_cons_of_mem _ hg)) (by intro r hr _; simp only [List.nil_append,List.mem_singleton] at hr; subst hr; exact hq) (by intro A hA; cases hA)⟩
theorem hold_qr {q lo c n:Nat} {room:Int} {ls:List AskV} {A:Option Addr} {w:World} (hq:Blk w q 153 #[.int .i64 room,.slice A ls.length c]) (ho:askE.At lo A ls.length c ls w):Hold ⟨Tryz.prog,tab,[],w,n,[]⟩ [⟨q,153,true,0,[],[.i .i64 room,.v (.slice A ls.length c)],[],false⟩] [rwO askE lo A ls.length c ls false] w :=
 Hold.addObj (hold_q (S:=[]) [.i .i64 room,.v (.slice A ls.length c)] hq) (rwO askE lo A ls.length c ls false) ho (by intro k; cases k) (by intro r hr _; rw [List.mem_singleton] at hr; subst hr; exact own_ne_ty ho hq (by decide)) (by intro A hA; cases hA)
theorem fin_qu {lo q n n1 c1:Nat} {room:Int} {A1:Option Addr} {S:List Nat} {w:World} {V:Value} {v:SV} {fr:List (Nat×SV)} {ls:List AskV} {rest:List Row} {obr:List Asr} {st:St}
  (hst:st=⟨fr,⟨q,153,true,0,[],[.i .i64 room,.v (.slice A1 n1 c1)],[],true⟩::rest,rwO askE lo A1 n1 c1 ls true::obr⟩) (hv:∀ m,den m v=V) (h0:lo≤q) (h1:n1=ls.length) :
  Fin ⟨Tryz.prog,tab,S,w,n,[]⟩ (fun e w'=>e=.returned V∧∃ S',QO lo q room ls S' w'∧Upd S w w'∧∀ g∈S',g∈S∨w.heap.size≤g) v st:=by
 subst hst h1
 refine fin fun w' hH=>?_
 have oc:rwO askE lo A1 ls.length c1 ls true∈rwO askE lo A1 ls.length c1 ls true::obr:=List.mem_cons_self ..
 refine ⟨by rw [hv],_,⟨h0,A1,c1,rfl, ?_,hH.obj _ oc⟩,hH.upd,fun g hg=>?_⟩
 ·have:=hH.row 0 _ rfl rfl
  rw [rowA_nil rfl rfl] at this
  exact this
 ·rcases List.mem_cons.1 hg with rfl | hg
  ·exact (hH.wf 0 _ rfl rfl).2.2 rfl
  ·exact hH.own _ oc rfl g hg
theorem newT (room:Int) (w:World):Calls Tryz.prog 51 #[.int .i64 room] w fun e w'=>∃ q,e=.returned (.pointer (some ⟨q,0,none⟩))∧QO w.heap.size q (btw room 0 64) [] [q] w'∧Since w w':=by
 refine ent tab_ok [.i .i64 room] Tryz.func51 Tryz.ntmps51 rfl rfl ?_
 repeat' (first | refine gs_ ?_|((conv=>whnf); first | intro b | refine b3_ (fun h=>?_) (fun h=>?_)|refine fin_s ?_))
 all_goals (conv=>whnf)
 refine fin fun w' hH=>⟨_,rfl,⟨?_,none,0,rfl, ?_,World.ownsRow_nil _ _ _ _⟩,hH.upd.since⟩
 ·rcases (hH.wf 0 _ rfl rfl).2.2 rfl with h | h
  ·cases h
  ·exact h
 ·have q:=hH.row 0 _ rfl rfl
  rw [rowA_nil rfl rfl] at q
  rw [show btw room 0 64=(if 64 < (if room < 0 then 0 else room) then 64 else (if room < 0 then 0 else room)) by unfold btw; repeat' split <;> omega]
  exact q
theorem aheadT {q lo c:Nat} {room:Int} {ls:List AskV} {A:Option Addr} (s:Int) (w:World) (hq:Blk w q 153 #[.int .i64 room,.slice A ls.length c]) (ho:askE.At lo A ls.length c ls w) (hl:ls.length≤1000000) :
  Calls Tryz.prog 186 #[.pointer (some ⟨q,0,none⟩),.int .i64 s] w fun e w'=>e=.returned (.tuple #[.int .i64 (oM (atS ls s)),.bool (atS ls s).isSome])∧Since w w':=by
 obtain ⟨g,hA⟩:=Ek.addr ho
 refine entH tab_ok (hold_qr hq ho) [.p 0 0,.i .i64 s] Tryz.func186 Tryz.ntmps186 rfl rfl ?_
 repeat' (first | refine gs_ ?_|((conv=>whnf); first | intro b | refine b3_ (fun h=>?_) (fun h=>?_)|refine fin_s ?_))
 conv=>whnf
 refine lp ⟨tab_ok⟩ (ι:={k:Nat // k≤ls.length∧∀ j,j < k→∀ hj:j < ls.length,isS s ls[j]=false}) (fun x=>match x with | ⟨k,_⟩=>⟨[(0,.p 0 0),(1,.i .i64 s),(13,.v (.slice A ls.length c)),(14,.i .i64 ls.length),(15,.i .i64 (k:Int))],[⟨q,153,true,0,[],[.i .i64 room,.v (.slice A ls.length c)],[],false⟩],[rwO askE lo A ls.length c ls false]⟩) (fun x=>ls.length - x.1) ⟨0,Nat.zero_le _,fun j hj=>by omega⟩ (wk ?_) ?_
 ·repeat' (first | exact trivial | rfl | ((conv=>whnf); refine And.intro ?_ ?_))
 rintro ⟨k,hk,hno⟩
 by_cases hlt:k < ls.length
 ·obtain ⟨x,hx⟩:∃ x,ls[k]?=some x:=⟨_,List.getElem?_eq_getElem (by omega)⟩
  obtain ⟨hkl,hxe⟩:=List.getElem?_eq_some_iff.1 hx
  obtain rfl:=hA (by omega)
  by_cases hpx:x.se=s
  ·repeat' (first | refine gs_ ?_|((conv=>whnf); first | intro b2 | refine bto ?_|refine bfo ?_|refine wr_i ?_|refine br_t (beq_iff_eq.2 hpx) ?_|refine opiv ⟨tab_ok⟩ (by rfl) (by rfl) (by rfl) (by rfl) (by rfl) (by rfl) ⟨by omega,by omega⟩ ?_|refine opix (g:=g) (off:=0+k*5) [.i .i64 x.se,.i .i64 x.fl,.i .i64 x.fm,.i .i64 x.to,.i .i64 x.ma] (fun w hH=>Ek.rng (hH.obj (rwO askE lo (some ⟨g,0,none⟩) ls.length c ls false) (List.mem_singleton.2 rfl)) hx) ⟨tab_ok⟩ (by rfl) (by rfl) (by show Addr.add ⟨g,0,none⟩ (k*5)=_; rw [Go.WideShapes.add_plain]) ?_|refine fin_s ?_))
   have e:atS ls s=some k:=List.findIdx?_eq_some_iff_getElem.2 ⟨hkl,by rw [hxe]; simp [isS,hpx],fun j hj=>by simpa using hno j hj (by omega)⟩
   rw [e]; rfl
  ·have hpf:isS s x=false:=by simp [isS,hpx]
   repeat' (first | refine gs_ ?_|((conv=>whnf); first | intro b2 | refine bto ?_|refine bfo ?_|refine wr_i ?_|refine br_f (beq_eq_false_iff_ne.2 hpx) ?_|refine opiv ⟨tab_ok⟩ (by rfl) (by rfl) (by rfl) (by rfl) (by rfl) (by rfl) ⟨by omega,by omega⟩ ?_|refine opix (g:=g) (off:=0+k*5) [.i .i64 x.se,.i .i64 x.fl,.i .i64 x.fm,.i .i64 x.to,.i .i64 x.ma] (fun w hH=>Ek.rng (hH.obj (rwO askE lo (some ⟨g,0,none⟩) ls.length c ls false) (List.mem_singleton.2 rfl)) hx) ⟨tab_ok⟩ (by rfl) (by rfl) (by show Addr.add ⟨g,0,none⟩ (k*5)=_; rw [Go.WideShapes.add_plain]) ?_|refine back ⟨k+1,by omega,fun j hj hjl=>(Nat.lt_succ_iff_lt_or_eq.1 hj).elim (fun h=>hno j h hjl) (fun h=>by subst h; rw [hxe]; exact hpf)⟩ (wk ?_) ?_|refine fin_s ?_))
   all_goals first | (show ls.length - (k+1) < ls.length - k; omega)|skip
   all_goals (repeat' (first | exact trivial | rfl | ((conv=>whnf); refine And.intro ?_ ?_)))
 ·repeat' (first | refine gs_ ?_|((conv=>whnf); first | intro b2 | refine bto ?_|refine bfo ?_|refine wr_i ?_|refine fin_s ?_))
  obtain rfl:k=ls.length:=by omega
  have e:atS ls s=none:=List.findIdx?_eq_none_iff.2 fun x hx=>by
   obtain ⟨j,hj,rfl⟩:=List.mem_iff_getElem.1 hx
   exact hno j (by omega) hj
  rw [e]; rfl
theorem listT {q lo c:Nat} {room:Int} {ls:List AskV} {A:Option Addr} (w:World) (hq:Blk w q 153 #[.int .i64 room,.slice A ls.length c]) (ho:askE.At lo A ls.length c ls w) (hl:ls.length≤1000000) :
  Calls Tryz.prog 141 #[.pointer (some ⟨q,0,none⟩)] w fun e w'=>∃ A' c',e=.returned (.slice A' ls.length c')∧askE.At w.heap.size A' ls.length c' ls w'∧Since w w':=by
 refine entH tab_ok (hold_qr hq ho) [.p 0 0] Tryz.func141 Tryz.ntmps141 rfl rfl ?_
 repeat' (first | refine gs_ ?_|((conv=>whnf); first | intro b | refine callN (f:=190) (ι:={x:Nat×Option Addr×Nat // w.heap.size≤x.1}) (fun x=>.v (.slice x.1.2.1 ls.length x.1.2.2)) (fun x=>rwO askE x.1.1 x.1.2.1 ls.length x.1.2.2 ls true) (fun w1 hH=>(CA.cloneT lo A c ls w1 (hH.obj (rwO askE lo A ls.length c ls false) (List.mem_singleton.2 rfl)) hl).mono (by rintro e w' ⟨A',c',rfl,hO,hs⟩; exact ⟨⟨(w1.heap.size,A',c'),hH.upd.size⟩,rfl,hO,hs,own_low hO⟩)) (fun x=>?_)|refine fin fun w' hH=>⟨_,_,rfl,own_base (hH.obj (rwO askE _ _ _ _ _ true) (List.mem_cons_of_mem _ (List.mem_cons_self ..))) x.2,hH.upd.since⟩|refine fin_s ?_))
attribute [local irreducible] atS oM
theorem putQ {lo q:Nat} {room:Int} {ls:List AskV} {S:List Nat} {w:World} (hg:QO lo q room ls S w) (hl:ls.length≤10000) (a:AskV) :
  Calls Tryz.prog 192 #[.pointer (some ⟨q,0,none⟩),.agg #[.int .i64 a.se,.int .i64 a.fl,.int .i64 a.fm,.int .i64 a.to,.int .i64 a.ma]] w fun e w'=>e=.returned (.int .i64 (putE room ls a))∧∃ S',QO lo q room (putL room ls a) S' w'∧Upd S w w'∧∀ g∈S',g∈S∨w.heap.size≤g:=by
 obtain ⟨A,c,h0,hS,hH⟩:=hold_qu (n:=_) hg
 unfold putL putE
 cases hf:(atS ls a.se).isSome with
 | true =>
  refine entH tab_ok (hH) [.p 0 0,.a [.i .i64 a.se,.i .i64 a.fl,.i .i64 a.fm,.i .i64 a.to,.i .i64 a.ma]] Tryz.func192 Tryz.ntmps192 rfl rfl ?_
  repeat' (first | refine gs_ ?_|((conv=>whnf); first | intro b | refine callH (f:=186) (.t [.i .i64 (oM (atS ls a.se)),.b true]) (fun w hH=>by have:=aheadT a.se w (hH.row 0 _ rfl rfl) (hH.obj (rwO askE lo A _ c ls true) (List.mem_cons_self ..)) (by omega); rw [hf] at this; exact this) ?_|refine fin_qu (by rfl) (by intro m; rfl) h0 (by rfl)|refine fin_s ?_))
 | false =>
  by_cases hr:room≤(ls.length:Int)
  ·simp only [Bool.false_eq_true,if_false,hr,if_true]
   refine entH tab_ok (hH) [.p 0 0,.a [.i .i64 a.se,.i .i64 a.fl,.i .i64 a.fm,.i .i64 a.to,.i .i64 a.ma]] Tryz.func192 Tryz.ntmps192 rfl rfl ?_
   repeat' (first | refine gs_ ?_|((conv=>whnf); first | intro b | refine bto ?_|refine bfo ?_|refine callH (f:=186) (.t [.i .i64 (oM (atS ls a.se)),.b false]) (fun w hH=>by have:=aheadT a.se w (hH.row 0 _ rfl rfl) (hH.obj (rwO askE lo A _ c ls true) (List.mem_cons_self ..)) (by omega); rw [hf] at this; exact this) ?_|refine fin_qu (by rfl) (by intro m; rfl) h0 (by rfl)|refine fin_s ?_))
  ·simp only [Bool.false_eq_true,if_false,hr,if_true]
   refine entH tab_ok (hH) [.p 0 0,.a [.i .i64 a.se,.i .i64 a.fl,.i .i64 a.fm,.i .i64 a.to,.i .i64 a.ma]] Tryz.func192 Tryz.ntmps192 rfl rfl ?_
   repeat' (first | refine gs_ ?_|((conv=>whnf); first | intro b | refine bto ?_|refine bfo ?_|refine callH (f:=186) (.t [.i .i64 (oM (atS ls a.se)),.b false]) (fun w hH=>by have:=aheadT a.se w (hH.row 0 _ rfl rfl) (hH.obj (rwO askE lo A _ c ls true) (List.mem_cons_self ..)) (by omega); rw [hf] at this; exact this) ?_|refine opb1 (e:=46) ⟨tab_ok⟩ [.i .i64 a.se,.i .i64 a.fl,.i .i64 a.fm,.i .i64 a.to,.i .i64 a.ma] (by rfl) (by rfl) ?_|refine opap 0 2 (e:=46) (lo:=lo) (size:=5) (bytes:=40) (z:=.agg #[.int .i64 0,.int .i64 0,.int .i64 0,.int .i64 0,.int .i64 0]) (A:=rwO askE lo A ls.length c ls true) (vals:=rowsOf askC ls) (cells:=askC a) (zs:=rowsOf askC (ls++[a])) (n2:=ls.length+1) (fun A' c'=>rwO askE lo A' (ls.length+1) c' (ls++[a]) true) (by rfl) (by rfl) (by rfl) (by rfl) rfl rfl (fun w h=>h) (fun A' c' w h=>h) (fun _ _=>rfl) (by rfl) (by rfl) (by rfl) (by rfl) Tryz.underlying95 (by kernel_rfl) rfl (by decide) (by decide) (askC_one _) (by omega) (fun w hH=>by have h:q < w.heap.size:=(hH.row 0 _ rfl rfl).lt; omega) rfl (by rw [rowsOf_append,rowsOf_one]) (fun A' c'=>?_)|refine fin_qu (by rfl) (by intro m; rfl) h0 (by simp)|refine fin_s ?_))
theorem dropQ {lo q:Nat} {room:Int} {ls:List AskV} {S:List Nat} {w:World} (hg:QO lo q room ls S w) (hl:ls.length≤10000) (s:Int) :
  Calls Tryz.prog 127 #[.pointer (some ⟨q,0,none⟩),.int .i64 s] w fun e w'=>e=.returned (.bool (atS ls s).isSome)∧∃ S',QO lo q room (dropL ls s) S' w'∧Upd S w w'∧∀ g∈S',g∈S∨w.heap.size≤g:=by
 obtain ⟨A,c,h0,hS,hH⟩:=hold_qu (n:=_) hg
 unfold dropL
 cases hf:atS ls s with
 | none =>
  refine entH tab_ok (hH) [.p 0 0,.i .i64 s] Tryz.func127 Tryz.ntmps127 rfl rfl ?_
  repeat' (first | refine gs_ ?_|((conv=>whnf); first | intro b | refine callH (f:=186) (.t [.i .i64 (oM none),.b false]) (fun w hH=>by have:=aheadT s w (hH.row 0 _ rfl rfl) (hH.obj (rwO askE lo A _ c ls true) (List.mem_cons_self ..)) (by omega); rw [hf] at this; exact this) ?_|refine fin_qu (by rfl) (by intro m; rfl) h0 (by rfl)|refine fin_s ?_))
 | some k =>
  obtain ⟨hk,_,_⟩:=atS_some hf
  obtain ⟨m,hm⟩:∃ m,ls.length=m+1:=⟨ls.length - 1,by omega⟩
  have hO:=hH.obj (rwO askE lo A ls.length c ls true) (List.mem_cons_self ..)
  obtain ⟨g,rfl⟩:=own_addr hO (by omega)
  have hc:ls.length≤c:=by
   rcases hO.2 with ⟨hv,_⟩ | ⟨_,_,_,hv,_,_,hc,_⟩
   ·simp at hv
   ·simp at hv; omega
  have hle:(ls.eraseIdx k).length=m:=by rw [List.length_eraseIdx_of_lt hk]; omega
  rw [hm] at hH hc
  have hki:oM (some k)=(k:Int):=by unfold oM; rfl
  refine entH tab_ok (hH) [.p 0 0,.i .i64 s] Tryz.func127 Tryz.ntmps127 rfl rfl ?_
  repeat' (first | refine gs_ ?_|((conv=>whnf); first | intro b | refine wr_i ?_|refine callH (f:=186) (.t [.i .i64 (k:Int),.b true]) (fun w hH=>by have:=aheadT (A:=some ⟨g,0,none⟩) (ls:=ls) s w (by rw [hm]; exact hH.row 0 _ rfl rfl) (by rw [hm]; exact hH.obj (rwO askE lo (some ⟨g,0,none⟩) (m+1) c ls true) (List.mem_cons_self ..)) (by omega); rw [hf,hki] at this; exact this) ?_|refine callO (f:=187) (A:=rwO askE lo (some ⟨g,0,none⟩) (m+1) c ls true) 0 (fun _:Unit=>.v (.slice (some ⟨g,0,none⟩) m c)) (fun _=>rwO askE lo (some ⟨g,0,none⟩) m c (ls.eraseIdx k) true) (fun w hH hA=>(CA.deleteT lo g m c k ls w hA hm (by omega) hc (by omega)).mono (by rintro e w' ⟨rfl,h1,h2⟩; exact ⟨(),rfl,h1,h2,fun _ h=>.inl h⟩)) (fun _=>?_)|refine fin_qu (ls:=ls.eraseIdx k) (by rfl) (by intro m; rfl) h0 (by omega)|refine fin_s ?_))
theorem indexI {lo n c:Nat} {A:Option Addr} {zs:List Int} (v:Int) (w:World) (ho:intE.At lo A n c zs w) (hn:zs.length=n) (hl:n≤1000000) :
  Calls Tryz.prog 214 #[.slice A n c,.int .i64 v] w fun e w'=>e=.returned (.int .i64 (oQ (atI zs v)))∧Since w w':=by
 obtain ⟨g,hA⟩:=Ek.addr ho
 refine entH tab_ok (Hold.addObj (Hold.nil _ tab [] _ w) (rwO intE lo A n c zs false) ho (by intro k; cases k) (by intro r hr; cases hr) (by intro A hA; cases hA)) [.v (.slice A n c),.i .i64 v] Tryz.func214 Tryz.ntmps214 rfl rfl ?_
 repeat' (first | refine gs_ ?_|((conv=>whnf); first | intro b | refine b3_ (fun h=>?_) (fun h=>?_)|refine fin_s ?_))
 conv=>whnf
 refine lp ⟨tab_ok⟩ (ι:={k:Nat // k≤n∧∀ j,j < k→∀ hj:j < zs.length,zs[j]≠v}) (fun x=>match x with | ⟨k,_⟩=>⟨[(0,.v (.slice A n c)),(1,.i .i64 v),(7,.i .i64 n),(8,.i .i64 (k:Int))],[],[rwO intE lo A n c zs false]⟩) (fun x=>n - x.1) ⟨0,Nat.zero_le _,fun j hj=>by omega⟩ (wk ?_) ?_
 ·repeat' (first | exact trivial | rfl | ((conv=>whnf); refine And.intro ?_ ?_))
 rintro ⟨k,hk,hno⟩
 by_cases hlt:k < n
 ·obtain ⟨x,hx⟩:∃ x,zs[k]?=some x:=⟨_,List.getElem?_eq_getElem (by omega)⟩
  obtain ⟨hkl,hxe⟩:=List.getElem?_eq_some_iff.1 hx
  obtain rfl:=hA (by omega)
  by_cases hpx:x=v
  ·repeat' (first | refine gs_ ?_|((conv=>whnf); first | intro b2 | refine bto ?_|refine bfo ?_|refine wr_i ?_|refine br_t (beq_iff_eq.2 hpx.symm) ?_|refine opiv ⟨tab_ok⟩ (by rfl) (by rfl) (by rfl) (by rfl) (by rfl) (by rfl) ⟨by omega,by omega⟩ ?_|refine opxc (g:=g) (off:=0+k*1) (.i .i64 x) (fun w hH=>Ek.rng (hH.obj (rwO intE lo (some ⟨g,0,none⟩) n c zs false) (List.mem_singleton.2 rfl)) hx) ⟨tab_ok⟩ (by rfl) (by rfl) (by show Addr.add ⟨g,0,none⟩ (k*1)=_; rw [Go.WideShapes.add_plain]) ?_|refine fin_s ?_))
   have e:atI zs v=some k:=List.findIdx?_eq_some_iff_getElem.2 ⟨hkl,by rw [hxe]; simp [hpx],fun j hj=>by simpa using hno j hj (by omega)⟩
   rw [e]; rfl
  ·repeat' (first | refine gs_ ?_|((conv=>whnf); first | intro b2 | refine bto ?_|refine bfo ?_|refine wr_i ?_|refine br_f (beq_eq_false_iff_ne.2 (Ne.symm hpx)) ?_|refine opiv ⟨tab_ok⟩ (by rfl) (by rfl) (by rfl) (by rfl) (by rfl) (by rfl) ⟨by omega,by omega⟩ ?_|refine opxc (g:=g) (off:=0+k*1) (.i .i64 x) (fun w hH=>Ek.rng (hH.obj (rwO intE lo (some ⟨g,0,none⟩) n c zs false) (List.mem_singleton.2 rfl)) hx) ⟨tab_ok⟩ (by rfl) (by rfl) (by show Addr.add ⟨g,0,none⟩ (k*1)=_; rw [Go.WideShapes.add_plain]) ?_|refine back ⟨k+1,by omega,fun j hj hjl=>(Nat.lt_succ_iff_lt_or_eq.1 hj).elim (fun h=>hno j h hjl) (fun h=>by subst h; rw [hxe]; exact hpx)⟩ (wk ?_) ?_|refine fin_s ?_))
   all_goals first | (show n - (k+1) < n - k; omega)|skip
   all_goals (repeat' (first | exact trivial | rfl | ((conv=>whnf); refine And.intro ?_ ?_)))
 ·repeat' (first | refine gs_ ?_|((conv=>whnf); first | intro b2 | refine bto ?_|refine bfo ?_|refine wr_i ?_|refine fin_s ?_))
  obtain rfl:k=n:=by omega
  have e:atI zs v=none:=List.findIdx?_eq_none_iff.2 fun x hx=>by
   obtain ⟨j,hj,rfl⟩:=List.mem_iff_getElem.1 hx
   simpa using hno j (by omega) hj
  rw [e]; rfl
theorem oQ_ge (y:Option Nat):decide (oQ y ≥ 0)=y.isSome:=by
 cases y with
 | none=>rfl
 | some k=>simp [oQ]
attribute [local irreducible] oQ atI
theorem containsI {lo n c:Nat} {A:Option Addr} {zs:List Int} (v:Int) (w:World) (ho:intE.At lo A n c zs w) (hn:zs.length=n) (hl:n≤1000000) :
  Calls Tryz.prog 183 #[.slice A n c,.int .i64 v] w fun e w'=>e=.returned (.bool (atI zs v).isSome)∧Since w w':=by
 refine entH tab_ok (Hold.addObj (Hold.nil _ tab [] _ w) (rwO intE lo A n c zs false) ho (by intro k; cases k) (by intro r hr; cases hr) (by intro A hA; cases hA)) [.v (.slice A n c),.i .i64 v] Tryz.func183 Tryz.ntmps183 rfl rfl ?_
 repeat' (first | refine gs_ ?_|((conv=>whnf); first | intro b | refine b3_ (fun h=>?_) (fun h=>?_)|refine callH (f:=214) (.i .i64 (oQ (atI zs v))) (fun w hH=>indexI v w (hH.obj (rwO intE lo A n c zs false) (List.mem_singleton.2 rfl)) hn hl) ?_|refine fin_s ?_))
 all_goals (simp only [den]; rw [oQ_ge])
def zA:AskV:=⟨0,0,0,0,0⟩
def firstA (ls:List AskV) (zs:List Int):AskV:=match atF ls zs with | some k=>ls.getD k zA | none=>zA
theorem firstT {q lo c lo2 n2 c2:Nat} {room:Int} {ls:List AskV} {A A2:Option Addr} {zs:List Int} (w:World) (hq:Blk w q 153 #[.int .i64 room,.slice A ls.length c]) (ho:askE.At lo A ls.length c ls w) (hl:ls.length≤1000000) (hz:intE.At lo2 A2 n2 c2 zs w) (hn:zs.length=n2) (hl2:n2≤1000000) :
  Calls Tryz.prog 124 #[.pointer (some ⟨q,0,none⟩),.slice A2 n2 c2] w fun e w'=>e=.returned (.tuple #[.agg #[.int .i64 (firstA ls zs).se,.int .i64 (firstA ls zs).fl,.int .i64 (firstA ls zs).fm,.int .i64 (firstA ls zs).to,.int .i64 (firstA ls zs).ma],.bool (atF ls zs).isSome])∧Since w w':=by
 obtain ⟨g,hA⟩:=Ek.addr ho
 refine entH tab_ok (Hold.addObj (hold_qr hq ho) (rwO intE lo2 A2 n2 c2 zs false) hz (by intro k; cases k) (by intro r hr _; rw [List.mem_singleton] at hr; subst hr; exact own_ne_ty hz hq (by decide)) (by intro A hA k; simp only [List.mem_singleton] at hA; subst hA; rcases k with k | k <;> cases k)) [.p 0 0,.v (.slice A2 n2 c2)] Tryz.func124 Tryz.ntmps124 rfl rfl ?_
 repeat' (first | refine gs_ ?_|((conv=>whnf); first | intro b | refine b3_ (fun h=>?_) (fun h=>?_)|refine fin_s ?_))
 conv=>whnf
 refine lp ⟨tab_ok⟩ (ι:={k:Nat // k≤ls.length∧∀ j,j < k→∀ hj:j < ls.length,okF zs ls[j]=false}) (fun x=>match x with | ⟨k,_⟩=>⟨[(0,.p 0 0),(1,.v (.slice A2 n2 c2)),(4,.p 1 0),(14,.v (.slice A ls.length c)),(15,.i .i64 ls.length),(16,.i .i64 (k:Int))],[⟨q,153,true,0,[],[.i .i64 room,.v (.slice A ls.length c)],[],false⟩,⟨b,46,true,0,[],[.i .i64 0,.i .i64 0,.i .i64 0,.i .i64 0,.i .i64 0],[],true⟩],[rwO askE lo A ls.length c ls false,rwO intE lo2 A2 n2 c2 zs false]⟩) (fun x=>ls.length - x.1) ⟨0,Nat.zero_le _,fun j hj=>by omega⟩ (wk ?_) ?_
 ·repeat' (first | exact trivial | rfl | ((conv=>whnf); refine And.intro ?_ ?_))
 rintro ⟨k,hk,hno⟩
 by_cases hlt:k < ls.length
 ·obtain ⟨x,hx⟩:∃ x,ls[k]?=some x:=⟨_,List.getElem?_eq_getElem (by omega)⟩
  obtain ⟨hkl,hxe⟩:=List.getElem?_eq_some_iff.1 hx
  obtain rfl:=hA (by omega)
  cases hpx:(atI zs x.fl).isSome with
  | false =>
   repeat' (first | refine gs_ ?_|((conv=>whnf); first | intro b2 | refine bto ?_|refine bfo ?_|refine wr_i ?_|refine opiv ⟨tab_ok⟩ (by rfl) (by rfl) (by rfl) (by rfl) (by rfl) (by rfl) ⟨by omega,by omega⟩ ?_|refine opix (g:=g) (off:=0+k*5) [.i .i64 x.se,.i .i64 x.fl,.i .i64 x.fm,.i .i64 x.to,.i .i64 x.ma] (fun w hH=>Ek.rng (hH.obj (rwO askE lo (some ⟨g,0,none⟩) ls.length c ls false) (List.mem_cons_self ..)) hx) ⟨tab_ok⟩ (by rfl) (by rfl) (by show Addr.add ⟨g,0,none⟩ (k*5)=_; rw [Go.WideShapes.add_plain]) ?_|refine callH (f:=183) (.b false) (fun w hH=>by have:=containsI x.fl w (hH.obj (rwO intE lo2 A2 n2 c2 zs false) (List.mem_cons_of_mem _ (List.mem_cons_self ..))) hn hl2; rw [hpx] at this; exact this) ?_|refine fin_s ?_))
   have e:atF ls zs=some k:=List.findIdx?_eq_some_iff_getElem.2 ⟨hkl,by rw [hxe]; simp [okF,hpx],fun j hj=>by simpa using hno j hj (by omega)⟩
   have e2:firstA ls zs=x:=by unfold firstA; rw [e]; simp [List.getD,hx]
   rw [e,e2]; rfl
  | true =>
   repeat' (first | refine gs_ ?_|((conv=>whnf); first | intro b2 | refine bto ?_|refine bfo ?_|refine wr_i ?_|refine opiv ⟨tab_ok⟩ (by rfl) (by rfl) (by rfl) (by rfl) (by rfl) (by rfl) ⟨by omega,by omega⟩ ?_|refine opix (g:=g) (off:=0+k*5) [.i .i64 x.se,.i .i64 x.fl,.i .i64 x.fm,.i .i64 x.to,.i .i64 x.ma] (fun w hH=>Ek.rng (hH.obj (rwO askE lo (some ⟨g,0,none⟩) ls.length c ls false) (List.mem_cons_self ..)) hx) ⟨tab_ok⟩ (by rfl) (by rfl) (by show Addr.add ⟨g,0,none⟩ (k*5)=_; rw [Go.WideShapes.add_plain]) ?_|refine callH (f:=183) (.b true) (fun w hH=>by have:=containsI x.fl w (hH.obj (rwO intE lo2 A2 n2 c2 zs false) (List.mem_cons_of_mem _ (List.mem_cons_self ..))) hn hl2; rw [hpx] at this; exact this) ?_|refine back ⟨k+1,by omega,fun j hj hjl=>(Nat.lt_succ_iff_lt_or_eq.1 hj).elim (fun h=>hno j h hjl) (fun h=>by subst h; rw [hxe]; simp [okF,hpx])⟩ (wk ?_) ?_|refine fin_s ?_))
   all_goals first | (show ls.length - (k+1) < ls.length - k; omega)|skip
   all_goals (repeat' (first | exact trivial | rfl | ((conv=>whnf); refine And.intro ?_ ?_)))
 ·repeat' (first | refine gs_ ?_|((conv=>whnf); first | intro b2 | refine bto ?_|refine bfo ?_|refine wr_i ?_|refine fin_s ?_))
  obtain rfl:k=ls.length:=by omega
  have e:atF ls zs=none:=List.findIdx?_eq_none_iff.2 fun x hx=>by
   obtain ⟨j,hj,rfl⟩:=List.mem_iff_getElem.1 hx
   exact hno j (by omega) hj
  have e2:firstA ls zs=zA:=by unfold firstA; rw [e]
  rw [e,e2]; rfl
end Qu
namespace Tm
def cl (n:Int):Int:=if n < 0 then 0 else if 1099511627776 < n then 1099511627776 else n
theorem cl_lo (n:Int):0≤cl n:=by unfold cl; repeat' split <;> omega
theorem cl_hi (n:Int):cl n≤1099511627776:=by unfold cl; repeat' split <;> omega
theorem cl_id (n:Int) (h0:0≤n) (h1:n≤1099511627776):cl n=n:=by unfold cl; repeat' split <;> omega
end Tm
namespace Tw
open Go.RowKit Ba En Tm
set_option maxRecDepth 100000
attribute [local irreducible] Go.Calls
theorem clT (n:Int) (w:World):Calls Tryz.prog 75 #[.int .i64 n] w fun e w'=>e=.returned (.int .i64 (cl n))∧Since w w':=by
 refine ent tab_ok [.i .i64 n] Tryz.func75 Tryz.ntmps75 rfl rfl ?_
 repeat' (first | refine gs_ ?_|((conv=>whnf); first | refine fin_s ?_))
 exact congrArg (Value.int .i64) (by unfold cl; repeat' split <;> omega)
theorem addT (a b:Int) (w:World):Calls Tryz.prog 26 #[.int .i64 a,.int .i64 b] w fun e w'=>e=.returned (.int .i64 (cl (cl a+cl b)))∧Since w w':=by
 have h1:=cl_lo a
 have h2:=cl_hi a
 have h3:=cl_lo b
 have h4:=cl_hi b
 refine ent tab_ok [.i .i64 a,.i .i64 b] Tryz.func26 Tryz.ntmps26 rfl rfl ?_
 repeat' (first | refine gs_ ?_|((conv=>whnf); first | refine wr_i ?_|refine callS (f:=75) (.i .i64 (cl _)) (clT _) ?_|refine fin_s ?_))
 all_goals rfl
theorem lateT (a b:Int) (w:World):Calls Tryz.prog 116 #[.int .i64 a,.int .i64 b] w fun e w'=>e=.returned (.bool (decide (cl b≤cl a)))∧Since w w':=by
 refine ent tab_ok [.i .i64 a,.i .i64 b] Tryz.func116 Tryz.ntmps116 rfl rfl ?_
 repeat' (first | refine gs_ ?_|((conv=>whnf); first | refine callS (f:=75) (.i .i64 (cl _)) (clT _) ?_|refine fin_s ?_))
 all_goals rfl
end Tw
namespace Ri
open Go.RowKit Ba Mo Go.Proofs.YtpiiblkiddcgcaaGreat.Ty Mem Tm Tw En
open Ce (ms ms_lo ms_hi massT nearT nr)
set_option maxRecDepth 100000
def sp (n:Int):Int:=if n < 1 then 1 else if 1000 < n then 1000 else n
theorem sp_lo (n:Int):1≤sp n:=by unfold sp; repeat' split <;> omega
theorem sp_hi (n:Int):sp n≤1000:=by unfold sp; repeat' split <;> omega
def rn (n:Int):Int:=if n < 0 then 0 else if 1000 < n then 1000 else n
def trV (c:CfgV):Int:=4*(fl c.fl - 1)+3*sp c.dr+4
theorem tr_lo (c:CfgV):11≤trV c:=by have:=fl_lo c.fl; have:=sp_lo c.dr; unfold trV; omega
theorem tr_hi (c:CfgV):trV c≤4000:=by have:=fl_hi c.fl; have:=sp_hi c.dr; unfold trV; omega
structure MsgV where
 ki:Int
 a:Int
 b:Int
 c:Int
def msgC (m:MsgV):Array Value:=#[.int .i64 m.ki,.int .i64 m.a,.int .i64 m.b,.int .i64 m.c]
def Ms (w0 w:World) (v:Value) (o:Option MsgV):Prop :=
 match o with
 | none=>v=.slice none 0 0
 | some m=>∃ b,v=.slice (some ⟨b,0,none⟩) 1 1∧w0.heap.size≤b∧Blk w b 48 (msgC m)
def opB (x:CarV) (f:Int):Bool:=lvB x.un && (lvN x.un == f) && (x.ds == 2)
def Said (w:World) (r:LeaseV×Option MsgV×Bool) (e:Ending) (w':World):Prop:=∃ v,e=.returned (.tuple #[.agg #[.int .i64 r.1.se,.int .i64 r.1.fl,.int .i64 r.1.fm,.int .i64 r.1.to,.int .i64 r.1.ma,.int .i64 r.1.ca,.int .i64 r.1.ph,.int .i64 r.1.un,.int .i64 r.1.re,.int .i64 r.1.gr],v,.bool r.2.2])∧Ms w w' v r.2.1∧Since w w'
theorem sayT (k a:Int) (w:World):Calls Tryz.prog 117 #[.int .i64 k,.int .i64 a] w fun e w'=>∃ b,e=.returned (.slice (some ⟨b,0,none⟩) 1 1)∧w.heap.size≤b∧Blk w' b 48 #[.int .i64 k,.int .i64 a,.int .i64 0,.int .i64 0]∧Since w w':=by
 go_enter Tryz.func117,Tryz.ntmps117
 go_wp2
 go_ret
 exact ⟨_,rfl,Nat.le_refl _,Blk.new _ _ _,sn_⟩
theorem said_s {n:Nat} {w:World} {st:St} {j b:Nat} {r:LeaseV×Option MsgV×Bool} {a1 a2 a3 a4 a5 a6 a7 a8 a9 a10 k a:Int} {ov:Bool} (hr:r=(⟨a1,a2,a3,a4,a5,a6,a7,a8,a9,a10⟩,some ⟨k,a,0,0⟩,ov)) (hj:st.m[j]?=some ⟨b,48,true,0,[],[.i .i64 k,.i .i64 a,.i .i64 0,.i .i64 0],[],true⟩) :
  Fin ⟨Tryz.prog,tab,[],w,n,[]⟩ (Said w r) (.t [.a [.i .i64 a1,.i .i64 a2,.i .i64 a3,.i .i64 a4,.i .i64 a5,.i .i64 a6,.i .i64 a7,.i .i64 a8,.i .i64 a9,.i .i64 a10],.s j 0 1 1,.b ov]) st:=by
 subst hr
 refine fin fun w' hH=>⟨.slice (some ⟨b,0,none⟩) 1 1, ?_,⟨b,rfl, ?_,hH.row j _ hj rfl⟩,hH.upd.since⟩
 ·simp [den,denL,hj]
 ·rcases (hH.wf j _ hj rfl).2.2 rfl with h | h
  ·cases h
  ·exact h
theorem said_n {n:Nat} {w:World} {st:St} {r:LeaseV×Option MsgV×Bool} {a1 a2 a3 a4 a5 a6 a7 a8 a9 a10:Int} {ov:Bool} (hr:r=(⟨a1,a2,a3,a4,a5,a6,a7,a8,a9,a10⟩,none,ov)) :
  Fin ⟨Tryz.prog,tab,[],w,n,[]⟩ (Said w r) (.t [.a [.i .i64 a1,.i .i64 a2,.i .i64 a3,.i .i64 a4,.i .i64 a5,.i .i64 a6,.i .i64 a7,.i .i64 a8,.i .i64 a9,.i .i64 a10],.v (.slice none 0 0),.b ov]) st:=by
 subst hr
 exact fin fun w' hH=>⟨.slice none 0 0,rfl,rfl,hH.upd.since⟩
attribute [local irreducible] Go.Calls lvB nr ms
theorem spanT (n:Int) (w:World):Calls Tryz.prog 174 #[.int .i64 n] w fun e w'=>e=.returned (.int .i64 (sp n))∧Since w w':=by
 refine ent tab_ok [.i .i64 n] Tryz.func174 Tryz.ntmps174 rfl rfl ?_
 repeat' (first | refine gs_ ?_|((conv=>whnf); first | refine fin_s ?_))
 exact congrArg (Value.int .i64) (by unfold sp; repeat' split <;> omega)
theorem tripT (c:CfgV) (w:World):Calls Tryz.prog 129 #[(aCfg c)] w fun e w'=>e=.returned (.int .i64 (trV c))∧Since w w':=by
 have f1:=fl_lo c.fl
 have f2:=fl_hi c.fl
 have f3:=sp_lo c.dr
 have f4:=sp_hi c.dr
 refine ent tab_ok [.a (sCfg c)] Tryz.func129 Tryz.ntmps129 rfl rfl ?_
 repeat' (first | refine gs_ ?_|((conv=>whnf); first | intro b | refine wr_i ?_|refine callS (f:=171) (.i .i64 (fl _)) (floorsT _) ?_|refine callS (f:=174) (.i .i64 (sp _)) (spanT _) ?_|refine fin_s ?_))
 all_goals rfl
theorem openT (x:CarV) (f:Int) (w:World):Calls Tryz.prog 118 #[.agg #[.int .i64 x.ds,.int .i64 x.da,.int .i64 x.un,.int .i64 x.wy,.int .i64 x.ti,.int .i64 x.ju,.int .i64 x.lo,.bool x.bl,.bool x.br,.int .i64 x.mo,.int .i64 x.ta,.bool x.ho,.int .u64 x.sp,.int .u64 x.su,.int .u64 x.sd],.int .i64 f] w fun e w'=>e=.returned (.bool (opB x f))∧Since w w':=by
 refine ent tab_ok [.a (sCar x),.i .i64 f] Tryz.func118 Tryz.ntmps118 rfl rfl ?_
 repeat' (first | refine gs_ ?_|((conv=>whnf); first | intro b | refine b3_ (fun h=>?_) (fun h=>?_)|refine callS (f:=109) (.t [.i .i64 (lvN _),.b (lvB _)]) (levelT _) ?_|refine fin_s ?_))
 all_goals (unfold opB; simp [den, *])
theorem heldT (c:CfgV) (now:Int) (w:World):Calls Tryz.prog 119 #[(aCfg c),.int .i64 now] w fun e w'=>e=.returned (.int .i64 (cl (cl now+cl (sp c.ho))))∧Since w w':=by
 refine ent tab_ok [.a (sCfg c),.i .i64 now] Tryz.func119 Tryz.ntmps119 rfl rfl ?_
 repeat' (first | refine gs_ ?_|((conv=>whnf); first | intro b | refine b3_ (fun h=>?_) (fun h=>?_)|refine callS (f:=174) (.i .i64 (sp _)) (spanT _) ?_|refine callS (f:=26) (.i .i64 (cl (cl _+cl _))) (addT _ _) ?_|refine fin_s ?_))
 all_goals rfl
attribute [local irreducible] trV opB cl sp
def entV (c:CfgV) (l:LeaseV) (x:CarV) (now:Int):LeaseV×Option MsgV×Bool :=
 if nr x.lo l.ma c.sl=true then (⟨l.se,l.fl,l.fm,l.to,l.ma,l.ca,3,cl (cl now+cl (trV c)),l.re,l.gr⟩,some ⟨10,0,0,0⟩,false) else (⟨l.se,l.fl,l.fm,l.to,l.ma,l.ca,l.ph,l.un,l.re,l.gr⟩,some ⟨11,ms x.lo,0,0⟩,false)
theorem entT (c:CfgV) (l:LeaseV) (x:CarV) (now:Int) (w:World):Calls Tryz.prog 195 #[(aCfg c),.agg #[.int .i64 l.se,.int .i64 l.fl,.int .i64 l.fm,.int .i64 l.to,.int .i64 l.ma,.int .i64 l.ca,.int .i64 l.ph,.int .i64 l.un,.int .i64 l.re,.int .i64 l.gr],.agg #[.int .i64 x.ds,.int .i64 x.da,.int .i64 x.un,.int .i64 x.wy,.int .i64 x.ti,.int .i64 x.ju,.int .i64 x.lo,.bool x.bl,.bool x.br,.int .i64 x.mo,.int .i64 x.ta,.bool x.ho,.int .u64 x.sp,.int .u64 x.su,.int .u64 x.sd],.int .i64 now] w (Said w (entV c l x now)):=by
 cases hn:nr x.lo l.ma c.sl
 all_goals
  refine ent tab_ok [.a (sCfg c),.a [.i .i64 l.se,.i .i64 l.fl,.i .i64 l.fm,.i .i64 l.to,.i .i64 l.ma,.i .i64 l.ca,.i .i64 l.ph,.i .i64 l.un,.i .i64 l.re,.i .i64 l.gr],.a (sCar x),.i .i64 now] Tryz.func195 Tryz.ntmps195 rfl rfl ?_
  repeat' (first | refine gs_ ?_|((conv=>whnf); first | intro b | refine b3_ (fun h=>?_) (fun h=>?_)|refine callS (f:=220) (.b (nr _ _ _)) (nearT _ _ _) ?_|refine callS (f:=204) (.i .i64 (ms _)) (massT _) ?_|refine callS (f:=129) (.i .i64 (trV c)) (tripT c) ?_|refine callS (f:=26) (.i .i64 (cl (cl _+cl _))) (addT _ _) ?_|refine callB (f:=117) (t:=48) [.i .i64 _,.i .i64 _,.i .i64 0,.i .i64 0] (fun j=>.s j 0 1 1) (fun w=>(sayT _ _ w).mono (by rintro e w' ⟨b,rfl,h1,h2,h3⟩; exact ⟨b,rfl,h1,h2,h3⟩)) ?_|refine said_s (b:=_) ?_ (by rfl)|refine said_n ?_|refine fin_s ?_))
 all_goals (simp [entV,hn])
def mayRe (c:CfgV) (l:LeaseV):Bool:=((l.ph == 2) || (l.ph == 4)) && decide (l.re < rn c.re)
theorem rnE (r:Int):(if 1000 < (if r < 0 then 0 else r) then 1000 else (if r < 0 then 0 else r))=rn r:=by unfold rn; repeat' split <;> omega
theorem mayReT (c:CfgV) (l:LeaseV) (w:World):Calls Tryz.prog 196 #[(aCfg c),.agg #[.int .i64 l.se,.int .i64 l.fl,.int .i64 l.fm,.int .i64 l.to,.int .i64 l.ma,.int .i64 l.ca,.int .i64 l.ph,.int .i64 l.un,.int .i64 l.re,.int .i64 l.gr]] w fun e w'=>e=.returned (.bool (mayRe c l))∧Since w w':=by
 refine ent tab_ok [.a (sCfg c),.a [.i .i64 l.se,.i .i64 l.fl,.i .i64 l.fm,.i .i64 l.to,.i .i64 l.ma,.i .i64 l.ca,.i .i64 l.ph,.i .i64 l.un,.i .i64 l.re,.i .i64 l.gr]] Tryz.func196 Tryz.ntmps196 rfl rfl ?_
 repeat' (first | refine gs_ ?_|((conv=>whnf); first | intro b | refine b3_ (fun h=>?_) (fun h=>?_)|refine fin_s ?_))
 all_goals (unfold mayRe; simp [den, *])
 all_goals rw [rnE]
def tickV (c:CfgV) (l:LeaseV) (x:CarV) (now:Int):LeaseV×Option MsgV×Bool :=
 if x.br=true∨cl l.un≤cl now then ((⟨l.se,l.fl,l.fm,l.to,l.ma,l.ca,l.ph,l.un,l.re,l.gr⟩:LeaseV),some ⟨16,l.ph,0,0⟩,true)
 else if l.ph=1∧opB x l.fm=true then ((⟨l.se,l.fl,l.fm,l.to,l.ma,l.ca,2,cl (cl now+cl (sp c.ho)),l.re,l.gr⟩:LeaseV),some ⟨8,l.fm,0,0⟩,false)
 else if l.ph=3∧opB x l.to=true then ((⟨l.se,l.fl,l.fm,l.to,l.ma,l.ca,4,cl (cl now+cl (sp c.ho)),l.re,l.gr⟩:LeaseV),some ⟨12,l.to,0,0⟩,false)
 else ((⟨l.se,l.fl,l.fm,l.to,l.ma,l.ca,l.ph,l.un,l.re,l.gr⟩:LeaseV),none,false)
theorem tickT (c:CfgV) (l:LeaseV) (x:CarV) (now:Int) (w:World):Calls Tryz.prog 54 #[(aCfg c),.agg #[.int .i64 l.se,.int .i64 l.fl,.int .i64 l.fm,.int .i64 l.to,.int .i64 l.ma,.int .i64 l.ca,.int .i64 l.ph,.int .i64 l.un,.int .i64 l.re,.int .i64 l.gr],.agg #[.int .i64 x.ds,.int .i64 x.da,.int .i64 x.un,.int .i64 x.wy,.int .i64 x.ti,.int .i64 x.ju,.int .i64 x.lo,.bool x.bl,.bool x.br,.int .i64 x.mo,.int .i64 x.ta,.bool x.ho,.int .u64 x.sp,.int .u64 x.su,.int .u64 x.sd],.int .i64 now] w (Said w (tickV c l x now)):=by
 refine ent tab_ok [.a (sCfg c),.a [.i .i64 l.se,.i .i64 l.fl,.i .i64 l.fm,.i .i64 l.to,.i .i64 l.ma,.i .i64 l.ca,.i .i64 l.ph,.i .i64 l.un,.i .i64 l.re,.i .i64 l.gr],.a (sCar x),.i .i64 now] Tryz.func54 Tryz.ntmps54 rfl rfl ?_
 repeat' (first | refine gs_ ?_|((conv=>whnf); first | intro b | refine b3_ (fun h=>?_) (fun h=>?_)|refine callS (f:=116) (.b (decide (cl l.un≤cl now))) (lateT _ _) ?_|refine callS (f:=118) (.b (opB x _)) (openT x _) ?_|refine callS (f:=119) (.i .i64 (cl (cl now+cl (sp c.ho)))) (heldT c now) ?_|refine callB (f:=117) (t:=48) [.i .i64 _,.i .i64 _,.i .i64 0,.i .i64 0] (fun j=>.s j 0 1 1) (fun w=>(sayT _ _ w).mono (by rintro e w' ⟨b,rfl,h1,h2,h3⟩; exact ⟨b,rfl,h1,h2,h3⟩)) ?_|refine said_s (b:=_) ?_ (by rfl)|refine said_n ?_|refine fin_s ?_))
 all_goals first | (simp [tickV, *]; done)|(exfalso; omega)
attribute [local irreducible] mayRe
def hearV (c:CfgV) (l:LeaseV) (x:CarV) (now:Int) (m:MsgV):LeaseV×Option MsgV×Bool :=
 if m.ki=9∧l.ph=2 then (if nr x.lo l.ma c.sl=true then ((⟨l.se,l.fl,l.fm,l.to,l.ma,l.ca,3,cl (cl now+cl (trV c)),l.re,l.gr⟩:LeaseV),some ⟨10,0,0,0⟩,false) else ((⟨l.se,l.fl,l.fm,l.to,l.ma,l.ca,l.ph,l.un,l.re,l.gr⟩:LeaseV),some ⟨11,ms x.lo,0,0⟩,false))
 else if m.ki=13∧l.ph=4 then ((⟨l.se,l.fl,l.fm,l.to,l.ma,l.ca,l.ph,l.un,l.re,l.gr⟩:LeaseV),some ⟨14,0,0,0⟩,true)
 else if m.ki=15∧mayRe c l=true then ((⟨l.se,l.fl,l.fm,l.to,l.ma,l.ca,l.ph,cl (cl now+cl (sp c.ho)),IntKind.i64.wrap (l.re+1),l.gr⟩:LeaseV),some ⟨4,l.ca,0,0⟩,false)
 else ((⟨l.se,l.fl,l.fm,l.to,l.ma,l.ca,l.ph,l.un,l.re,l.gr⟩:LeaseV),some ⟨7,l.ph,0,0⟩,false)
theorem hearT (c:CfgV) (l:LeaseV) (x:CarV) (now:Int) (m:MsgV) (w:World):Calls Tryz.prog 144 #[(aCfg c),.agg #[.int .i64 l.se,.int .i64 l.fl,.int .i64 l.fm,.int .i64 l.to,.int .i64 l.ma,.int .i64 l.ca,.int .i64 l.ph,.int .i64 l.un,.int .i64 l.re,.int .i64 l.gr],.agg #[.int .i64 x.ds,.int .i64 x.da,.int .i64 x.un,.int .i64 x.wy,.int .i64 x.ti,.int .i64 x.ju,.int .i64 x.lo,.bool x.bl,.bool x.br,.int .i64 x.mo,.int .i64 x.ta,.bool x.ho,.int .u64 x.sp,.int .u64 x.su,.int .u64 x.sd],.int .i64 now,.agg (msgC m)] w (Said w (hearV c l x now m)):=by
 by_cases he:m.ki=9∧l.ph=2
 ·rw [show hearV c l x now m=entV c l x now by unfold hearV entV; rw [if_pos he]]
  obtain ⟨h9,h2⟩:=he
  cases hn:nr x.lo l.ma c.sl with
  | true =>
   have e0:entV c l x now=(⟨l.se,l.fl,l.fm,l.to,l.ma,l.ca,3,(cl (cl now+cl (trV c))),l.re,l.gr⟩,some ⟨10,0,0,0⟩,false):=by unfold entV; rw [if_pos hn]
   rw [e0]
   refine ent tab_ok [.a (sCfg c),.a [.i .i64 l.se,.i .i64 l.fl,.i .i64 l.fm,.i .i64 l.to,.i .i64 l.ma,.i .i64 l.ca,.i .i64 l.ph,.i .i64 l.un,.i .i64 l.re,.i .i64 l.gr],.a (sCar x),.i .i64 now,.a [.i .i64 m.ki,.i .i64 m.a,.i .i64 m.b,.i .i64 m.c]] Tryz.func144 Tryz.ntmps144 rfl rfl ?_
   repeat' (first | refine gs_ ?_|((conv=>whnf); first | intro b | refine bto ?_|refine bfo ?_|refine br_f (beq_eq_false_iff_ne.2 (by omega)) ?_|refine b3_ (fun h=>?_) (fun h=>?_)|refine callB (f:=195) (t:=48) [.i .i64 10,.i .i64 0,.i .i64 0,.i .i64 0] (fun j=>.t [.a [.i .i64 l.se,.i .i64 l.fl,.i .i64 l.fm,.i .i64 l.to,.i .i64 l.ma,.i .i64 l.ca,.i .i64 3,.i .i64 (cl (cl now+cl (trV c))),.i .i64 l.re,.i .i64 l.gr],.s j 0 1 1,.b false]) (fun w=>(entT c l x now w).mono (by rintro e w' ⟨v,rfl,hv,hs⟩; rw [e0] at hv ⊢; obtain ⟨b,rfl,h1,h2⟩:=hv; exact ⟨b,by simp [den,denL],h1,h2,hs⟩)) ?_|refine said_s (b:=_) ?_ (by rfl)|refine said_n ?_|refine fin_s ?_))
   all_goals rfl
  | false =>
   have e0:entV c l x now=(⟨l.se,l.fl,l.fm,l.to,l.ma,l.ca,l.ph,l.un,l.re,l.gr⟩,some ⟨11,ms x.lo,0,0⟩,false):=by unfold entV; rw [if_neg (by simp [hn])]
   rw [e0]
   refine ent tab_ok [.a (sCfg c),.a [.i .i64 l.se,.i .i64 l.fl,.i .i64 l.fm,.i .i64 l.to,.i .i64 l.ma,.i .i64 l.ca,.i .i64 l.ph,.i .i64 l.un,.i .i64 l.re,.i .i64 l.gr],.a (sCar x),.i .i64 now,.a [.i .i64 m.ki,.i .i64 m.a,.i .i64 m.b,.i .i64 m.c]] Tryz.func144 Tryz.ntmps144 rfl rfl ?_
   repeat' (first | refine gs_ ?_|((conv=>whnf); first | intro b | refine bto ?_|refine bfo ?_|refine br_f (beq_eq_false_iff_ne.2 (by omega)) ?_|refine b3_ (fun h=>?_) (fun h=>?_)|refine callB (f:=195) (t:=48) [.i .i64 11,.i .i64 (ms x.lo),.i .i64 0,.i .i64 0] (fun j=>.t [.a [.i .i64 l.se,.i .i64 l.fl,.i .i64 l.fm,.i .i64 l.to,.i .i64 l.ma,.i .i64 l.ca,.i .i64 l.ph,.i .i64 l.un,.i .i64 l.re,.i .i64 l.gr],.s j 0 1 1,.b false]) (fun w=>(entT c l x now w).mono (by rintro e w' ⟨v,rfl,hv,hs⟩; rw [e0] at hv ⊢; obtain ⟨b,rfl,h1,h2⟩:=hv; exact ⟨b,by simp [den,denL],h1,h2,hs⟩)) ?_|refine said_s (b:=_) ?_ (by rfl)|refine said_n ?_|refine fin_s ?_))
   all_goals rfl
 ·refine ent tab_ok [.a (sCfg c),.a [.i .i64 l.se,.i .i64 l.fl,.i .i64 l.fm,.i .i64 l.to,.i .i64 l.ma,.i .i64 l.ca,.i .i64 l.ph,.i .i64 l.un,.i .i64 l.re,.i .i64 l.gr],.a (sCar x),.i .i64 now,.a [.i .i64 m.ki,.i .i64 m.a,.i .i64 m.b,.i .i64 m.c]] Tryz.func144 Tryz.ntmps144 rfl rfl ?_
  repeat' (first | refine gs_ ?_|((conv=>whnf); first | intro b | refine bto ?_|refine bfo ?_|refine br_f (beq_eq_false_iff_ne.2 (by omega)) ?_|refine b3_ (fun h=>?_) (fun h=>?_)|refine Wr.mk ?_|refine callS (f:=196) (.b (mayRe c l)) (mayReT c l) ?_|refine callS (f:=119) (.i .i64 (cl (cl now+cl (sp c.ho)))) (heldT c now) ?_|refine callB (f:=117) (t:=48) [.i .i64 _,.i .i64 _,.i .i64 0,.i .i64 0] (fun j=>.s j 0 1 1) (fun w=>(sayT _ _ w).mono (by rintro e w' ⟨b,rfl,h1,h2,h3⟩; exact ⟨b,rfl,h1,h2,h3⟩)) ?_|refine said_s (b:=_) ?_ (by rfl)|refine said_n ?_|refine fin_s ?_))
  all_goals first | (simp [hearV, *]; done)|(exfalso; omega)|(exfalso; apply he; constructor <;> assumption)|(have h2:¬ l.ph=2:=(by omega); simp [hearV, *]; done)
def aimF (l:LeaseV):Int:=if l.ph≤2 then l.fm else l.to
theorem aimT (l:LeaseV) (w:World):Calls Tryz.prog 122 #[.agg #[.int .i64 l.se,.int .i64 l.fl,.int .i64 l.fm,.int .i64 l.to,.int .i64 l.ma,.int .i64 l.ca,.int .i64 l.ph,.int .i64 l.un,.int .i64 l.re,.int .i64 l.gr]] w fun e w'=>e=.returned (.tuple #[.int .i64 (aimF l),.bool true])∧Since w w':=by
 refine ent tab_ok [.a [.i .i64 l.se,.i .i64 l.fl,.i .i64 l.fm,.i .i64 l.to,.i .i64 l.ma,.i .i64 l.ca,.i .i64 l.ph,.i .i64 l.un,.i .i64 l.re,.i .i64 l.gr]] Tryz.func122 Tryz.ntmps122 rfl rfl ?_
 repeat' (first | refine gs_ ?_|((conv=>whnf); first | intro b | refine b3_ (fun h=>?_) (fun h=>?_)|refine fin_s ?_))
 all_goals (unfold aimF; simp [den,denL, *])
end Ri
namespace Fl
open Go.RowKit Ba Mem En Go.Proofs.YtpiiblkiddcgcaaGreat.Ty Mo
open Qu (leaC leaC_len leaC_one leas_one btw)
open Ce (ms massT)
set_option maxRecDepth 100000
attribute [local irreducible] Go.Calls
def leaE:Ek LeaseV:=⟨101,10,leaC,leaC_len,leaC_one⟩
def belB (n m:Int):Bool:=decide (0≤n) && decide (n < m)
def mayB (c:CfgV) (a:AskV):Bool:=belB a.se (btw c.se 1 64) && belB a.fl (btw c.ft 1 8) && belB a.fm (fl c.fl) && belB a.to (fl c.fl) && (a.fm != a.to) && decide (1≤a.ma) && decide (a.ma≤ms c.lo)
theorem belT (n m:Int) (w:World):Calls Tryz.prog 217 #[.int .i64 n,.int .i64 m] w fun e w'=>e=.returned (.bool (belB n m))∧Since w w':=by
 refine ent tab_ok [.i .i64 n,.i .i64 m] Tryz.func217 Tryz.ntmps217 rfl rfl ?_
 repeat' (first | refine gs_ ?_|((conv=>whnf); first | refine b3_ (fun h=>?_) (fun h=>?_)|refine fin_s ?_))
 all_goals (unfold belB; simp [den, *])
theorem btwT (n lo hi:Int) (h:lo≤hi) (w:World):Calls Tryz.prog 218 #[.int .i64 n,.int .i64 lo,.int .i64 hi] w fun e w'=>e=.returned (.int .i64 (btw n lo hi))∧Since w w':=by
 refine ent tab_ok [.i .i64 n,.i .i64 lo,.i .i64 hi] Tryz.func218 Tryz.ntmps218 rfl rfl ?_
 repeat' (first | refine gs_ ?_|((conv=>whnf); first | refine fin_s ?_))
 exact congrArg (Value.int .i64) (by unfold btw; repeat' split <;> omega)
theorem quotaT (c:CfgV) (w:World):Calls Tryz.prog 216 #[(aCfg c)] w fun e w'=>e=.returned (.int .i64 (btw c.qo 1 8))∧Since w w':=by
 refine ent tab_ok [.a (sCfg c)] Tryz.func216 Tryz.ntmps216 rfl rfl ?_
 repeat' (first | refine gs_ ?_|((conv=>whnf); first | intro b | refine callS (f:=218) (.i .i64 (btw _ _ _)) (btwT _ _ _ (by decide)) ?_|refine fin_s ?_))
 all_goals rfl
attribute [local irreducible] belB btw ms
set_option maxHeartbeats 4000000 in
theorem mayT (c:CfgV) (a:AskV) (w:World):Calls Tryz.prog 191 #[(aCfg c),.agg #[.int .i64 a.se,.int .i64 a.fl,.int .i64 a.fm,.int .i64 a.to,.int .i64 a.ma]] w fun e w'=>e=.returned (.bool (mayB c a))∧Since w w':=by
 refine ent tab_ok [.a (sCfg c),.a [.i .i64 a.se,.i .i64 a.fl,.i .i64 a.fm,.i .i64 a.to,.i .i64 a.ma]] Tryz.func191 Tryz.ntmps191 rfl rfl ?_
 repeat' (first | refine gs_ ?_|((conv=>whnf); first | intro b | refine b3_ (fun h=>?_) (fun h=>?_)|refine br_ne (fun h=>?_) (fun h=>?_)|refine callS (f:=171) (.i .i64 (fl _)) (floorsT _) ?_|refine callS (f:=218) (.i .i64 (btw _ _ _)) (btwT _ _ _ (by decide)) ?_|refine callS (f:=217) (.b (belB _ _)) (belT _ _) ?_|refine callS (f:=204) (.i .i64 (ms _)) (massT _) ?_|refine fin_s ?_))
 all_goals (unfold mayB; simp [den, *])
def cn (ls:List LeaseV) (f:Int):Nat:=ls.countP fun l=>l.fl == f
theorem cn_take {ls:List LeaseV} {f:Int} {k:Nat} {x:LeaseV} (hx:ls[k]?=some x):cn (ls.take (k+1)) f=cn (ls.take k) f+if x.fl=f then 1 else 0:=by
 obtain ⟨hk,rfl⟩:=List.getElem?_eq_some_iff.1 hx
 unfold cn
 rw [List.take_succ_eq_append_getElem hk,List.countP_append]
 simp [List.countP_cons]
theorem cn_le (ls:List LeaseV) (f:Int):cn ls f≤ls.length:=List.countP_le_length
theorem countT {lo n c:Nat} {A:Option Addr} {ls:List LeaseV} (f:Int) (w:World) (ho:leaE.At lo A n c ls w) (hn:ls.length=n) (hl:n≤1000000) :
  Calls Tryz.prog 215 #[.slice A n c,.int .i64 f] w fun e w'=>e=.returned (.int .i64 (cn ls f))∧Since w w':=by
 obtain ⟨g,hA⟩:=Ek.addr ho
 refine entH tab_ok (Hold.addObj (Hold.nil _ tab [] _ w) (rwO leaE lo A n c ls false) ho (by intro k; cases k) (by intro r hr; cases hr) (by intro A hA; cases hA)) [.v (.slice A n c),.i .i64 f] Tryz.func215 Tryz.ntmps215 rfl rfl ?_
 repeat' (first | refine gs_ ?_|((conv=>whnf); first | intro b | refine b3_ (fun h=>?_) (fun h=>?_)|refine fin_s ?_))
 conv=>whnf
 refine lp ⟨tab_ok⟩ (ι:={k:Nat // k≤n}) (fun x=>match x with | ⟨k,_⟩=>⟨[(0,.v (.slice A n c)),(1,.i .i64 f),(5,.i .i64 (cn (ls.take k) f:Nat)),(8,.v (.slice A n c)),(9,.i .i64 n),(10,.i .i64 (k:Int))],[],[rwO leaE lo A n c ls false]⟩) (fun x=>n - x.1) ⟨0,Nat.zero_le _⟩ (wk ?_) ?_
 ·repeat' (first | exact trivial | rfl | ((conv=>whnf); refine And.intro ?_ ?_))
 rintro ⟨k,hk⟩
 have hck:cn (ls.take k) f≤n:=by have:=cn_le (ls.take k) f; rw [List.length_take] at this; omega
 by_cases hlt:k < n
 ·obtain ⟨x,hx⟩:∃ x,ls[k]?=some x:=⟨_,List.getElem?_eq_getElem (by omega)⟩
  obtain rfl:=hA (by omega)
  have hc:=cn_take (f:=f) hx
  by_cases hpx:x.fl=f
  ·rw [if_pos hpx] at hc
   repeat' (first | refine gs_ ?_|((conv=>whnf); first | intro b2 | refine bto ?_|refine bfo ?_|refine wr_i ?_|refine br_t (beq_iff_eq.2 hpx) ?_|refine opiv ⟨tab_ok⟩ (by rfl) (by rfl) (by rfl) (by rfl) (by rfl) (by rfl) ⟨by omega,by omega⟩ ?_|refine opix (g:=g) (off:=0+k*10) [.i .i64 x.se,.i .i64 x.fl,.i .i64 x.fm,.i .i64 x.to,.i .i64 x.ma,.i .i64 x.ca,.i .i64 x.ph,.i .i64 x.un,.i .i64 x.re,.i .i64 x.gr] (fun w hH=>Ek.rng (hH.obj (rwO leaE lo (some ⟨g,0,none⟩) n c ls false) (List.mem_singleton.2 rfl)) hx) ⟨tab_ok⟩ (by rfl) (by rfl) (by show Addr.add ⟨g,0,none⟩ (k*10)=_; rw [Go.WideShapes.add_plain]) ?_|refine back ⟨k+1,by omega⟩ (wk ?_) ?_|refine fin_s ?_))
   all_goals first | (show n - (k+1) < n - k; omega)|skip
   all_goals (repeat' (first | exact trivial | rfl | ((conv=>whnf); refine And.intro ?_ ?_)))
   all_goals (simp only [den]; rw [hc]; rfl)
  ·rw [if_neg hpx] at hc
   repeat' (first | refine gs_ ?_|((conv=>whnf); first | intro b2 | refine bto ?_|refine bfo ?_|refine wr_i ?_|refine br_f (beq_eq_false_iff_ne.2 hpx) ?_|refine opiv ⟨tab_ok⟩ (by rfl) (by rfl) (by rfl) (by rfl) (by rfl) (by rfl) ⟨by omega,by omega⟩ ?_|refine opix (g:=g) (off:=0+k*10) [.i .i64 x.se,.i .i64 x.fl,.i .i64 x.fm,.i .i64 x.to,.i .i64 x.ma,.i .i64 x.ca,.i .i64 x.ph,.i .i64 x.un,.i .i64 x.re,.i .i64 x.gr] (fun w hH=>Ek.rng (hH.obj (rwO leaE lo (some ⟨g,0,none⟩) n c ls false) (List.mem_singleton.2 rfl)) hx) ⟨tab_ok⟩ (by rfl) (by rfl) (by show Addr.add ⟨g,0,none⟩ (k*10)=_; rw [Go.WideShapes.add_plain]) ?_|refine back ⟨k+1,by omega⟩ (wk ?_) ?_|refine fin_s ?_))
   all_goals first | (show n - (k+1) < n - k; omega)|skip
   all_goals (repeat' (first | exact trivial | rfl | ((conv=>whnf); refine And.intro ?_ ?_)))
   all_goals (simp only [den]; rw [hc]; rfl)
 ·repeat' (first | refine gs_ ?_|((conv=>whnf); first | intro b2 | refine bto ?_|refine bfo ?_|refine wr_i ?_|refine fin_s ?_))
  obtain rfl:k=n:=by omega
  rw [List.take_of_length_le (by omega)]; rfl
attribute [local irreducible] cn
def freeB (c:CfgV) (ls:List LeaseV) (f:Int):Bool:=decide ((cn ls f:Int) < btw c.qo 1 8)
theorem freeT {lo n cap:Nat} {A:Option Addr} {ls:List LeaseV} (c:CfgV) (f:Int) (w:World) (ho:leaE.At lo A n cap ls w) (hn:ls.length=n) (hl:n≤1000000) :
  Calls Tryz.prog 184 #[(aCfg c),.slice A n cap,.int .i64 f] w fun e w'=>e=.returned (.bool (freeB c ls f))∧Since w w':=by
 refine entH tab_ok (Hold.addObj (Hold.nil _ tab [] _ w) (rwO leaE lo A n cap ls false) ho (by intro k; cases k) (by intro r hr; cases hr) (by intro A hA; cases hA)) [.a (sCfg c),.v (.slice A n cap),.i .i64 f] Tryz.func184 Tryz.ntmps184 rfl rfl ?_
 repeat' (first | refine gs_ ?_|((conv=>whnf); first | intro b | refine b3_ (fun h=>?_) (fun h=>?_)|refine callS (f:=216) (.i .i64 (btw _ _ _)) (quotaT c) ?_|refine callH (f:=215) (.i .i64 (cn ls f:Nat)) (fun w hH=>countT f w (hH.obj (rwO leaE lo A n cap ls false) (List.mem_singleton.2 rfl)) hn hl) ?_|refine fin_s ?_))
 all_goals rfl
end Fl
end Go.Proofs.YtpiiblkiddcgcaaGreat
