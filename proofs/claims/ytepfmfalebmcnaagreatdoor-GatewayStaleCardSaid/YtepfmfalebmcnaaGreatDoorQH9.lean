/-
  Wanted: part 9.
  No condition.
-/
import Derived.Test.YtepfmfalebmcnaaGreatDoorQH8
import Derived.Test.YtepfmfalebmcnaaGreatDoorQH5
import Derived.Test.YtepfmfalebmcnaaGreatDoorQH4
import Derived.Test.YtepfmfalebmcnaaGreatDoorQH7
set_option linter.all false
namespace Go.Proofs.YtepfmfalebmcnaaGreatDoor
namespace Co
open Go.RowKit Ba Mem En Go.Proofs.YtepfmfalebmcnaaGreatDoor.Ty Mo Go.Proofs.YtepfmfalebmcnaaGreatDoor.St
open Gr (GrV GO CarsAt WaitsAt carL waitL waitA WaitV pairO newG okT okW idB idlT waitsO wait_at)
open Qu (QO askE intE askC btw putE putL dropL atS oM)
open Le (TO hasL ofL setL setE endL zeroL)
open Fl (leaE mayB mayT freeB freeT)
open Ri (MsgV msgC sp spanT sp_lo sp_hi)
open Et (carsO car_at fr_bd)
set_option maxRecDepth 100000
attribute [local irreducible] Go.Calls
theorem cp_take {α:Type} {ls:List α} {p:α→Bool} {k:Nat} {x:α} (hx:ls[k]?=some x):(ls.take (k+1)).countP p=(ls.take k).countP p+if p x=true then 1 else 0:=by
 obtain ⟨hk,rfl⟩:=List.getElem?_eq_some_iff.1 hx
 rw [List.take_succ_eq_append_getElem hk,List.countP_append]
 simp [List.countP_cons]
theorem cp_le {α:Type} (ls:List α) (p:α→Bool) (k:Nat):(ls.take k).countP p≤k:=by
 have:=List.countP_le_length (p:=p) (l:=ls.take k)
 rw [List.length_take] at this; omega
theorem countW {lo n c:Nat} {A:Option Addr} {ls:List WaitV} (F:FuncId) (c1 c2:Value) (p:WaitV→Bool) (w:World) (ho:WaitsAt lo A n c ls w) (hn:ls.length=n) (hl:n≤1000000) (hp:∀ l∈ls,∀ w1:World,Since w w1→Calls Tryz.prog F #[.agg (waitA l),c1,c2] w1 fun e w2=>e=.returned (.bool (p l))∧Since w1 w2) (hcf:∀ (args:Array Value) (w1:World),(callFunc F args).run Tryz.prog w1=.ok (.enter F args) w1) :
  Calls Tryz.prog 228 #[.slice A n c,.func (.func F) #[] #[c1,c2]] w fun e w'=>e=.returned (.int .i64 (ls.countP p:Nat))∧Since w w':=by
 obtain ⟨g,hA⟩:∃ g,0 < n→A=some ⟨g,0,none⟩:=by
  rcases own_at ho with ⟨_,h0,_⟩ | ⟨g,_,h1,_⟩
  ·exact ⟨0,fun k=>by omega⟩
  ·exact ⟨g,fun _=>h1⟩
 refine entH tab_ok (Hold.addObj (Hold.nil _ tab [] _ w) (waitsO lo A n c ls false) ho (by intro k; cases k) (by intro r hr; cases hr) (by intro A hA; cases hA)) [.v (.slice A n c),.f F [.v c1,.v c2]] Tryz.func228 Tryz.ntmps228 rfl rfl ?_
 repeat' (first | refine gs_ ?_|((conv=>whnf); first | intro b | refine b3_ (fun h=>?_) (fun h=>?_)|refine fin_s ?_))
 conv=>whnf
 refine lp ⟨tab_ok⟩ (ι:={k:Nat // k≤n}) (fun x=>match x with | ⟨k,_⟩=>⟨[(1,.f F [.v c1,.v c2]),(5,.i .i64 ((ls.take k).countP p:Nat)),(8,.v (.slice A n c)),(9,.i .i64 n),(10,.i .i64 (k:Int))],[],[waitsO lo A n c ls false]⟩) (fun x=>n - x.1) ⟨0,Nat.zero_le _⟩ (wk ?_) ?_
 ·repeat' (first | exact trivial | rfl | ((conv=>whnf); refine And.intro ?_ ?_))
 rintro ⟨k,hk⟩
 have hck:=cp_le ls p k
 by_cases hlt:k < n
 ·obtain ⟨x,hx⟩:∃ x,ls[k]?=some x:=⟨_,List.getElem?_eq_getElem (by omega)⟩
  obtain rfl:=hA (by omega)
  have hc:=cp_take (p:=p) hx
  have hmem:=List.mem_of_getElem? hx
  cases hpx:p x with
  | true =>
   rw [if_pos hpx] at hc
   repeat' (first | refine gs_ ?_|((conv=>whnf); first | intro b2 | refine bto ?_|refine bfo ?_|refine wr_i ?_|refine iv_ ?_|refine opix (g:=g) (off:=0+k*4) [.i .i64 x.fl,.i .i64 x.wy,.i .i64 x.ca,.i .i64 x.si] (fun w hH=>wait_at (hH.obj (waitsO lo (some ⟨g,0,none⟩) n c ls false) (List.mem_singleton.2 rfl)) hx) ⟨tab_ok⟩ (by rfl) (by rfl) (by show Addr.add ⟨g,0,none⟩ (k*4)=_; rw [Go.WideShapes.add_plain]) ?_|refine callHF hcf (.b true) (fun w hH=>by have:=hp x hmem w (hH.out rfl); rw [hpx] at this; exact this) ?_|refine back ⟨k+1,by omega⟩ (wk ?_) ?_|refine fin_s ?_))
   all_goals first | (show n - (k+1) < n - k; omega)|skip
   all_goals (repeat' (first | exact trivial | rfl | ((conv=>whnf); refine And.intro ?_ ?_)))
   all_goals (simp only [den]; rw [hc]; rfl)
  | false =>
   rw [if_neg (by rw [hpx]; decide)] at hc
   repeat' (first | refine gs_ ?_|((conv=>whnf); first | intro b2 | refine bto ?_|refine bfo ?_|refine wr_i ?_|refine iv_ ?_|refine opix (g:=g) (off:=0+k*4) [.i .i64 x.fl,.i .i64 x.wy,.i .i64 x.ca,.i .i64 x.si] (fun w hH=>wait_at (hH.obj (waitsO lo (some ⟨g,0,none⟩) n c ls false) (List.mem_singleton.2 rfl)) hx) ⟨tab_ok⟩ (by rfl) (by rfl) (by show Addr.add ⟨g,0,none⟩ (k*4)=_; rw [Go.WideShapes.add_plain]) ?_|refine callHF hcf (.b false) (fun w hH=>by have:=hp x hmem w (hH.out rfl); rw [hpx] at this; exact this) ?_|refine back ⟨k+1,by omega⟩ (wk ?_) ?_|refine fin_s ?_))
   all_goals first | (show n - (k+1) < n - k; omega)|skip
   all_goals (repeat' (first | exact trivial | rfl | ((conv=>whnf); refine And.intro ?_ ?_)))
   all_goals (simp only [den]; rw [hc]; rfl)
 ·repeat' (first | refine gs_ ?_|((conv=>whnf); first | intro b2 | refine bto ?_|refine bfo ?_|refine wr_i ?_|refine fin_s ?_))
  obtain rfl:k=n:=by omega
  rw [List.take_of_length_le (by omega)]; rfl
theorem countC {lo n c:Nat} {A:Option Addr} {ls:List CarV} (F:FuncId) (p:CarV→Bool) (w:World) (ho:CarsAt lo A n c ls w) (hn:ls.length=n) (hl:n≤1000000) (hp:∀ (l:CarV) (w1:World),Calls Tryz.prog F #[.agg #[.int .i64 l.ds,.int .i64 l.da,.int .i64 l.un,.int .i64 l.wy,.int .i64 l.ti,.int .i64 l.ju,.int .i64 l.lo,.bool l.bl,.bool l.br,.int .i64 l.mo,.int .i64 l.ta,.bool l.ho,.int .u64 l.sp,.int .u64 l.su,.int .u64 l.sd]] w1 fun e w2=>e=.returned (.bool (p l))∧Since w1 w2) (hcf:∀ (args:Array Value) (w1:World),(callFunc F args).run Tryz.prog w1=.ok (.enter F args) w1) :
  Calls Tryz.prog 231 #[.slice A n c,.func (.func F) #[] #[]] w fun e w'=>e=.returned (.int .i64 (ls.countP p:Nat))∧Since w w':=by
 obtain ⟨g,hA⟩:∃ g,0 < n→A=some ⟨g,0,none⟩:=by
  rcases own_at ho with ⟨_,h0,_⟩ | ⟨g,_,h1,_⟩
  ·exact ⟨0,fun k=>by omega⟩
  ·exact ⟨g,fun _=>h1⟩
 refine entH tab_ok (Hold.addObj (Hold.nil _ tab [] _ w) (carsO lo A n c ls false) ho (by intro k; cases k) (by intro r hr; cases hr) (by intro A hA; cases hA)) [.v (.slice A n c),.f F []] Tryz.func231 Tryz.ntmps231 rfl rfl ?_
 repeat' (first | refine gs_ ?_|((conv=>whnf); first | intro b | refine b3_ (fun h=>?_) (fun h=>?_)|refine fin_s ?_))
 conv=>whnf
 refine lp ⟨tab_ok⟩ (ι:={k:Nat // k≤n}) (fun x=>match x with | ⟨k,_⟩=>⟨[(1,.f F []),(5,.i .i64 ((ls.take k).countP p:Nat)),(8,.v (.slice A n c)),(9,.i .i64 n),(10,.i .i64 (k:Int))],[],[carsO lo A n c ls false]⟩) (fun x=>n - x.1) ⟨0,Nat.zero_le _⟩ (wk ?_) ?_
 ·repeat' (first | exact trivial | rfl | ((conv=>whnf); refine And.intro ?_ ?_))
 rintro ⟨k,hk⟩
 have hck:=cp_le ls p k
 by_cases hlt:k < n
 ·obtain ⟨x,hx⟩:∃ x,ls[k]?=some x:=⟨_,List.getElem?_eq_getElem (by omega)⟩
  obtain rfl:=hA (by omega)
  have hc:=cp_take (p:=p) hx
  cases hpx:p x with
  | true =>
   rw [if_pos hpx] at hc
   repeat' (first | refine gs_ ?_|((conv=>whnf); first | intro b2 | refine bto ?_|refine bfo ?_|refine wr_i ?_|refine iv_ ?_|refine opix (g:=g) (off:=0+k*15) (sCar x) (fun w hH=>car_at (hH.obj (carsO lo (some ⟨g,0,none⟩) n c ls false) (List.mem_singleton.2 rfl)) hx) ⟨tab_ok⟩ (by rfl) (by rfl) (by show Addr.add ⟨g,0,none⟩ (k*15)=_; rw [Go.WideShapes.add_plain]) ?_|refine callHF hcf (.b true) (fun w hH=>by have:=hp x w; rw [hpx] at this; exact this) ?_|refine back ⟨k+1,by omega⟩ (wk ?_) ?_|refine fin_s ?_))
   all_goals first | (show n - (k+1) < n - k; omega)|skip
   all_goals (repeat' (first | exact trivial | rfl | ((conv=>whnf); refine And.intro ?_ ?_)))
   all_goals (simp only [den]; rw [hc]; rfl)
  | false =>
   rw [if_neg (by rw [hpx]; decide)] at hc
   repeat' (first | refine gs_ ?_|((conv=>whnf); first | intro b2 | refine bto ?_|refine bfo ?_|refine wr_i ?_|refine iv_ ?_|refine opix (g:=g) (off:=0+k*15) (sCar x) (fun w hH=>car_at (hH.obj (carsO lo (some ⟨g,0,none⟩) n c ls false) (List.mem_singleton.2 rfl)) hx) ⟨tab_ok⟩ (by rfl) (by rfl) (by show Addr.add ⟨g,0,none⟩ (k*15)=_; rw [Go.WideShapes.add_plain]) ?_|refine callHF hcf (.b false) (fun w hH=>by have:=hp x w; rw [hpx] at this; exact this) ?_|refine back ⟨k+1,by omega⟩ (wk ?_) ?_|refine fin_s ?_))
   all_goals first | (show n - (k+1) < n - k; omega)|skip
   all_goals (repeat' (first | exact trivial | rfl | ((conv=>whnf); refine And.intro ?_ ?_)))
   all_goals (simp only [den]; rw [hc]; rfl)
 ·repeat' (first | refine gs_ ?_|((conv=>whnf); first | intro b2 | refine bto ?_|refine bfo ?_|refine wr_i ?_|refine fin_s ?_))
  obtain rfl:k=n:=by omega
  rw [List.take_of_length_le (by omega)]; rfl
def oldW (K:KV) (a:WaitV):Bool:=decide (K.G.now - a.si > sp K.G.c.yi)
def nrmC (x:CarV):Bool:=x.mo == 0 && !x.br
def pfB (K:KV):Bool:=decide ((K.G.waits.countP (oldW K):Int) > 0) || decide ((K.G.cars.countP nrmC:Int) < 2)
def okS (K:KV) (a:WaitV):Prop:=0≤a.si∧a.si≤1099511627776
def okN (K:KV):Prop:=0≤K.G.now∧K.G.now≤1099511627776
theorem pf1T (K:KV) (a:WaitV) (cp cq:Nat) (w:World) (h1:Blk w cp 3 #[.int .i64 K.G.now]) (h2:Blk w cq 3 #[.int .i64 (sp K.G.c.yi)]) (hne:cp≠cq) (ha:okS K a) (hn:okN K):Calls Tryz.prog 230 #[.agg (waitA a),.pointer (some ⟨cp,0,none⟩),.pointer (some ⟨cq,0,none⟩)] w fun e w'=>e=.returned (.bool (oldW K a))∧Since w w':=by
 obtain ⟨a1,a2⟩:=ha
 obtain ⟨n1,n2⟩:=hn
 refine entH tab_ok (Hold.addRow (hold_q (S:=[]) [.i .i64 K.G.now] h1) ⟨cq,3,true,0,[],[.i .i64 (sp K.G.c.yi)],[],false⟩ h2 (by intro h; cases h) (by intro r hr _; rw [List.mem_singleton] at hr; subst hr; exact hne) (by intro A hA; cases hA)) [.a [.i .i64 a.fl,.i .i64 a.wy,.i .i64 a.ca,.i .i64 a.si],.p 0 0,.p 1 0] Tryz.func230 Tryz.ntmps230 rfl rfl ?_
 repeat' (first | refine gs_ ?_|((conv=>whnf); first | intro b | refine wr_i ?_|refine fin_s ?_))
 all_goals rfl
theorem pf2T (x:CarV) (w:World):Calls Tryz.prog 232 #[.agg #[.int .i64 x.ds,.int .i64 x.da,.int .i64 x.un,.int .i64 x.wy,.int .i64 x.ti,.int .i64 x.ju,.int .i64 x.lo,.bool x.bl,.bool x.br,.int .i64 x.mo,.int .i64 x.ta,.bool x.ho,.int .u64 x.sp,.int .u64 x.su,.int .u64 x.sd]] w fun e w'=>e=.returned (.bool (nrmC x))∧Since w w':=by
 refine ent tab_ok [.a (sCar x)] Tryz.func232 Tryz.ntmps232 rfl rfl ?_
 repeat' (first | refine gs_ ?_|((conv=>whnf); first | intro b | refine b3_ (fun h=>?_) (fun h=>?_)|refine fin_s ?_))
 all_goals (unfold nrmC; simp [den, *])
attribute [local irreducible] oldW nrmC sp
section
variable {q lo:Nat} {p:Pt} {K:KV} {S:List Nat} {w:World}
theorem hold_kr {n:Nat} (hk:Blk w q 111 (coreA K.G.c p)) (hb:BD lo p K S w):Hold ⟨Tryz.prog,tab,[],w,n,[]⟩ [⟨q,111,true,0,[],coreS K.G.c p,[],false⟩] [bdO lo p K S false] w :=
 Hold.addObj (hold_q (S:=[]) (coreS K.G.c p) hk) (bdO lo p K S false) hb (by intro k; cases k) (by intro r hr _; rw [List.mem_singleton] at hr; subst hr; exact hb.far hk) (by intro A hA; cases hA)
set_option maxHeartbeats 1000000 in
theorem peopleT (hk:Blk w q 111 (coreA K.G.c p)) (hb:BD lo p K S w) (h0:K.G.cars.length≤10000) (h1:K.G.waits.length≤10000) (hs:∀ a∈K.G.waits,okS K a) (hn:okN K) :
  Calls Tryz.prog 180 #[.pointer (some ⟨q,0,none⟩)] w fun e w'=>e=.returned (.bool (pfB K))∧Since w w':=by
 refine entH tab_ok (hold_kr hk hb) [.p 0 0] Tryz.func180 Tryz.ntmps180 rfl rfl ?_
 repeat' (first | refine gs_ ?_|((conv=>whnf); first | intro b | refine b3_ (fun h=>?_) (fun h=>?_)|refine And.intro ?_ ?_|refine callH (f:=40) (.i .i64 K.G.now) (fun w hH=>(Hold.ob hH (A:=bdO lo p K S false) 0 rfl).now) ?_|refine callS (f:=222) (.i .i64 (sp K.G.c.yi)) (spanT _) ?_|refine callN (f:=229) (ι:=NrA w.heap.size) (fun x=>.v (.slice x.1.2.1 K.G.waits.length x.1.2.2)) (fun x=>waitsO x.1.1 x.1.2.1 K.G.waits.length x.1.2.2 K.G.waits true) (fun w1 hH=>toNW ((Hold.ob hH (A:=bdO lo p K S false) 0 rfl).waits h1) hH.upd.size) (fun ws=>?_)|refine callH (f:=228) (.i .i64 (K.G.waits.countP (oldW K):Nat)) (fun w hH=>countW 230 _ _ (oldW K) w (Hold.ob hH (A:=waitsO ws.1.1 ws.1.2.1 K.G.waits.length ws.1.2.2 K.G.waits true) 1 rfl) rfl (by omega) (fun a ha w1 hs1=>pf1T K a _ _ w1 (keep_blk hs1 (hH.row 1 _ rfl rfl)) (keep_blk hs1 (hH.row 2 _ rfl rfl)) (hH.ne 1 2 _ _ rfl rfl rfl rfl (by decide)) (hs a ha) hn) (entC (by kernel_rfl))) ?_|refine callH (f:=228) (.i .i64 (K.G.waits.countP (oldW K):Nat)) (fun w hH=>countW 230 _ _ (oldW K) w (Hold.ob hH (A:=waitsO ws.1.1 ws.1.2.1 K.G.waits.length ws.1.2.2 K.G.waits true) 1 rfl) rfl (by omega) (fun a ha w1 hs1=>pf1T K a _ _ w1 (keep_blk hs1 (hH.row 2 _ rfl rfl)) (keep_blk hs1 (hH.row 1 _ rfl rfl)) (hH.ne 2 1 _ _ rfl rfl rfl rfl (by decide)) (hs a ha) hn) (entC (by kernel_rfl))) ?_|refine callN (f:=59) (ι:=NrA w.heap.size) (fun x=>.v (.slice x.1.2.1 K.G.cars.length x.1.2.2)) (fun x=>carsO x.1.1 x.1.2.1 K.G.cars.length x.1.2.2 K.G.cars true) (fun w1 hH=>toNC ((Hold.ob hH (A:=bdO lo p K S false) 0 rfl).cars h0) hH.upd.size) (fun cs=>?_)|refine callH (f:=231) (.i .i64 (K.G.cars.countP nrmC:Nat)) (fun w hH=>countC 232 nrmC w (Hold.ob hH (A:=carsO cs.1.1 cs.1.2.1 K.G.cars.length cs.1.2.2 K.G.cars true) 2 rfl) rfl (by omega) (fun x w1=>pf2T x w1) (entC (by kernel_rfl))) ?_|refine fin_s ?_))
 all_goals (simp only [den,pfB,h,decide_true,decide_false,Bool.true_or,Bool.false_or])
theorem opbi {X:Cx} {s:St} (hX:X.Ok) {o:Oper} {K:St→Prop} {t e:TypeId} {x:Operand} (v:SV) (ho:o.op=.buildSlice t 1 #[(0,x)]) (hx:evO x s.fr=some v)
  (h:nw s e [v] fun j s'=>put X.n o.dst (.s j 0 1 1) s' K)
  (ht:(match tyO t X.tab with | some y=>y.sl && Nat.beq y.el e | none=>false)=true:=by rfl) (hn:(match tyO e X.tab with | some y=>Nat.beq y.size 1 && !y.row | none=>false)=true:=by rfl) (h1:∀ m,(den m v).cells=#[den m v]:=by intro m; rfl) (hc:okL s.m.length [v]=true:=by rfl):OpVC X o s K:=by
 cases hy:tyO t X.tab with
 | none=>simp [hy] at ht
 | some y =>
  cases hz:tyO e X.tab with
  | none=>simp [hz] at hn
  | some z =>
   simp only [hy,hz,Bool.and_eq_true] at ht hn
   obtain ⟨d,i,T⟩:=(hX.tab _ _ hy).out
   obtain ⟨d',i',T'⟩:=(hX.tab _ _ hz).out
   have hel:=Nat.eq_of_beq_eq_true ht.2
   have hsz:=Nat.eq_of_beq_eq_true hn.1
   have hu:X.P.underlying t=some (.slice e):=by rw [T.un,T.sl ht.1,hel]
   refine opbs [v] ho hu T'.inf T'.zero (by rw [T'.size]; omega) (by rw [T'.size]; omega) (fun a hf=>?_) h hc
   have he:=(evO_of hf hx).2
   have:=Go.Great.fill_whole (s:=i'.size) (by rw [T'.size]; omega) [den s.m v] ((Array.range (1*i'.size)).map ((zeroV z).cells[· % (zeroV z).cells.size]!)) (by intro u hu; rw [List.mem_singleton] at hu; subst hu; rw [h1,T'.size,hsz]; rfl) (by simp)
   simpa [he,denL,h1] using this
def fullL (K:KV):Nat→List Int
 | 0=>[]
 | k+1=>if freeB K.G.c K.L (k:Int)=true then fullL K k else fullL K k++[(k:Int)]
theorem full_len (K:KV):∀ k,(fullL K k).length≤k
 | 0=>Nat.le_refl _
 | k+1=>by
  have:=full_len K k
  unfold fullL; split
  ·omega
  ·simp; omega
attribute [local irreducible] freeB
set_option maxHeartbeats 1000000 in
theorem fullT (hk:Blk w q 111 (coreA K.G.c p)) (hb:BD lo p K S w) (h1:K.L.length≤10000) :
  Calls Tryz.prog 182 #[.pointer (some ⟨q,0,none⟩)] w fun e w'=>∃ A' c',e=.returned (.slice A' (fullL K 8).length c')∧intE.At w.heap.size A' (fullL K 8).length c' (fullL K 8) w'∧Since w w':=by
 refine entH tab_ok (Hold.addObj (hold_kr hk hb) (rwO intE w.heap.size none 0 0 [] true) (Ek.nil _ _ _) (by intro _ g hg; cases hg) (by intro r _ _ hg; cases hg) (by intro A hA _ g hg hg2; cases hg2)) [.p 0 0] Tryz.func182 Tryz.ntmps182 rfl rfl ?_
 repeat' (first | refine gs_ ?_|((conv=>whnf); first | intro b | refine b3_ (fun h=>?_) (fun h=>?_)|refine callN (f:=54) (ι:=NrA w.heap.size) (fun x=>.v (.slice x.1.2.1 K.L.length x.1.2.2)) (fun x=>rwO leaE x.1.1 x.1.2.1 K.L.length x.1.2.2 K.L true) (fun w1 hH=>toN ((Hold.ob hH (A:=bdO lo p K S false) 0 rfl).leases h1) hH.upd.size) (fun ls=>?_)|refine fin_s ?_))
 conv=>whnf
 refine lp ⟨tab_ok⟩ (ι:={x:(Nat×Option Addr×Nat)×List Int // x.1.1≤8∧fullL K x.1.1=x.2}) (fun x=>match x with | ⟨((k,A3,c3),zs),_⟩=>⟨[(0,.p 0 0),(3,.v (.slice A3 zs.length c3)),(4,.v (.slice ls.1.2.1 K.L.length ls.1.2.2)),(11,.i .i64 (k:Int))],[⟨q,111,true,0,[],coreS K.G.c p,[],false⟩],[bdO lo p K S false,rwO intE w.heap.size A3 zs.length c3 zs true,rwO leaE ls.1.1 ls.1.2.1 K.L.length ls.1.2.2 K.L true]⟩) (fun x=>8 - x.1.1.1) ⟨((0,none,0),[]),Nat.zero_le _,rfl⟩ (wk ?_) ?_
 ·repeat' (first | exact trivial | rfl | ((conv=>whnf); refine And.intro ?_ ?_))
 rintro ⟨⟨⟨k,A3,c3⟩,zs⟩,hk8,hz⟩
 have hk8:k≤8:=hk8
 have hz:fullL K k=zs:=hz
 have hzl:zs.length≤k:=by rw [← hz]; exact full_len K k
 by_cases hlt:k < 8
 ·cases hf:freeB K.G.c K.L (k:Int) with
  | true =>
   have hz2:fullL K (k+1)=zs:=by unfold fullL; rw [if_pos hf,hz]
   repeat' (first | refine gs_ ?_|((conv=>whnf); first | intro b | refine bto ?_|refine bfo ?_|refine wr_i ?_|refine callH (f:=234) (.b true) (fun w hH=>by have:=freeT K.G.c (k:Int) w (Hold.ob hH (A:=rwO leaE ls.1.1 ls.1.2.1 K.L.length ls.1.2.2 K.L true) 2 rfl) rfl (by omega); rw [hf] at this; exact this) ?_|refine back ⟨((k+1,A3,c3),zs),by show k+1≤_; omega,hz2⟩ (wk ?_) ?_|refine fin_s ?_))
   all_goals first | (show 8 - (k+1) < 8 - k; omega)|skip
   all_goals (repeat' (first | exact trivial | rfl | ((conv=>whnf); refine And.intro ?_ ?_)))
  | false =>
   have hz2:fullL K (k+1)=zs++[(k:Int)]:=by unfold fullL; rw [if_neg (by rw [hf]; decide),hz]
   repeat' (first | refine gs_ ?_|((conv=>whnf); first | intro b | refine bto ?_|refine bfo ?_|refine wr_i ?_|refine callH (f:=234) (.b false) (fun w hH=>by have:=freeT K.G.c (k:Int) w (Hold.ob hH (A:=rwO leaE ls.1.1 ls.1.2.1 K.L.length ls.1.2.2 K.L true) 2 rfl) rfl (by omega); rw [hf] at this; exact this) ?_|refine opbi (e:=3) ⟨tab_ok⟩ (.i .i64 (k:Int)) (by rfl) (by rfl) ?_|refine opap 1 1 (e:=3) (lo:=w.heap.size) (size:=1) (bytes:=8) (z:=.int .i64 0) (A:=rwO intE w.heap.size A3 zs.length c3 zs true) (vals:=rowsOf intE.c zs) (cells:=intE.c (k:Int)) (zs:=rowsOf intE.c (zs++[(k:Int)])) (n2:=(zs++[(k:Int)]).length) (fun A' c'=>rwO intE w.heap.size A' (zs++[(k:Int)]).length c' (zs++[(k:Int)]) true) (by rfl) (by rfl) (by rfl) (by rfl) rfl rfl (fun w h=>h) (fun A' c' w h=>h) (fun _ _=>rfl) (by rfl) (by rfl) (by rfl) (by rfl) Tryz.underlying54 (by kernel_rfl) rfl (by decide) (by decide) (intE.one _) (by omega) (fun w hH=>hH.upd.size) (by simp) (by rw [rowsOf_append,rowsOf_one]) (fun A' c'=>?_)|refine back ⟨((k+1,A',c'),zs++[(k:Int)]),by show k+1≤_; omega,hz2⟩ (wk ?_) ?_|refine fin_s ?_))
   all_goals first | (show 8 - (k+1) < 8 - k; omega)|skip
   all_goals (repeat' (first | exact trivial | rfl | ((conv=>whnf); refine And.intro ?_ ?_)))
 ·obtain rfl:k=8:=by omega
  repeat' (first | refine gs_ ?_|((conv=>whnf); first | intro b | refine bto ?_|refine bfo ?_|refine wr_i ?_|refine fin fun w' hH=>?_|refine fin_s ?_))
  have hO:=Hold.ob hH (A:=rwO intE w.heap.size A3 zs.length c3 zs true) 1 rfl
  rw [hz]
  exact ⟨A3,c3,rfl,hO,hH.upd.since⟩
def canB (x:CarV):Bool:=idB x && !x.bl && !decide (x.lo > 0)
def nrL (f:Int) (ls:List CarV):Nat→Int×Int
 | 0=>(-1,0)
 | k+1=>match ls[k]? with
  | none=>nrL f ls k
  | some x=>if canB x=true∧((nrL f ls k).1 < 0∨fr x.un f < (nrL f ls k).2) then ((k:Int),fr x.un f) else nrL f ls k
def nearI (K:KV) (f:Int):Int:=(nrL f K.G.cars K.G.cars.length).1
attribute [local irreducible] idB fr
set_option maxHeartbeats 2000000 in
theorem nearT (hk:Blk w q 111 (coreA K.G.c p)) (hb:BD lo p K S w) (h1:K.G.cars.length≤10000) (h2:0 < K.G.cars.length) (f:Int) (hf:0≤f∧f≤63) (hok:∀ x∈K.G.cars,okT x) :
  Calls Tryz.prog 183 #[.pointer (some ⟨q,0,none⟩),.int .i64 f] w fun e w'=>e=.returned (.int .i64 (nearI K f))∧Since w w':=by
 refine entH tab_ok (hold_kr hk hb) [.p 0 0,.i .i64 f] Tryz.func183 Tryz.ntmps183 rfl rfl ?_
 repeat' (first | refine gs_ ?_|((conv=>whnf); first | intro b | refine b3_ (fun h=>?_) (fun h=>?_)|refine callN (f:=59) (ι:=NgA w.heap.size) (fun x=>.v (.slice (some ⟨x.1.2.1,0,none⟩) K.G.cars.length x.1.2.2)) (fun x=>carsO x.1.1 (some ⟨x.1.2.1,0,none⟩) K.G.cars.length x.1.2.2 K.G.cars true) (fun w1 hH=>toNCg h2 ((Hold.ob hH (A:=bdO lo p K S false) 0 rfl).cars h1) hH.upd.size) (fun cs=>?_)|refine fin_s ?_))
 conv=>whnf
 refine lp ⟨tab_ok⟩ (ι:={k:Nat // k≤K.G.cars.length}) (fun x=>match x with | ⟨k,_⟩=>⟨[(1,.i .i64 f),(5,.i .i64 (nrL f K.G.cars k).1),(6,.i .i64 (nrL f K.G.cars k).2),(14,.v (.slice (some ⟨cs.1.2.1,0,none⟩) K.G.cars.length cs.1.2.2)),(15,.i .i64 K.G.cars.length),(16,.i .i64 (k:Int))],[],[bdO lo p K S false,carsO cs.1.1 (some ⟨cs.1.2.1,0,none⟩) K.G.cars.length cs.1.2.2 K.G.cars true]⟩) (fun x=>K.G.cars.length - x.1) ⟨0,Nat.zero_le _⟩ (wk ?_) ?_
 ·repeat' (first | exact trivial | rfl | ((conv=>whnf); refine And.intro ?_ ?_))
 rintro ⟨k,hk9⟩
 by_cases hlt:k < K.G.cars.length
 ·obtain ⟨x,hx⟩:∃ x,K.G.cars[k]?=some x:=⟨_,List.getElem?_eq_getElem (by omega)⟩
  have hkx:=hok x (List.mem_of_getElem? hx)
  have hr:=hkx.2.1
  have hu:=hkx.2.2.2.2.1
  repeat' (first | refine gs_ ?_|((conv=>whnf); first | intro b2 | refine bto ?_|refine bfo ?_|refine wr_i ?_|refine iv_ ?_|refine opix (g:=cs.1.2.1) (off:=0+k*15) (sCar x) (fun w hH=>car_at (Hold.ob hH (A:=carsO cs.1.1 (some ⟨cs.1.2.1,0,none⟩) K.G.cars.length cs.1.2.2 K.G.cars true) 1 rfl) hx) ⟨tab_ok⟩ (by rfl) (by rfl) (by show Addr.add ⟨_,0,none⟩ (k*15)=_; rw [Go.WideShapes.add_plain]) ?_|refine callS (f:=235) (.b (idB x)) (fun w=>idlT x w hr.1 hr.2.1 hr.2.2) ?_|refine callS (f:=236) (.i .i64 (fr x.un f)) (farT _ _ (by omega) (by omega)) ?_|refine back ⟨k+1,by omega⟩ (wk ?_) ?_|refine b3_ (fun h=>?_) (fun h=>?_)|refine fin_s ?_))
  all_goals first | (show K.G.cars.length - (k+1) < K.G.cars.length - k; omega)|skip
  all_goals (repeat' (first | exact trivial | rfl | ((conv=>whnf); refine And.intro ?_ ?_)))
  all_goals (simp only [den,nrL,hx,canB])
  all_goals (simp [*]; done)
 ·repeat' (first | refine gs_ ?_|((conv=>whnf); first | intro b2 | refine bto ?_|refine bfo ?_|refine wr_i ?_|refine fin_s ?_))
  obtain rfl:k=K.G.cars.length:=by omega
  rfl
end
end Co
namespace Co
open Go.RowKit Ba Mem En Go.Proofs.YtepfmfalebmcnaaGreatDoor.Ty Mo Go.Proofs.YtepfmfalebmcnaaGreatDoor.St
open Gr (GrV GO CarsAt WaitsAt carL waitL waitA WaitV pairO newG okT okW waitsO wait_at takeR takeG)
open Qu (QO askE intE askC btw putE putL dropL atS oM firstA atF)
open Le (TO hasL ofL setL setE endL zeroL)
open Fl (leaE mayB mayT freeB freeT)
open Ri (MsgV msgC trV tripT)
open Et (carsO car_at)
open Tm (cl)
open Tw (addT)
set_option maxRecDepth 100000
attribute [local irreducible] Go.Calls
structure KH (K:KV):Prop where
 okc:∀ x∈K.G.cars,okT x
 okw:∀ a∈K.G.waits,okW a
 oks:∀ a∈K.G.waits,okS K a
 now:okN K
 c0:0 < K.G.cars.length
 c1:K.G.cars.length≤8
 lw:K.G.waits.length≤10000
 lq:K.Q.length≤1000
 okq:∀ a∈K.Q,0≤a.fm∧a.fm≤63
 ll:K.L.length≤10000
 okl:∀ l∈K.L,inC K l
theorem take_c (G:GrV) (i f:Int):(takeR G i f).1.c=G.c:=by unfold takeR; split; exact one_c _ _ _; rfl
def grL (K:KV) (a:AskV):LeaseV:=⟨a.se,a.fl,a.fm,a.to,a.ma,nearI K a.fm,1,cl (cl K.G.now+cl (trV K.G.c)),0,K.G.now⟩
def grA (K:KV):Option AskV:=if pfB K=true then none else if (atF K.Q (fullL K 8)).isSome=true then (if nearI K (firstA K.Q (fullL K 8)).fm < 0 then none else some (firstA K.Q (fullL K 8))) else none
def grK (K:KV) (a:AskV):KV:=⟨(takeR K.G (nearI K a.fm) a.fm).1,dropL K.Q a.se,Le.putL K.G.c K.L (grL K a)⟩
def grantK (K:KV):KV:=match grA K with | none=>K | some a=>grK K a
def grantE (K:KV):List EvV:=match grA K with | none=>[]|some a=>[⟨a.se,⟨4,nearI K a.fm,0,0⟩⟩]
attribute [local irreducible] pfB fullL atF firstA nearI takeR dropL Le.putL trV cl
theorem fin_k0 {lo n:Nat} {p:Pt} {K:KV} {S S1:List Nat} {w:World} {fr:List (Nat×SV)} {m:List Row} {obr:List Asr} {st:St} (hst:st=⟨fr,m,bdO lo p K S1 true::obr⟩) :
  Fin ⟨Tryz.prog,tab,S,w,n,[]⟩ (fun e w'=>∃ (S':List Nat) (x:Nr),e=.returned (.slice x.2.1 0 x.2.2)∧BD lo p K S' w'∧(rwO evE x.1 x.2.1 0 x.2.2 [] true).st w'∧Upd S w w'∧(∀ g∈S',g∈S∨w.heap.size≤g)∧∀ g∈blkOf x.2.1,w.heap.size≤g∧g∉S') (.v (.slice none 0 0)) st:=by
 subst hst
 exact fin fun w' hH=>⟨S1,(0,none,0),rfl,hH.obj _ (List.mem_cons_self ..),Ek.nil _ _ _,hH.upd,hH.own _ (List.mem_cons_self ..) rfl,by intro g hg; cases hg⟩
section
variable {q lo:Nat} {p:Pt} {K:KV} {S:List Nat} {w:World}
theorem first_mem {ls:List AskV} {zs:List Int} (h:(atF ls zs).isSome=true):firstA ls zs∈ls:=by
 cases hk:atF ls zs with
 | none=>rw [hk] at h; cases h
 | some k =>
  obtain ⟨hl,_⟩:=Qu.atF_some hk
  have:firstA ls zs=ls[k]:=by unfold firstA; rw [hk]; simp [List.getD,hl]
  rw [this]; exact List.getElem_mem hl
set_option maxHeartbeats 4000000 in
theorem grantT (hk:Blk w q 111 (coreA K.G.c p)) (hb:BD lo p K S w) (H:KH K) :
  Calls Tryz.prog 123 #[.pointer (some ⟨q,0,none⟩)] w fun e w'=>∃ (S':List Nat) (x:Nr),e=.returned (.slice x.2.1 (grantE K).length x.2.2)∧BD lo p (grantK K) S' w'∧(rwO evE x.1 x.2.1 (grantE K).length x.2.2 (grantE K) true).st w'∧Upd S w w'∧(∀ g∈S',g∈S∨w.heap.size≤g)∧∀ g∈blkOf x.2.1,w.heap.size≤g∧g∉S':=by
 have hrg:∀ x∈K.G.cars,R x.sp∧R x.su∧R x.sd:=fun x hx=>(H.okc x hx).2.1
 cases hp:pfB K with
 | true =>
  have e1:grA K=none:=by unfold grA; rw [if_pos hp]
  rw [show grantK K=K by unfold grantK; rw [e1],show grantE K=[] by unfold grantE; rw [e1]]
  refine entH tab_ok (hold_k hk hb) [.p 0 0] Tryz.func123 Tryz.ntmps123 rfl rfl ?_
  repeat' (first | refine gs_ ?_|((conv=>whnf); first | intro b | refine callH (f:=180) (.b true) (fun w hH=>by have:=peopleT (hH.row 0 _ rfl rfl) (Hold.ob hH (A:=bdO lo p K S true) 0 rfl) (by have:=H.c1; omega) H.lw H.oks H.now; rw [hp] at this; exact this) ?_|refine fin_k0 (by rfl)|refine fin_s ?_))
 | false =>
  cases hf:(atF K.Q (fullL K 8)).isSome with
  | false =>
   have e1:grA K=none:=by unfold grA; rw [if_neg (by rw [hp]; decide),if_neg (by rw [hf]; decide)]
   rw [show grantK K=K by unfold grantK; rw [e1],show grantE K=[] by unfold grantE; rw [e1]]
   refine entH tab_ok (hold_k hk hb) [.p 0 0] Tryz.func123 Tryz.ntmps123 rfl rfl ?_
   repeat' (first | refine gs_ ?_|((conv=>whnf); first | intro b | refine And.intro ?_ ?_|refine callH (f:=180) (.b false) (fun w hH=>by have:=peopleT (hH.row 0 _ rfl rfl) (Hold.ob hH (A:=bdO lo p K S true) 0 rfl) (by have:=H.c1; omega) H.lw H.oks H.now; rw [hp] at this; exact this) ?_|refine callN (f:=182) (ι:=NrA w.heap.size) (fun x=>.v (.slice x.1.2.1 (fullL K 8).length x.1.2.2)) (fun x=>rwO intE x.1.1 x.1.2.1 (fullL K 8).length x.1.2.2 (fullL K 8) true) (fun w1 hH=>toN (fullT (hH.row 0 _ rfl rfl) (Hold.ob hH (A:=bdO lo p K S true) 0 rfl) H.ll) hH.upd.size) (fun zs=>?_)|refine callH (f:=181) (.t [.a [.i .i64 (firstA K.Q (fullL K 8)).se,.i .i64 (firstA K.Q (fullL K 8)).fl,.i .i64 (firstA K.Q (fullL K 8)).fm,.i .i64 (firstA K.Q (fullL K 8)).to,.i .i64 (firstA K.Q (fullL K 8)).ma],.b false]) (fun w hH=>by have:=(Hold.ob hH (A:=bdO lo p K S true) 0 rfl).first (by have:=H.lq; omega) (Hold.ob hH (A:=rwO intE zs.1.1 zs.1.2.1 (fullL K 8).length zs.1.2.2 (fullL K 8) true) 1 rfl) rfl (by have:=full_len K 8; omega); rw [hf] at this; exact this) ?_|refine fin_k0 (by rfl)|refine fin_s ?_))
  | true =>
   have hmem:=first_mem hf
   generalize ha:firstA K.Q (fullL K 8)=a at *
   have hfm:=H.okq a hmem
   by_cases hn:nearI K a.fm < 0
   ·have e1:grA K=none:=by unfold grA; rw [if_neg (by rw [hp]; decide),if_pos hf,ha,if_pos hn]
    rw [show grantK K=K by unfold grantK; rw [e1],show grantE K=[] by unfold grantE; rw [e1]]
    refine entH tab_ok (hold_k hk hb) [.p 0 0] Tryz.func123 Tryz.ntmps123 rfl rfl ?_
    repeat' (first | refine gs_ ?_|((conv=>whnf); first | intro b | refine bto ?_|refine bfo ?_|refine And.intro ?_ ?_|refine callH (f:=180) (.b false) (fun w hH=>by have:=peopleT (hH.row 0 _ rfl rfl) (Hold.ob hH (A:=bdO lo p K S true) 0 rfl) (by have:=H.c1; omega) H.lw H.oks H.now; rw [hp] at this; exact this) ?_|refine callN (f:=182) (ι:=NrA w.heap.size) (fun x=>.v (.slice x.1.2.1 (fullL K 8).length x.1.2.2)) (fun x=>rwO intE x.1.1 x.1.2.1 (fullL K 8).length x.1.2.2 (fullL K 8) true) (fun w1 hH=>toN (fullT (hH.row 0 _ rfl rfl) (Hold.ob hH (A:=bdO lo p K S true) 0 rfl) H.ll) hH.upd.size) (fun zs=>?_)|refine callH (f:=181) (.t [.a [.i .i64 a.se,.i .i64 a.fl,.i .i64 a.fm,.i .i64 a.to,.i .i64 a.ma],.b true]) (fun w hH=>by have:=(Hold.ob hH (A:=bdO lo p K S true) 0 rfl).first (by have:=H.lq; omega) (Hold.ob hH (A:=rwO intE zs.1.1 zs.1.2.1 (fullL K 8).length zs.1.2.2 (fullL K 8) true) 1 rfl) rfl (by have:=full_len K 8; omega); rw [hf,ha] at this; exact this) ?_|refine callH (f:=183) (.i .i64 (nearI K a.fm)) (fun w hH=>nearT (hH.row 0 _ rfl rfl) (Hold.ob hH (A:=bdO lo p K S true) 0 rfl) (by have:=H.c1; omega) H.c0 a.fm hfm H.okc) ?_|refine fin_k0 (by rfl)|refine fin_s ?_))
   ·have e1:grA K=some a:=by unfold grA; rw [if_neg (by rw [hp]; decide),if_pos hf,ha,if_neg hn]
    rw [show grantK K=grK K a by unfold grantK; rw [e1],show grantE K=[⟨a.se,⟨4,nearI K a.fm,0,0⟩⟩] by unfold grantE; rw [e1]]
    unfold grK
    refine entH tab_ok (hold_k hk hb) [.p 0 0] Tryz.func123 Tryz.ntmps123 rfl rfl ?_
    repeat' (first | refine gs_ ?_|((conv=>whnf); first | intro b | refine bto ?_|refine bfo ?_|refine And.intro ?_ ?_|refine callH (f:=180) (.b false) (fun w hH=>by have:=peopleT (hH.row 0 _ rfl rfl) (Hold.ob hH (A:=bdO lo p K S true) 0 rfl) (by have:=H.c1; omega) H.lw H.oks H.now; rw [hp] at this; exact this) ?_|refine callN (f:=182) (ι:=NrA w.heap.size) (fun x=>.v (.slice x.1.2.1 (fullL K 8).length x.1.2.2)) (fun x=>rwO intE x.1.1 x.1.2.1 (fullL K 8).length x.1.2.2 (fullL K 8) true) (fun w1 hH=>toN (fullT (hH.row 0 _ rfl rfl) (Hold.ob hH (A:=bdO lo p K S true) 0 rfl) H.ll) hH.upd.size) (fun zs=>?_)|refine callH (f:=181) (.t [.a [.i .i64 a.se,.i .i64 a.fl,.i .i64 a.fm,.i .i64 a.to,.i .i64 a.ma],.b true]) (fun w hH=>by have:=(Hold.ob hH (A:=bdO lo p K S true) 0 rfl).first (by have:=H.lq; omega) (Hold.ob hH (A:=rwO intE zs.1.1 zs.1.2.1 (fullL K 8).length zs.1.2.2 (fullL K 8) true) 1 rfl) rfl (by have:=full_len K 8; omega); rw [hf,ha] at this; exact this) ?_|refine callH (f:=183) (.i .i64 (nearI K a.fm)) (fun w hH=>nearT (hH.row 0 _ rfl rfl) (Hold.ob hH (A:=bdO lo p K S true) 0 rfl) (by have:=H.c1; omega) H.c0 a.fm hfm H.okc) ?_|refine callH (f:=40) (.i .i64 K.G.now) (fun w hH=>(Hold.ob hH (A:=bdO lo p K S true) 0 rfl).now) ?_|refine callO (f:=184) (A:=bdO lo p K S true) 0 (fun _=>.i .i64 (takeR K.G (nearI K a.fm) a.fm).2) (fun S'=>bdO lo p ⟨(takeR K.G (nearI K a.fm) a.fm).1,K.Q,K.L⟩ S' true) (fun w hH hA=>BD.grp hA (take_c _ _ _) (fun S1 hq=>takeG hq hrg (nearI K a.fm) a.fm)) (fun S1=>?_)|refine callO (f:=185) (A:=bdO lo p ⟨(takeR K.G (nearI K a.fm) a.fm).1,K.Q,K.L⟩ S1 true) 0 (fun _=>.b (atS K.Q a.se).isSome) (fun S'=>bdO lo p ⟨(takeR K.G (nearI K a.fm) a.fm).1,dropL K.Q a.se,K.L⟩ S' true) (fun w hH hA=>BD.que hA (fun S1 hq=>Qu.dropQ hq (by have:=H.lq; show K.Q.length≤_; omega) a.se)) (fun S2=>?_)|refine callS (f:=187) (.i .i64 (trV K.G.c)) (tripT K.G.c) ?_|refine callS (f:=127) (.i .i64 (cl (cl _+cl _))) (addT _ _) ?_|refine callO (f:=186) (A:=bdO lo p ⟨(takeR K.G (nearI K a.fm) a.fm).1,dropL K.Q a.se,K.L⟩ S2 true) 0 (fun _=>.i .i64 (Le.putE K.G.c K.L (grL K a))) (fun S'=>bdO lo p ⟨(takeR K.G (nearI K a.fm) a.fm).1,dropL K.Q a.se,Le.putL K.G.c K.L (grL K a)⟩ S' true) (fun w hH hA=>by have:=BD.tab hA (fun S1 hq=>Le.putT hq H.ll (grL K a)); simp only [take_c] at this; exact this) (fun S3=>?_)|refine opb1 (e:=26) ⟨tab_ok⟩ [.i .i64 4,.i .i64 (nearI K a.fm),.i .i64 0,.i .i64 0] (by rfl) (by rfl) ?_|refine callN (f:=66) (ι:=NrA w.heap.size) (fun x=>.v (.slice x.1.2.1 1 x.1.2.2)) (fun x=>rwO evE x.1.1 x.1.2.1 1 x.1.2.2 (evs a.se [⟨4,nearI K a.fm,0,0⟩]) true) (fun w1 hH=>toN (eventsT (lo:=0) (ms:=[⟨4,nearI K a.fm,0,0⟩]) a.se w1 (Ek.of_blk (hH.row 2 _ rfl rfl) (Nat.zero_le _) (by decide)) rfl (by decide)) hH.upd.size) (fun es=>?_)|refine fin_ke (k:=1) (by rfl) (by rfl) (by rfl) es.2 | refine fin_s ?_))
end
end Co
namespace En
open Go.RowKit Ba Mem
theorem wkd {X:Cx} {s s':St} (hfr:frW s s'.m s'.fr) (hm:s'.m=s.m.take s'.m.length:=by rfl) (hok:rowsOk s'.m.length s'.m=true:=by rfl) (hob:s'.ob=s.ob.take s'.ob.length:=by rfl):Wk X s s':=by
 refine ⟨fun a w hR=>?_⟩
 have h1:=(wk (X:=X) (s:=s) (s':=⟨s'.fr,s'.m,s.ob⟩) hfr hm hok rfl).out a w hR
 have hs:∀ B∈s'.ob,B∈s.ob:=fun B hB=>by rw [hob] at hB; exact List.mem_of_mem_take hB
 have H:=h1.h
 exact ⟨h1.ds,h1.sz,h1.fr,H.upd,H.row,H.wf,H.ne,fun B hB=>H.obj B (hs B hB),fun B hB=>H.far B (hs B hB),fun B hB=>H.own B (hs B hB),by rw [hob]; exact List.Pairwise.sublist (List.take_sublist _ _) H.dis⟩
end En
namespace Co
open Go.RowKit Ba Mem En Go.Proofs.YtepfmfalebmcnaaGreatDoor.Ty Mo Go.Proofs.YtepfmfalebmcnaaGreatDoor.St
open Gr (GrV GO CarsAt WaitsAt carL waitL waitA WaitV pairO newG okT okW waitsO wait_at tickG tickP tickGT)
open Qu (QO askE intE askC)
open Le (TO)
open Fl (leaE)
open Ri (MsgV msgC tickV)
open Et (carsO car_at)
set_option maxRecDepth 100000
attribute [local irreducible] Go.Calls
abbrev NrP (n0 n:Nat):={x:Nr // n0≤x.1∧(0 < n→∃ g,x.2.1=some ⟨g,0,none⟩)}
theorem toNp {P:Program} {F:FuncId} {args:Array Value} {w1:World} {n0 n:Nat} {α:Type} {E:Ek α} {ls:List α} (h:Calls P F args w1 fun e w'=>∃ A' c',e=.returned (.slice A' n c')∧E.At w1.heap.size A' n c' ls w'∧Since w1 w') (h0:n0≤w1.heap.size) :
  Calls P F args w1 fun e w'=>∃ x:NrP n0 n,e=.returned (.slice x.1.2.1 n x.1.2.2)∧(rwO E x.1.1 x.1.2.1 n x.1.2.2 ls true).st w'∧Since w1 w'∧∀ g∈(rwO E x.1.1 x.1.2.1 n x.1.2.2 ls true).F,w1.heap.size≤g:=by
 refine h.mono ?_
 rintro e w' ⟨A',c',rfl,hO,hs⟩
 exact ⟨⟨(w1.heap.size,A',c'),h0,fun hn=>own_addr hO hn⟩,rfl,hO,hs,own_low hO⟩
def stepR (K:KV) (l:LeaseV):LeaseV×Option MsgV×Bool:=tickV K.G.c l (carAt K l) K.G.now
def stepK (x:KV×List EvV) (l:LeaseV):KV×List EvV:=(setK x.1 (stepR x.1 l).1 (stepR x.1 l).2.2,x.2++evs (stepR x.1 l).1.se (stepR x.1 l).2.1.toList)
def tkK1 (K:KV):KV:={ K with G:=tickG K.G }
def foldK (K:KV) (k:Nat):KV×List EvV:=(K.L.take k).foldl stepK (tkK1 K,[])
theorem fold_step {K:KV} {k:Nat} {l:LeaseV} (h:K.L[k]?=some l):foldK K (k+1)=stepK (foldK K k) l:=by
 obtain ⟨hk,rfl⟩:=List.getElem?_eq_some_iff.1 h
 unfold foldK
 rw [List.take_succ_eq_append_getElem hk,List.foldl_append]; rfl
def tickK (K:KV):KV:=grantK (foldK K K.L.length).1
def tickE (K:KV):List EvV:=(foldK K K.L.length).2++grantE (foldK K K.L.length).1
theorem step_c (x:KV×List EvV) (l:LeaseV):(stepK x l).1.G.c=x.1.G.c:=setK_c _ _ _
theorem fold_c (K:KV) (ls:List LeaseV):∀ x:KV×List EvV,(ls.foldl stepK x).1.G.c=x.1.G.c:=by
 induction ls with
 | nil=>intro x; rfl
 | cons l r ih=>intro x; rw [List.foldl_cons,ih,step_c]
theorem tkK1_c (K:KV):(tkK1 K).G.c=K.G.c:=rfl
theorem foldK_c (K:KV) (k:Nat):(foldK K k).1.G.c=K.G.c:=fold_c K _ _
section
variable {q lo:Nat} {p:Pt} {K:KV} {S:List Nat} {w:World}
theorem BD.tick (h:BD lo p K S w) (H:KH K) {n0:Nat} (h0:n0≤w.heap.size):Calls Tryz.prog 120 #[.pointer (some ⟨p.g,0,none⟩)] w fun e w'=>∃ x:List Nat×NrA n0,e=.returned (.slice x.2.1.2.1 (tickP K.G).2.2.length x.2.1.2.2)∧(bdO lo p (tkK1 K) x.1 true).st w'∧(waitsO x.2.1.1 x.2.1.2.1 (tickP K.G).2.2.length x.2.1.2.2 (tickP K.G).2.2 true).st w'∧Upd S w w'∧(∀ g∈x.1,g∈S∨w.heap.size≤g)∧∀ g∈blkOf x.2.1.2.1,w.heap.size≤g∧g∉x.1:=by
 obtain ⟨S1,S2,S3,rfl,h1,h2,h3,d1,d2,d3⟩:=h
 refine (tickGT h1 (by have:=H.c1; omega) H.lw H.okc H.okw).mono ?_
 rintro e w' ⟨A',c',rfl,g1,g2,g3⟩
 have hlt:∀ g∈S1++(S2++S3),g < w.heap.size:=fun g hg=>by
  rcases List.mem_append.1 hg with hg | hg
  ·exact h1.lt g hg
  rcases List.mem_append.1 hg with hg | hg
  ·exact h2.lt g hg
  ·exact h3.lt g hg
 refine ⟨(S1++(S2++S3),⟨(w.heap.size,A',c'),h0⟩),rfl,⟨S1,S2,S3,rfl,g2, ?_, ?_,d1,d2,d3⟩,g1,g3.mono (fun k hk _=>List.mem_append.2 (.inl hk)),fun g hg=>.inl hg,fun g hg=>⟨own_low g1 g hg,fun hm=>?_⟩⟩
 ·exact h2.upd g3 (fun g hg hg1=>d1 g hg1 hg)
 ·exact h3.upd g3 (fun g hg hg1=>d2 g hg1 hg)
 ·have:=hlt g hm; have:=own_low g1 g hg; omega
theorem grantE_len (K:KV):(grantE K).length≤1:=by unfold grantE; split <;> simp
attribute [local irreducible] stepR setK grantK grantE tickG tickP evs
set_option maxHeartbeats 8000000 in
theorem tickT (hk:Blk w q 111 (coreA K.G.c p)) (hb:BD lo p K S w) (H:KH K) (HF:∀ k,k≤K.L.length→KH (foldK K k).1) (hin:∀ k,∀ l∈K.L,k≤K.L.length→inC (foldK K k).1 l) (hev:∀ k,k≤K.L.length→(foldK K k).2.length≤k) :
  Calls Tryz.prog 91 #[.pointer (some ⟨q,0,none⟩)] w fun e w'=>∃ (S':List Nat) (x y:Nr),e=.returned (.tuple #[.slice x.2.1 (tickE K).length x.2.2,.slice y.2.1 (tickP K.G).2.2.length y.2.2])∧BD lo p (tickK K) S' w'∧(rwO evE x.1 x.2.1 (tickE K).length x.2.2 (tickE K) true).st w'∧(waitsO y.1 y.2.1 (tickP K.G).2.2.length y.2.2 (tickP K.G).2.2 true).st w'∧Upd S w w'∧(∀ g∈S',g∈S∨w.heap.size≤g)∧(∀ g∈blkOf x.2.1,w.heap.size≤g∧g∉S')∧∀ g∈blkOf y.2.1,w.heap.size≤g∧g∉S':=by
 refine entH tab_ok (Hold.addObj (hold_k hk hb) (rwO evE w.heap.size none 0 0 [] true) (Ek.nil _ _ _) (by intro _ g hg; cases hg) (by intro r _ _ hg; cases hg) (by intro A hA _ g hg hg2; cases hg2)) [.p 0 0] Tryz.func91 Tryz.ntmps91 rfl rfl ?_
 repeat' (first | refine gs_ ?_|((conv=>whnf); first | intro b | refine callON (f:=120) (A:=bdO lo p K S true) 0 (ι:=List Nat×NrA w.heap.size) (fun x=>.v (.slice x.2.1.2.1 (tickP K.G).2.2.length x.2.1.2.2)) (fun x=>bdO lo p (tkK1 K) x.1 true) (fun x=>waitsO x.2.1.1 x.2.1.2.1 (tickP K.G).2.2.length x.2.1.2.2 (tickP K.G).2.2 true) (fun w1 hH hA=>BD.tick hA H hH.upd.size) (fun sv=>?_)|refine callN (f:=54) (ι:=NrP w.heap.size K.L.length) (fun x=>.v (.slice x.1.2.1 K.L.length x.1.2.2)) (fun x=>rwO leaE x.1.1 x.1.2.1 K.L.length x.1.2.2 K.L true) (fun w1 hH=>toNp ((Hold.ob hH (A:=bdO lo p (tkK1 K) sv.1 true) 0 rfl).leases H.ll) hH.upd.size) (fun ls=>?_)|refine fin_s ?_))
 conv=>whnf
 obtain ⟨S0,sv⟩:=sv
 obtain ⟨⟨l0,A0,c0⟩,hl0,hA0⟩:=ls
 have hl0:w.heap.size≤l0:=hl0
 have hA0:0 < K.L.length→∃ g,A0=some ⟨g,0,none⟩:=hA0
 refine lp ⟨tab_ok⟩ (ι:={x:(Nat×List Nat×Nr)×(KV×List EvV) // x.1.1≤K.L.length∧foldK K x.1.1=x.2∧x.2.1.G.c=K.G.c}) (fun x=>match x with | ⟨((k,Sk,(_,A3,c3)),(Kk,es)),_⟩=>⟨[(0,.p 0 0),(4,.v (.slice sv.1.2.1 (tickP K.G).2.2.length sv.1.2.2)),(5,.v (.slice A3 es.length c3)),(22,.v (.slice A0 K.L.length c0)),(23,.i .i64 K.L.length),(24,.i .i64 (k:Int))],[⟨q,111,true,0,[],coreS K.G.c p,[],false⟩],[bdO lo p Kk Sk true,rwO evE w.heap.size A3 es.length c3 es true,waitsO sv.1.1 sv.1.2.1 (tickP K.G).2.2.length sv.1.2.2 (tickP K.G).2.2 true,rwO leaE l0 A0 K.L.length c0 K.L true]⟩) (fun x=>K.L.length - x.1.1.1) ⟨((0,S0,(0,none,0)),(tkK1 K,[])),Nat.zero_le _,rfl,tkK1_c K⟩ (wk ?_) ?_
 ·repeat' (first | exact trivial | rfl | ((conv=>whnf); refine And.intro ?_ ?_))
 rintro ⟨⟨⟨k,Sk,⟨u0,A3,c3⟩⟩,⟨Kk,es⟩⟩,hkl,hfo,hcc⟩
 have hkl:k≤K.L.length:=hkl
 have hfo:foldK K k=(Kk,es):=hfo
 have hcc:Kk.G.c=K.G.c:=hcc
 have HK:KH Kk:=by have:=HF k hkl; rw [hfo] at this; exact this
 have hes:es.length≤k:=by have:=hev k hkl; rw [hfo] at this; exact this
 by_cases hlt:k < K.L.length
 ·obtain ⟨l,hl⟩:∃ l,K.L[k]?=some l:=⟨_,List.getElem?_eq_getElem (by omega)⟩
  have hs:=fold_step hl
  rw [hfo] at hs
  have hi:inC Kk l:=by have:=hin k l (List.mem_of_getElem? hl) hkl; rw [hfo] at this; exact this
  obtain ⟨j,hj⟩:∃ j:Nat,l.ca=(j:Int):=⟨_,(Int.toNat_of_nonneg hi.1).symm⟩
  have hx:=hi.at_
  rw [hj] at hx
  have hx:Kk.G.cars[j]?=some (carAt Kk l):=by simpa using hx
  obtain ⟨hjl,_⟩:=List.getElem?_eq_some_iff.1 hx
  generalize hxx:carAt Kk l=x at *
  have hr:stepR Kk l=tickV K.G.c l x Kk.G.now:=by unfold stepR; rw [hxx,hcc]
  generalize hR:stepR Kk l=r at *
  have hs2:foldK K (k+1)=(setK Kk r.1 r.2.2,es++evs r.1.se r.2.1.toList):=by rw [hs]; unfold stepK; rw [hR]
  have hc2:(setK Kk r.1 r.2.2).G.c=K.G.c:=by rw [setK_c,hcc]
  have hr1:r.2.1.toList.length≤1:=by cases r.2.1 <;> simp
  have hel:(evs r.1.se r.2.1.toList).length=r.2.1.toList.length:=by unfold evs; simp
  have hcar:=HK.c1
  have hll:=H.ll
  obtain ⟨g0,rfl⟩:=hA0 (by omega)
  repeat' (first | refine gq_ ?_|((conv=>whnf); first | intro b | refine drA ⟨tab_ok⟩ [13] ?_|refine bto ?_|refine bfo ?_|refine wr_i ?_|refine And.intro ?_ ?_|refine iv_ ?_|refine opix (g:=g0) (off:=0+k*10) [.i .i64 l.se,.i .i64 l.fl,.i .i64 l.fm,.i .i64 l.to,.i .i64 l.ma,.i .i64 l.ca,.i .i64 l.ph,.i .i64 l.un,.i .i64 l.re,.i .i64 l.gr] (fun w hH=>Ek.rng (Hold.ob hH (A:=rwO leaE l0 (some ⟨g0,0,none⟩) K.L.length c0 K.L true) 3 rfl) hl) ⟨tab_ok⟩ (by rfl) (by rfl) (by show Addr.add ⟨g0,0,none⟩ (k*10)=_; rw [Go.WideShapes.add_plain]) ?_|refine callN (f:=59) (ι:=NgA w.heap.size) (fun x=>.v (.slice (some ⟨x.1.2.1,0,none⟩) Kk.G.cars.length x.1.2.2)) (fun x=>carsO x.1.1 (some ⟨x.1.2.1,0,none⟩) Kk.G.cars.length x.1.2.2 Kk.G.cars true) (fun w1 hH=>toNCg (by omega) ((Hold.ob hH (A:=bdO lo p Kk Sk true) 0 rfl).cars (by omega)) hH.upd.size) (fun cs=>?_)|refine ui_ ?_|refine opix (g:=cs.1.2.1) (off:=0+j*15) (sCar x) (fun w hH=>car_at (Hold.ob hH (A:=carsO cs.1.1 (some ⟨cs.1.2.1,0,none⟩) Kk.G.cars.length cs.1.2.2 Kk.G.cars true) 4 rfl) hx) ⟨tab_ok⟩ (by rfl) (by rfl) (by show Addr.add ⟨_,0,none⟩ (l.ca.toNat*15)=_; rw [hj,Int.toNat_natCast,Go.WideShapes.add_plain]) ?_|refine callH (f:=40) (.i .i64 Kk.G.now) (fun w hH=>(Hold.ob hH (A:=bdO lo p Kk Sk true) 0 rfl).now) ?_|refine callN (f:=121) (ι:=NrA w.heap.size) (fun x=>.t [.a [.i .i64 r.1.se,.i .i64 r.1.fl,.i .i64 r.1.fm,.i .i64 r.1.to,.i .i64 r.1.ma,.i .i64 r.1.ca,.i .i64 r.1.ph,.i .i64 r.1.un,.i .i64 r.1.re,.i .i64 r.1.gr],.v (.slice x.1.2.1 r.2.1.toList.length x.1.2.2),.b r.2.2]) (fun x=>rwO msgE x.1.1 x.1.2.1 r.2.1.toList.length x.1.2.2 r.2.1.toList true) (fun w1 hH=>saidN (by rw [hr]; exact Ri.tickT K.G.c l x Kk.G.now w1) hH.upd.size) (fun ms=>?_)|refine callO (f:=122) (A:=bdO lo p Kk Sk true) 0 (fun _=>.t []) (fun S'=>bdO lo p (setK Kk r.1 r.2.2) S' true) (fun w hH hA=>(settleT (by rw [hcc]; exact hH.row 0 _ rfl rfl) hA HK.ll _ _).mono (by rintro e w' ⟨rfl,S',h⟩; exact ⟨S',rfl,h⟩)) (fun S'=>?_)|refine callN (f:=66) (ι:=NrA w.heap.size) (fun x=>.v (.slice x.1.2.1 r.2.1.toList.length x.1.2.2)) (fun x=>rwO evE x.1.1 x.1.2.1 r.2.1.toList.length x.1.2.2 (evs r.1.se r.2.1.toList) true) (fun w1 hH=>toN (eventsT r.1.se w1 (Hold.ob hH (A:=rwO msgE ms.1.1 ms.1.2.1 r.2.1.toList.length ms.1.2.2 r.2.1.toList true) 5 rfl) rfl (by omega)) hH.upd.size) (fun ev=>?_)|refine opao 1 6 (e:=82) (lo:=w.heap.size) (size:=5) (bytes:=40) (z:=.agg #[.int .i64 0,.int .i64 0,.int .i64 0,.int .i64 0,.int .i64 0]) (A:=rwO evE w.heap.size A3 es.length c3 es true) (E:=rwO evE ev.1.1 ev.1.2.1 r.2.1.toList.length ev.1.2.2 (evs r.1.se r.2.1.toList) true) (vals:=rowsOf evC es) (cells:=rowsOf evC (evs r.1.se r.2.1.toList)) (zs:=rowsOf evC (es++evs r.1.se r.2.1.toList)) (n2:=(es++evs r.1.se r.2.1.toList).length) (fun A' c'=>rwO evE w.heap.size A' (es++evs r.1.se r.2.1.toList).length c' (es++evs r.1.se r.2.1.toList) true) (by rfl) (by rfl) (by rfl) (by rfl) (by rfl) rfl rfl (fun w h=>h) (fun A' c' w h=>h) (fun _ _=>rfl) (fun w h=>Ek.reads h) Tryz.underlying79 (by kernel_rfl) rfl (by decide) (by decide) (rowsOf_one' evE.one _) (by omega) (fun w hH=>hH.upd.size) (by rw [List.length_append,hel]) (by rw [rowsOf_append]) (fun A' c'=>?_)|refine back ⟨((k+1,S',(0,A',c')),(setK Kk r.1 r.2.2,es++evs r.1.se r.2.1.toList)),by show k+1≤_; omega,hs2,hc2⟩ (wkd ?_) ?_|refine fin_s ?_))
  all_goals first | (show K.L.length - (k+1) < K.L.length - k; omega)|skip
  all_goals (repeat' (first | exact trivial | rfl | ((conv=>whnf); refine And.intro ?_ ?_)))
 ·obtain rfl:k=K.L.length:=by omega
  have hll:=H.ll
  have hE:tickE K=es++grantE Kk:=by unfold tickE; rw [hfo]
  have hKK:tickK K=grantK Kk:=by unfold tickK; rw [hfo]
  have hg1:(grantE Kk).length≤1:=grantE_len Kk
  rw [hE,hKK]
  repeat' (first | refine gs_ ?_|((conv=>whnf); first | intro b | refine bto ?_|refine bfo ?_|refine callON (f:=123) (A:=bdO lo p Kk Sk true) 0 (ι:=List Nat×Nr) (fun x=>.v (.slice x.2.2.1 (grantE Kk).length x.2.2.2)) (fun x=>bdO lo p (grantK Kk) x.1 true) (fun x=>rwO evE x.2.1 x.2.2.1 (grantE Kk).length x.2.2.2 (grantE Kk) true) (fun w1 hH hA=>(grantT (by rw [hcc]; exact hH.row 0 _ rfl rfl) hA HK).mono (by rintro e w' ⟨S',x,h⟩; exact ⟨(S',x),h⟩)) (fun gr=>?_)|refine opao 1 4 (e:=82) (lo:=w.heap.size) (size:=5) (bytes:=40) (z:=.agg #[.int .i64 0,.int .i64 0,.int .i64 0,.int .i64 0,.int .i64 0]) (A:=rwO evE w.heap.size A3 es.length c3 es true) (E:=rwO evE gr.2.1 gr.2.2.1 (grantE Kk).length gr.2.2.2 (grantE Kk) true) (vals:=rowsOf evC es) (cells:=rowsOf evC (grantE Kk)) (zs:=rowsOf evC (es++grantE Kk)) (n2:=(es++grantE Kk).length) (fun A' c'=>rwO evE w.heap.size A' (es++grantE Kk).length c' (es++grantE Kk) true) (by rfl) (by rfl) (by rfl) (by rfl) (by rfl) rfl rfl (fun w h=>h) (fun A' c' w h=>h) (fun _ _=>rfl) (fun w h=>Ek.reads h) Tryz.underlying79 (by kernel_rfl) rfl (by decide) (by decide) (rowsOf_one' evE.one _) (by omega) (fun w hH=>hH.upd.size) (by rw [List.length_append]) (by rw [rowsOf_append]) (fun A' c'=>?_)|refine fin fun w' hH=>?_|refine fin_s ?_))
  have o0:=Hold.ob hH (A:=bdO lo p (grantK Kk) gr.1 true) 0 rfl
  have o1:=Hold.ob hH (A:=rwO evE w.heap.size A' (es++grantE Kk).length c' (es++grantE Kk) true) 1 rfl
  have o2:=Hold.ob hH (A:=waitsO sv.1.1 sv.1.2.1 (tickP K.G).2.2.length sv.1.2.2 (tickP K.G).2.2 true) 2 rfl
  refine ⟨gr.1,(w.heap.size,A',c'),(sv.1.1,sv.1.2.1,sv.1.2.2),rfl,o0,o1,o2,hH.upd,hH.own _ (List.mem_cons_self ..) rfl,fun g hg=>⟨own_low o1 g hg,fun hg2=>?_⟩,fun g hg=>⟨Nat.le_trans sv.2 (own_low o2 g hg),fun hg2=>?_⟩⟩
  ·exact pair_at (R:=DisR) (fun _ _ h=>h.symm) hH.dis (i:=0) (j:=1) rfl rfl (by decide) (.inl rfl) g hg2 hg
  ·exact pair_at (R:=DisR) (fun _ _ h=>h.symm) hH.dis (i:=0) (j:=2) rfl rfl (by decide) (.inl rfl) g hg2 hg
end
end Co
namespace En
open Go.RowKit Ba Mem
theorem callO2N {X:Cx} {s:St} {ι:Type} {f:FuncId} {vs:List SV} {K:SV→St→Prop} (i:Nat) {A:Asr} (v:ι→SV) (B C D:ι→Asr)
  (hc:∀ w,Hold X s.m s.ob w→A.st w→Calls X.P f (denL s.m vs).toArray w fun e w'=>∃ x,e=.returned (den s.m (v x))∧(B x).st w'∧(C x).st w'∧(D x).st w'∧Upd A.F w w'∧(∀ g∈(B x).F,g∈A.F∨w.heap.size≤g)∧(∀ g∈(C x).F,w.heap.size≤g∧g∉(B x).F)∧(∀ g∈(D x).F,w.heap.size≤g∧g∉(B x).F)∧∀ g∈(C x).F,g∉(D x).F)
  (h:∀ x,setO i (B x) s.ob fun ob=>appO ob (C x) fun ob=>appO ob (D x) fun ob=>K (v x) ⟨s.fr,s.m,ob⟩) (hA:s.ob[i]?=some A:=by rfl) (hrw:A.rw=true:=by rfl)
  (he:entChk X.P f=true:=by kernel_rfl) (hv:∀ x,okV s.m.length (v x)=true:=by intro x; rfl):CallVC X f vs s K:=by
 refine ⟨entC he,fun w hH=>(hc w hH (hH.obj A (List.mem_of_getElem? hA))).mono ?_⟩
 rintro e w' ⟨x,rfl,h1,h2,h6,h3,h4,h5,h7,h8⟩
 have far:∀ (E:Asr),(∀ g∈E.F,w.heap.size≤g∧g∉(B x).F)→∀ G∈s.ob.set i (B x),DisR G E:=fun E hE G hG _ g hg hgE=>by
  rcases mem_set_or hG with rfl | ⟨j,hne,hG⟩
  ·exact (hE g hgE).2 hg
  ·have:=G.lt (hH.obj G (List.mem_of_getElem? hG)) g hg; have:=(hE g hgE).1; omega
 have row:∀ (E:Asr),(∀ g∈E.F,w.heap.size≤g∧g∉(B x).F)→∀ r∈s.m,r.live=true→r.g∉E.F:=fun E hE r hr hl hg=>by
  obtain ⟨j,hj⟩:=List.mem_iff_getElem?.1 hr
  have:=(hH.row j r hj hl).lt; have:=(hE _ hg).1; omega
 refine ⟨v x,s.m,s.ob.set i (B x)++[C x]++[D x],rfl,hv x,Ext.refl _, ?_,appO_of (appO_of (setO_of (h x)))⟩
 refine Hold.addObj (Hold.addObj (hH.obj_set hA hrw h1 h3 h4) (C x) h2 (fun _ g hg=>.inr (Nat.le_trans hH.upd.size (h5 g hg).1)) (row _ h5) (far _ h5)) (D x) h6 (fun _ g hg=>.inr (Nat.le_trans hH.upd.size (h7 g hg).1)) (row _ h7) (fun G hG=>?_)
 rcases List.mem_append.1 hG with hG | hG
 ·exact far _ h7 G hG
 ·rw [List.mem_singleton] at hG; subst hG
  exact fun _=>h8
end En
namespace Co
open Go.RowKit Ba Mem En Go.Proofs.YtepfmfalebmcnaaGreatDoor.Ty Mo Go.Proofs.YtepfmfalebmcnaaGreatDoor.St
open Gr (GrV GO CarsAt WaitsAt newG okT okW waitsO tickP)
open Qu (QO askE qO)
open Le (TO tO)
open Fl (leaE)
open Ri (MsgV msgC)
open Et (carsO)
set_option maxRecDepth 100000
attribute [local irreducible] Go.Calls
def KW (lo q:Nat) (p:Pt) (K:KV) (S:List Nat) (w:World):Prop:=lo≤q∧∃ S0,S=q::S0∧Blk w q 111 (coreA K.G.c p)∧BD lo p K S0 w
section
variable {lo q:Nat} {p:Pt} {K:KV} {S T:List Nat} {w w':World}
theorem KW.upd (k:Upd T w w') (h:KW lo q p K S w) (hT:∀ g∈S,g∉T):KW lo q p K S w':=by
 obtain ⟨h0,S0,rfl,B,D⟩:=h
 exact ⟨h0,S0,rfl,k.blk B (hT _ (by simp)),D.upd k (fun g hg=>hT g (by simp [hg]))⟩
theorem KW.lt (h:KW lo q p K S w):∀ g∈S,g < w.heap.size:=by
 obtain ⟨h0,S0,rfl,B,D⟩:=h
 intro g hg
 rcases List.mem_cons.1 hg with rfl | hg
 ·exact B.lt
 ·exact D.lt g hg
theorem KW.low (h:KW lo q p K S w):∀ g∈S,lo≤g:=by
 obtain ⟨h0,S0,rfl,B,D⟩:=h
 intro g hg
 rcases List.mem_cons.1 hg with rfl | hg
 ·exact h0
 ·exact D.low g hg
end
def kO (lo q:Nat) (p:Pt) (K:KV) (S:List Nat) (rw:Bool):Asr:=⟨S,rw,KW lo q p K S,fun k h hs=>hs.upd k h,fun h=>h.lt⟩
section
variable {P:Program} {F:FuncId} {args:Array Value} {lo q:Nat} {p:Pt} {K K':KV} {S:List Nat} {w:World} {V:Value}
theorem KW.run (h:KW lo q p K S w) (hcc:K'.G.c=K.G.c) (hc:∀ S0,Blk w q 111 (coreA K.G.c p)→BD lo p K S0 w→Calls P F args w fun e w'=>e=.returned V∧∃ S',BD lo p K' S' w'∧Upd S0 w w'∧∀ g∈S',g∈S0∨w.heap.size≤g) :
  Calls P F args w fun e w'=>∃ S',e=.returned V∧KW lo q p K' S' w'∧Upd S w w'∧∀ g∈S',g∈S∨w.heap.size≤g:=by
 obtain ⟨h0,S0,rfl,B,D⟩:=h
 refine (hc S0 B D).mono ?_
 rintro e w' ⟨rfl,S',d,u,n⟩
 refine ⟨q::S',rfl,⟨h0,S',rfl,by rw [hcc]; exact u.blk B (D.far B),d⟩,u.mono (fun k hk _=>List.mem_cons_of_mem _ hk),fun g hg=>?_⟩
 rcases List.mem_cons.1 hg with rfl | hg
 ·exact .inl (List.mem_cons_self ..)
 ·exact (n g hg).imp (List.mem_cons_of_mem _) id
theorem KW.runE {n:Nat} {es:List EvV} (h:KW lo q p K S w) (hcc:K'.G.c=K.G.c) (hc:∀ S0,Blk w q 111 (coreA K.G.c p)→BD lo p K S0 w→Calls P F args w fun e w'=>∃ (S':List Nat) (x:Nr),e=.returned (.slice x.2.1 n x.2.2)∧BD lo p K' S' w'∧(rwO evE x.1 x.2.1 n x.2.2 es true).st w'∧Upd S0 w w'∧(∀ g∈S',g∈S0∨w.heap.size≤g)∧∀ g∈blkOf x.2.1,w.heap.size≤g∧g∉S') :
  Calls P F args w fun e w'=>∃ x:List Nat×Nr,e=.returned (.slice x.2.2.1 n x.2.2.2)∧KW lo q p K' x.1 w'∧(rwO evE x.2.1 x.2.2.1 n x.2.2.2 es true).st w'∧Upd S w w'∧(∀ g∈x.1,g∈S∨w.heap.size≤g)∧∀ g∈blkOf x.2.2.1,w.heap.size≤g∧g∉x.1:=by
 obtain ⟨h0,S0,rfl,B,D⟩:=h
 refine (hc S0 B D).mono ?_
 rintro e w' ⟨S',x,rfl,d,o,u,n,m⟩
 refine ⟨(q::S',x),rfl,⟨h0,S',rfl,by rw [hcc]; exact u.blk B (D.far B),d⟩,o,u.mono (fun k hk _=>List.mem_cons_of_mem _ hk),fun g hg=>?_,fun g hg=>⟨(m g hg).1,fun hm=>?_⟩⟩
 ·rcases List.mem_cons.1 hg with rfl | hg
  ·exact .inl (List.mem_cons_self ..)
  ·exact (n g hg).imp (List.mem_cons_of_mem _) id
 ·rcases List.mem_cons.1 hm with rfl | hm
  ·have:=(m g hg).1; have:=B.lt; omega
  ·exact (m g hg).2 hm
theorem KW.rd (h:KW lo q p K S w):∃ S0,Blk w q 111 (coreA K.G.c p)∧BD lo p K S0 w:=by
 obtain ⟨h0,S0,rfl,B,D⟩:=h
 exact ⟨S0,B,D⟩
theorem KW.grp (h:KW lo q p K S w) {G':GrV} (hcc:G'.c=K.G.c) (hc:∀ S1,GO lo p.g K.G S1 w→Calls P F args w fun e w'=>e=.returned V∧∃ S',GO lo p.g G' S' w'∧Upd S1 w w'∧∀ g∈S',g∈S1∨w.heap.size≤g) :
  Calls P F args w fun e w'=>∃ S',e=.returned V∧KW lo q p { K with G:=G' } S' w'∧Upd S w w'∧∀ g∈S',g∈S∨w.heap.size≤g :=
 h.run hcc (fun S0 B D=>(BD.grp D hcc hc).mono (by rintro e w' ⟨S',rfl,x⟩; exact ⟨rfl,S',x⟩))
end
section
variable {lo q:Nat} {p:Pt} {K:KV} {S:List Nat} {w:World}
theorem groupK (h:KW lo q p K S w):Calls Tryz.prog 39 #[.pointer (some ⟨q,0,none⟩)] w fun e w'=>e=.returned (.pointer (some ⟨p.g,0,none⟩))∧Since w w':=by
 obtain ⟨S0,hk,hb⟩:=h.rd
 refine entH tab_ok (hold_kr hk hb) [.p 0 0] Tryz.func39 Tryz.ntmps39 rfl rfl ?_
 repeat' (first | refine gs_ ?_|((conv=>whnf); first | intro b | refine fin_s ?_))
 all_goals rfl
theorem askK (h:KW lo q p K S w) (h1:K.Q.length≤1000) (h2:K.L.length≤10000) (a:AskV) :
  Calls Tryz.prog 44 #[.pointer (some ⟨q,0,none⟩),.agg #[.int .i64 a.se,.int .i64 a.fl,.int .i64 a.fm,.int .i64 a.to,.int .i64 a.ma]] w fun e w'=>∃ x:List Nat×Nr,e=.returned (.slice x.2.2.1 1 x.2.2.2)∧KW lo q p (ansK K a) x.1 w'∧(rwO evE x.2.1 x.2.2.1 1 x.2.2.2 (evs a.se [ansM K a]) true).st w'∧Upd S w w'∧(∀ g∈x.1,g∈S∨w.heap.size≤g)∧∀ g∈blkOf x.2.2.1,w.heap.size≤g∧g∉x.1 :=
 h.runE rfl (fun S0 B D=>askT B D h1 h2 a)
theorem hearK_c (K:KV) (s:Int) (m:MsgV):(hearK K s m).G.c=K.G.c:=by unfold hearK; split; exact setK_c _ _ _; rfl
theorem hearW (h:KW lo q p K S w) (h0:K.G.cars.length≤10000) (h2:K.L.length≤10000) (s:Int) (m:MsgV) (hin:Le.hasL K.L s=true→inC K (Le.ofL K.L s)) :
  Calls Tryz.prog 201 #[.pointer (some ⟨q,0,none⟩),.int .i64 s,.agg (msgC m)] w fun e w'=>∃ x:List Nat×Nr,e=.returned (.slice x.2.2.1 (hearM K s m).length x.2.2.2)∧KW lo q p (hearK K s m) x.1 w'∧(rwO evE x.2.1 x.2.2.1 (hearM K s m).length x.2.2.2 (evs s (hearM K s m)) true).st w'∧Upd S w w'∧(∀ g∈x.1,g∈S∨w.heap.size≤g)∧∀ g∈blkOf x.2.2.1,w.heap.size≤g∧g∉x.1 :=
 h.runE (hearK_c _ _ _) (fun S0 B D=>hearT B D h0 h2 s m hin)
theorem goneK_c (K:KV) (s:Int):(goneK K s).G.c=K.G.c:=endK_c K s
theorem goneW (h:KW lo q p K S w) (h1:K.Q.length≤1000) (h2:K.L.length≤10000) (s:Int) :
  Calls Tryz.prog 128 #[.pointer (some ⟨q,0,none⟩),.int .i64 s] w fun e w'=>∃ S',e=.returned (.tuple #[])∧KW lo q p (goneK K s) S' w'∧Upd S w w'∧∀ g∈S',g∈S∨w.heap.size≤g :=
 h.run (goneK_c _ _) (fun S0 B D=>goneT B D h1 h2 s)
theorem grantK_c (K:KV):(grantK K).G.c=K.G.c:=by unfold grantK; split; rfl; exact take_c _ _ _
theorem tickK_c (K:KV):(tickK K).G.c=K.G.c:=by unfold tickK; rw [grantK_c,foldK_c]
structure KT (K:KV):Prop where
 h:KH K
 hf:∀ k,k≤K.L.length→KH (foldK K k).1
 hin:∀ k,∀ l∈K.L,k≤K.L.length→inC (foldK K k).1 l
 hev:∀ k,k≤K.L.length→(foldK K k).2.length≤k
theorem tickW (h:KW lo q p K S w) (H:KT K) :
  Calls Tryz.prog 91 #[.pointer (some ⟨q,0,none⟩)] w fun e w'=>∃ x:List Nat×Nr×Nr,e=.returned (.tuple #[.slice x.2.1.2.1 (tickE K).length x.2.1.2.2,.slice x.2.2.2.1 (tickP K.G).2.2.length x.2.2.2.2])∧KW lo q p (tickK K) x.1 w'∧(rwO evE x.2.1.1 x.2.1.2.1 (tickE K).length x.2.1.2.2 (tickE K) true).st w'∧(waitsO x.2.2.1 x.2.2.2.1 (tickP K.G).2.2.length x.2.2.2.2 (tickP K.G).2.2 true).st w'∧Upd S w w'∧(∀ g∈x.1,g∈S∨w.heap.size≤g)∧(∀ g∈blkOf x.2.1.2.1,w.heap.size≤g∧g∉x.1)∧(∀ g∈blkOf x.2.2.2.1,w.heap.size≤g∧g∉x.1)∧∀ g∈blkOf x.2.1.2.1,g∉blkOf x.2.2.2.1:=by
 obtain ⟨h0,S0,rfl,B,D⟩:=h
 refine (Co.tickT B D H.h H.hf H.hin H.hev).mono ?_
 rintro e w' ⟨S',x,y,rfl,d,o,o2,u,n,m,m2⟩
 have far:∀ g,w.heap.size≤g→g∉S'→g∉q::S':=fun g hg hs hm=>by
  rcases List.mem_cons.1 hm with rfl | hm
  ·have:=B.lt; omega
  ·exact hs hm
 refine ⟨(q::S',x,y),rfl,⟨h0,S',rfl,by rw [tickK_c]; exact u.blk B (D.far B),d⟩,o,o2,u.mono (fun k hk _=>List.mem_cons_of_mem _ hk),fun g hg=>?_,fun g hg=>⟨(m g hg).1,far g (m g hg).1 (m g hg).2⟩,fun g hg=>⟨(m2 g hg).1,far g (m2 g hg).1 (m2 g hg).2⟩,fun g hg hg2=>?_⟩
 ·rcases List.mem_cons.1 hg with rfl | hg
  ·exact .inl (List.mem_cons_self ..)
  ·exact (n g hg).imp (List.mem_cons_of_mem _) id
 ·rcases own_at o with ⟨hn,_⟩ | ⟨g1,cur,hn,_,B1,_⟩
  ·rw [hn] at hg; cases hg
  ·have:g=g1:=by rw [hn] at hg; simpa [blkOf] using hg
   subst this
   exact own_ne_ty o2 B1 (by decide) hg2
theorem newW (c:CfgV) (w:World):Calls Tryz.prog 50 #[(aCfg c)] w fun e w'=>∃ q p S',e=.returned (.pointer (some ⟨q,0,none⟩))∧KW w.heap.size q p (newK c) S' w'∧Since w w':=by
 refine ent tab_ok [.a (sCfg c)] Tryz.func50 Tryz.ntmps50 rfl rfl ?_
 repeat' (first | refine gs_ ?_|((conv=>whnf); first | intro b | refine callN (f:=68) (ι:={x:Nat×Nat×List Nat // w.heap.size≤x.1}) (fun x=>.v (.pointer (some ⟨x.1.2.1,0,none⟩))) (fun x=>⟨x.1.2.2,true,GO x.1.1 x.1.2.1 (newG c) x.1.2.2,fun k h hs=>hs.upd k h,fun h=>h.lt⟩) (fun w1 hH=>(Gr.newT c w1).mono (by rintro e w' ⟨q,S',rfl,h1,h2⟩; exact ⟨⟨(w1.heap.size,q,S'),hH.upd.size⟩,rfl,h1,h2,h1.low⟩)) (fun x=>?_)|refine callN (f:=69) (ι:={x:Nat×Nat // w.heap.size≤x.1}) (fun x=>.v (.pointer (some ⟨x.1.2,0,none⟩))) (fun x=>qO x.1.1 x.1.2 (Qu.btw c.qu 0 64) [] [x.1.2] true) (fun w1 hH=>(Qu.newT c.qu w1).mono (by rintro e w' ⟨q,rfl,h1,h2⟩; exact ⟨⟨(w1.heap.size,q),hH.upd.size⟩,rfl,h1,h2,h1.low⟩)) (fun y=>?_)|refine callN (f:=70) (ι:={x:Nat×Nat // w.heap.size≤x.1}) (fun x=>.v (.pointer (some ⟨x.1.2,0,none⟩))) (fun x=>tO x.1.1 x.1.2 c [] [x.1.2] true) (fun w1 hH=>(Le.newT c w1).mono (by rintro e w' ⟨q,rfl,h1,h2⟩; exact ⟨⟨(w1.heap.size,q),hH.upd.size⟩,rfl,h1,h2,h1.low⟩)) (fun z=>?_)|refine fin fun w' hH=>?_|refine fin_s ?_))
 have o0:=Hold.ob hH (A:=⟨x.1.2.2,true,GO x.1.1 x.1.2.1 (newG c) x.1.2.2,fun k h hs=>hs.upd k h,fun h=>h.lt⟩) 0 rfl
 have o1:=Hold.ob hH (A:=qO y.1.1 y.1.2 (Qu.btw c.qu 0 64) [] [y.1.2] true) 1 rfl
 have o2:=Hold.ob hH (A:=tO z.1.1 z.1.2 c [] [z.1.2] true) 2 rfl
 have d01:=pair_at (R:=DisR) (fun _ _ h=>h.symm) hH.dis (i:=0) (j:=1) rfl rfl (by decide) (.inl rfl)
 have d02:=pair_at (R:=DisR) (fun _ _ h=>h.symm) hH.dis (i:=0) (j:=2) rfl rfl (by decide) (.inl rfl)
 have d12:=pair_at (R:=DisR) (fun _ _ h=>h.symm) hH.dis (i:=1) (j:=2) rfl rfl (by decide) (.inl rfl)
 refine ⟨_,⟨x.1.2.1,y.1.2,z.1.2⟩,_,rfl,⟨?_,_,rfl, ?_,⟨x.1.2.2,[y.1.2],[z.1.2],rfl,GO.base o0 x.2,QO.base o1 y.2,TO.base o2 z.2,d01,d02,d12⟩⟩,hH.upd.since⟩
 ·rcases (hH.wf 1 _ rfl rfl).2.2 rfl with h | h
  ·cases h
  ·exact h
 ·have q:=hH.row 1 _ rfl rfl
  rw [rowA_nil rfl rfl] at q
  exact q
end
end Co
namespace Ct
open Go.RowKit Ba Mem Go.Proofs.YtepfmfalebmcnaaGreatDoor.Ty Do Mo Go.Proofs.YtepfmfalebmcnaaGreatDoor.St Sc Pl
def mayB (c:CfgV) (x:CarV):Bool:=goodB c x && decide ((x.mo=0∨x.mo=1)∧(lvB x.un=true∨¬ x.wy=0)∧(¬ x.mo=1∨(0≤x.ta∧x.ta < fl c.fl)))
theorem mayB_iff (c:CfgV) (x:CarV):mayB c x=true↔(goodB c x=true∧(x.mo=0∨x.mo=1)∧(lvB x.un=true∨¬ x.wy=0)∧(¬ x.mo=1∨(0≤x.ta∧x.ta < fl c.fl))):=by unfold mayB; simp
theorem step_un (c:CfgV) (x:CarV) (r:Int) (o k:Bool):((stepV c x r o k).un=x.un∧(stepV c x r o k).wy=x.wy)∨(x.br=false∧x.ds=0∧(stepV c x r o k).ds=0∧(r=1∨r=2)∧(stepV c x r o k).wy=r):=by
 show (un1 c x r o k=x.un∧wy1 c x r o k=x.wy)∨(x.br=false∧x.ds=0∧dS1 c x o k=0∧(r=1∨r=2)∧wy1 c x r o k=r)
 unfold un1 wy1
 by_cases g:goesB c x r o k=true
 ·rw [if_pos g,if_pos g]
  have g':=of_decide_eq_true (show decide _=true from g)
  exact .inr ⟨g'.1,g'.2.1,g'.2.2.1,g'.2.2.2,rfl⟩
 ·rw [if_neg g,if_neg g]
  exact .inl ⟨rfl,rfl⟩
theorem st_in (p u d f j:Int):stW p u d f j=0∨stW p u d f j=1∨stW p u d f j=2:=by
 unfold stW fst2; (repeat' split) <;> omega
theorem nx_in {p u d f way j:Int} (h:way=0∨way=1∨way=2):nxW p u d f way j=0∨nxW p u d f way j=1∨nxW p u d f way j=2:=by
 unfold nxW
 split
 ·exact st_in _ _ _ _ _
 ·unfold onW ot
  try unfold stW
  try unfold fst2
  (repeat' split) <;> omega
theorem dw_in (n:Int):1≤dwV n∧dwV n≤1000:=by unfold dwV m1; (repeat' split) <;> omega
theorem tk_same (c:CfgV) (x:CarV):(tkX c x).ds=x.ds∧(tkX c x).da=x.da∧(tkX c x).un=x.un∧(tkX c x).br=x.br∧(tkX c x).mo=x.mo∧(tkX c x).ta=x.ta∧(tkX c x).bl=x.bl∧(tkX c x).ho=x.ho:=by
 unfold tkX ldX goX stX svX
 (repeat' split) <;> exact ⟨rfl,rfl,rfl,rfl,rfl,rfl,rfl,rfl⟩
theorem tk_wy (c:CfgV) (x:CarV) (h:x.wy=0∨x.wy=1∨x.wy=2):((tkX c x).wy=0∨(tkX c x).wy=1∨(tkX c x).wy=2)∧(lvB x.un=false→x.ds=0∨(tkX c x).wy=x.wy)∧(lvB x.un=false→(tkX c x).wy=x.wy):=by
 have hn:=nx_in (p:=x.sp) (u:=x.su) (d:=x.sd) (f:=lvN x.un) (j:=x.ju) h
 refine ⟨?_, ?_, ?_⟩
 ·unfold tkX ldX goX stX svX nW
  (repeat' split) <;> first | exact h | exact hn
 ·intro hl
  unfold tkX ldX goX stX svX
  rw [hl]
  simp only [if_true]
  (repeat' split) <;> first | exact .inr rfl
 ·intro hl
  unfold tkX ldX goX stX svX
  rw [hl]
  simp only [if_true]
  (repeat' split) <;> rfl
theorem tk_ti (c:CfgV) (x:CarV) (n:Int) (h0 : -n≤x.ti) (hn:0≤n) (h1:x.ti≤2000) : -(n+1)≤(tkX c x).ti∧(tkX c x).ti≤2000:=by
 have hd:=dw_in c.dw
 unfold tkX ldX goX stX svX
 (repeat' split) <;> (first | omega | (simp only []; omega)|(dsimp only; omega))
theorem tk_R (c:CfgV) (x:CarV) (hp:R x.sp) (hu:R x.su) (hd:R x.sd):R (tkX c x).sp∧R (tkX c x).su∧R (tkX c x).sd:=by
 have cU:∀ f w,R (clU x.su f w):=fun f w=>by unfold clU; split; exact an_R hu (bit_R f); exact hu
 have cD:∀ f w,R (clD x.sd f w):=fun f w=>by unfold clD; split; exact an_R hd (bit_R f); exact hd
 unfold tkX ldX goX stX svX
 (repeat' split) <;> first | exact ⟨hp,hu,hd⟩|exact ⟨an_R hp (bit_R _),cU _ _,cD _ _⟩
theorem tk_may (c:CfgV) (x:CarV) (h:mayB c x=true):mayB c (tkV c x)=true:=by
 rw [mayB_iff] at h
 obtain ⟨hg,hm,hl,ht⟩:=h
 obtain ⟨e1,e2,e3,e4,e5,e6,e7,e8⟩:=tk_same c x
 have hg0:=(goodB_iff c x).1 hg
 have hw:=tk_wy c x hg0.2.2.2.1
 have hgX:goodB c (tkX c x)=true:=by
  rw [goodB_iff,e1,e2,e3]
  exact ⟨hg0.1,hg0.2.1,hg0.2.2.1,hw.1,hg0.2.2.2.2⟩
 have hgs:=good_step c (tkX c x) (tkR x) (tkO x) (tkK c x) hgX
 rw [mayB_iff]
 refine ⟨hgs, ?_, ?_, ?_⟩
 ·show (tkX c x).mo=0∨(tkX c x).mo=1
  rw [e5]; exact hm
 ·rcases step_un c (tkX c x) (tkR x) (tkO x) (tkK c x) with ⟨h1,h2⟩ | ⟨_,_,_,h4,h5⟩
  ·cases hq:lvB x.un with
   | true=>left; show lvB (stepV c _ _ _ _).un=true; rw [h1,e3]; exact hq
   | false =>
    right
    show ¬ (stepV c _ _ _ _).wy=0
    rw [h2,hw.2.2 hq]
    rcases hl with h | h
    ·rw [hq] at h; exact absurd h (by decide)
    ·exact h
  ·right; show ¬ (stepV c _ _ _ _).wy=0; rw [h5]; omega
 ·show ¬ (tkX c x).mo=1∨(0≤(tkX c x).ta∧(tkX c x).ta < fl c.fl)
  rw [e5,e6]; exact ht
theorem may_ta {c:CfgV} {x:CarV} (h:mayB c x=true) (hm:x.mo=1) : -1099511627776≤x.ta∧x.ta≤1099511627776:=by
 have h1:=((mayB_iff c x).1 h).2.2.2
 have:=fl_hi c.fl
 omega
theorem may_bd {c:CfgV} {x:CarV} (h:mayB c x=true):bdX x∧0≤x.un∧x.un≤252:=by
 have hb:=good_bd c x ((mayB_iff c x).1 h).1
 exact ⟨⟨⟨hb.1,hb.2.1⟩,by omega,by omega⟩,hb.2.2.1,hb.2.2.2⟩
end Ct
namespace Gr
open Go.RowKit Ba Mem Go.Proofs.YtepfmfalebmcnaaGreatDoor.Ty Mo Go.Proofs.YtepfmfalebmcnaaGreatDoor.St Pl Sc
open Ct (cfgA carA dwV bdX tkV tkF tkW tkS tkX goX goS goF goW svX ldX stX nW nO mayB mayB_iff tk_may tk_ti tk_R tk_same may_ta may_bd dw_in)
def givY (c:CfgV) (x:CarV):CarV:={ x with mo:=0,ta:=0,ho:=false,ju := -1,ti:=dwV c.dw,wy:=if lvB x.un=true then 0 else x.wy }
def SafeX (c:CfgV) (T:Nat) (x:CarV):Prop:=mayB c x=true∧(R x.sp∧R x.su∧R x.sd) ∧ -(T:Int)≤x.ti∧x.ti≤2000
section
variable {c:CfgV} {T:Nat} {x:CarV}
theorem SafeX.more {U:Nat} (h:SafeX c T x) (hU:T≤U):SafeX c U x:=⟨h.1,h.2.1,by have:=h.2.2.1; omega,h.2.2.2⟩
theorem SafeX.ok (h:SafeX c T x) (hT:T≤1000000):okT x:=by
 obtain ⟨h1,h2,h3,h4⟩:=h
 have hb:=may_bd h1
 have hw:=((goodB_iff c x).1 ((mayB_iff c x).1 h1).1).2.2.2.1
 exact ⟨hb.1,h2,fun hm=>may_ta h1 hm,by omega,hb.2,by omega⟩
theorem SafeX.load (h:SafeX c T x) (v:Int):SafeX c T { x with lo:=v }:=h
theorem SafeX.curt (h:SafeX c T x) (v:Bool):SafeX c T { x with bl:=v }:=h
theorem SafeX.br (h:SafeX c T x) (v:Bool):SafeX c T { x with br:=v }:=h
theorem SafeX.stops (h:SafeX c T x) {p u d:Int} (hr:R p∧R u∧R d):SafeX c T { x with sp:=p,su:=u,sd:=d }:=⟨h.1,hr,h.2.2⟩
theorem SafeX.press (h:SafeX c T x) (v:Int):SafeX c T (pressX v x):=by
 unfold pressX
 split
 ·exact h
 ·exact h.stops (p:=bits .or .u64 x.sp (bit v)) ⟨or_R h.2.1.1 (bit_R v),h.2.1.2⟩
theorem SafeX.flt (h:SafeX c T x):SafeX c T (fltX x):=(h.br true).stops ⟨R.zero,R.zero,R.zero⟩
theorem SafeX.take (h:SafeX c T x) {v:Int} (hf:hasF c v=true) (hi:idB x=true):SafeX c T { x with mo:=1,ta:=v,ho:=true }:=by
 obtain ⟨h1,h2⟩:=h
 refine ⟨?_,h2⟩
 rw [mayB_iff] at h1 ⊢
 unfold hasF at hf; unfold idB at hi
 have hf:=of_decide_eq_true hf
 have hi:=of_decide_eq_true hi
 exact ⟨h1.1,.inr rfl,.inl hi.2.2.1,.inr hf⟩
theorem SafeX.aim (h:SafeX c T x) {v:Int} {y:Bool} (hf:hasF c v=true):SafeX c T { x with ta:=v,ho:=y }:=by
 obtain ⟨h1,h2⟩:=h
 refine ⟨?_,h2⟩
 rw [mayB_iff] at h1 ⊢
 unfold hasF at hf
 have hf:=of_decide_eq_true hf
 exact ⟨h1.1,h1.2.1,h1.2.2.1,.inr hf⟩
theorem SafeX.giv (h:SafeX c T x):SafeX c T (givY c x):=by
 obtain ⟨h1,h2,h3,h4⟩:=h
 have hd:=dw_in c.dw
 refine ⟨?_,h2,by show _≤dwV c.dw; omega,by show dwV c.dw≤_; omega⟩
 rw [mayB_iff] at h1 ⊢
 obtain ⟨g,g2,g3,g4⟩:=h1
 rw [goodB_iff] at g
 have key:∀ wy:Int,(wy=0∨wy=1∨wy=2)→(lvB x.un=true∨¬ wy=0)→(goodB c { x with mo:=0,ta:=0,ho:=false,ju := -1,ti:=dwV c.dw,wy:=wy }=true∧((0:Int)=0∨(0:Int)=1)∧(lvB x.un=true∨¬ wy=0)∧(¬ (0:Int)=1∨(0≤(0:Int)∧(0:Int) < fl c.fl))):=fun wy h5 h6 =>
  ⟨(goodB_iff c _).2 ⟨g.1,g.2.1,g.2.2.1,h5,g.2.2.2.2⟩,.inl rfl,h6,.inl (by decide)⟩
 cases hl:lvB x.un
 ·have e:givY c x={ x with mo:=0,ta:=0,ho:=false,ju := -1,ti:=dwV c.dw }:=by unfold givY; rw [hl]; rfl
  rw [e]
  exact key x.wy g.2.2.2.1 g3
 ·have e:givY c x={ x with mo:=0,ta:=0,ho:=false,ju := -1,ti:=dwV c.dw,wy:=0 }:=by unfold givY; rw [hl]; rfl
  rw [e]
  exact key 0 (.inl rfl) (.inl hl)
theorem SafeX.hall (h:SafeX c T x) (a:WaitV):SafeX c T (hallX a x):=by
 refine h.stops (p:=x.sp) ⟨h.2.1.1, ?_, ?_⟩
 ·unfold haU; split
  ·exact or_R h.2.1.2.1 (bit_R _)
  ·exact h.2.1.2.1
 ·unfold haD; split
  ·exact or_R h.2.1.2.2 (bit_R _)
  ·exact h.2.1.2.2
theorem SafeX.tick (h:SafeX c T x):SafeX c (T+1) (tkV c x):=by
 obtain ⟨h1,h2,h3,h4⟩:=h
 have q:=tk_R c x h2.1 h2.2.1 h2.2.2
 have t:=tk_ti c x T h3 (by omega) h4
 exact ⟨tk_may c x h1,q,by have:=t.1; push_cast; exact this,t.2⟩
theorem SafeX.zero:SafeX c T zeroX:=by
 refine ⟨?_,⟨R.zero,R.zero,R.zero⟩,by show _≤(0:Int); omega,by show (0:Int)≤_; omega⟩
 rw [mayB_iff,goodB_iff]
 have:=fl_lo c.fl
 exact ⟨⟨by simp [zeroX,Do.gd],by decide,by show (0:Int)≤_; omega,.inl rfl,.inl rfl⟩,.inl rfl,.inl (by decide),.inl (by decide)⟩
end
section
variable {G:GrV} {i:Int} {f:CarV→CarV×Int}
theorem one_same:(one G i f).1.c=G.c∧(one G i f).1.waits=G.waits∧(one G i f).1.now=G.now∧(one G i f).1.cars.length=G.cars.length:=by
 unfold one; split
 ·exact ⟨rfl,rfl,rfl,by simp [GrV.car]⟩
 ·exact ⟨rfl,rfl,rfl,rfl⟩
theorem one_cars {P:CarV→Prop} (h:∀ x∈G.cars,P x) (hf:∀ x∈G.cars,P x→P (f x).1):∀ x∈(one G i f).1.cars,P x:=by
 unfold one; split
 ·rename_i hk
  intro x hx
  rcases List.mem_or_eq_of_mem_set hx with h1 | h1
  ·exact h x h1
  ·rw [h1]; exact hf _ (List.getElem_mem hk.2) (h _ (List.getElem_mem hk.2))
 ·exact h
theorem one_at {k:Nat} {x:CarV} (h:G.cars[k]?=some x):(one G i f).1.cars[k]?=some (if (k:Int)=i then (f x).1 else x):=by
 obtain ⟨hk,rfl⟩:=List.getElem?_eq_some_iff.1 h
 unfold one
 by_cases hi:(k:Int)=i
 ·rw [if_pos hi,dif_pos (by omega)]
  have e:i.toNat=k:=by omega
  simp only [GrV.car]
  rw [List.getElem?_set]
  simp [e,hk]
 ·rw [if_neg hi]
  split
  ·simp only [GrV.car]
   rw [List.getElem?_set,if_neg (by omega)]
   exact h
  ·exact h
end
def doR (G:GrV) (k a b:Int) (y:Bool):GrV×Int :=
 if k=1 then hallR G a b else if k=2 then pressR G a b else if k=3 then loadR G a b else if k=4 then curtR G a y else if k=5 then faultR G a y else if k=6 then takeR G a b else if k=7 then aimR G a b y else if k=8 then giveR G a else (G,0)
def GI (c:CfgV) (n T:Nat) (G:GrV):Prop:=G.c=c∧G.cars.length=ncars c∧(∀ x∈G.cars,SafeX c T x)∧(∀ a∈G.waits,okW a)∧G.waits.length≤n
theorem GI.zero (c:CfgV):GI c 0 0 (newG c):=by
 refine ⟨rfl,by simp [newG],fun x hx=>?_,fun a ha=>by simp [newG] at ha,Nat.le_refl _⟩
 have:=List.eq_of_mem_replicate (show x∈List.replicate (ncars c) zeroX from hx)
 rw [this]; exact SafeX.zero
theorem hasC_ok {c:CfgV} {f wy:Int} (h:hasC c f wy=true):(0≤f∧f≤63)∧1≤wy∧wy≤2:=by
 have key:∀ v,hasF c v=true→0≤v∧v≤63:=fun v h=>by
  have:=of_decide_eq_true (show decide _=true from h)
  have:=fl_hi c.fl
  omega
 unfold hasC at h
 split at h
 ·simp only [Bool.and_eq_true] at h; have:=key _ h.1; omega
 ·split at h
  ·simp only [Bool.and_eq_true] at h; have:=key _ h.1; omega
  ·cases h
section
variable {c:CfgV} {n T:Nat} {G:GrV}
theorem GI.more {m:Nat} (h:GI c n T G) (hm:n≤m):GI c m T G:=⟨h.1,h.2.1,h.2.2.1,h.2.2.2.1,Nat.le_trans h.2.2.2.2 hm⟩
theorem GI.one (h:GI c n T G) (i:Int) (f:CarV→CarV×Int) (hf:∀ x∈G.cars,SafeX c T x→SafeX c T (f x).1):GI c n T (one G i f).1:=by
 obtain ⟨h1,h2,h3,h4,h5⟩:=h
 have e:=one_same (G:=G) (i:=i) (f:=f)
 exact ⟨e.1.trans h1,e.2.2.2.trans h2,one_cars h3 hf,by rw [e.2.1]; exact h4,by rw [e.2.1]; exact h5⟩
theorem GI.do_ (h:GI c n T G) (k a b:Int) (y:Bool):GI c (n+1) T (doR G k a b y).1:=by
 have hn:=h.more (Nat.le_succ n)
 unfold doR
 split
 ·unfold hallR
  split
  ·rename_i hc
   split
   ·obtain ⟨h1,h2,h3,h4,h5⟩:=h
    refine ⟨h1,h2,h3,fun z hz=>?_,by simp; omega⟩
    rcases List.mem_append.1 hz with hz | hz
    ·exact h4 z hz
    ·rw [List.mem_singleton.1 hz]; exact hasC_ok hc
   ·exact hn
  ·exact hn
 split
 ·unfold pressR; split
  ·exact hn.one _ _ fun x _ hx=>hx.press b
  ·exact hn
 split
 ·exact hn.one _ _ fun x _ hx=>hx.load b
 split
 ·exact hn.one _ _ fun x _ hx=>hx.curt y
 split
 ·unfold faultR
  split
  ·split
   ·have q:=hn.one a (fun x=>(fltX x,0)) fun x _ hx=>hx.flt
    refine ⟨q.1,q.2.1,q.2.2.1,fun z hz=>?_,by simpa using hn.2.2.2.2⟩
    obtain ⟨u,hu,rfl⟩:=List.mem_map.1 hz
    have:=hn.2.2.2.1 u hu
    unfold disW; split <;> exact this
   ·exact hn
  ·exact hn.one _ _ fun x _ hx=>hx.br false
 split
 ·unfold takeR; split
  ·rename_i hf
   refine hn.one _ _ fun x _ hx=>?_
   show SafeX c T (takeX b x)
   unfold takeX
   by_cases hi:idB x=true
   ·rw [if_pos hi]; exact hx.take (h.1 ▸ hf) hi
   ·rw [if_neg hi]; exact hx
  ·exact hn
 split
 ·unfold aimR; split
  ·rename_i hf
   refine hn.one _ _ fun x _ hx=>?_
   show SafeX c T (aimX b y x)
   unfold aimX
   by_cases hi:x.mo=1
   ·rw [if_pos hi]; exact hx.aim (h.1 ▸ hf)
   ·rw [if_neg hi]; exact hx
  ·exact hn
 split
 ·unfold giveR
  refine hn.one _ _ fun x _ hx=>?_
  show SafeX c T (givX G.c x)
  unfold givX
  by_cases hi:x.mo=1
  ·rw [if_pos hi,h.1]; exact hx.giv
  ·rw [if_neg hi]; exact hx
 ·exact hn
end
def Near (x y:CarV):Prop:=y={ x with su:=y.su,sd:=y.sd }
theorem Near.refl (x:CarV):Near x x:=rfl
theorem Near.hall {x y:CarV} (h:Near x y) (a:WaitV):Near x (hallX a y):=by unfold Near at h ⊢; rw [h]; rfl
theorem giveC_at {cs:List CarV} {a:WaitV} {b:Int} {k:Nat} {x:CarV} (h:cs[k]?=some x):(giveC cs a b)[k]?=some (if (k:Int)=b then hallX a x else x):=by
 unfold giveC
 split
 ·rw [List.getElem?_modify,h]
  by_cases e:(k:Int)=b
  ·rw [if_pos e]
   show some (if b.toNat=k then hallX a x else x)=_
   rw [if_pos (by omega)]
  ·rw [if_neg e]
   show some (if b.toNat=k then hallX a x else x)=_
   rw [if_neg (by omega)]
 ·rw [if_neg (by omega)]; exact h
theorem asgS_at {c:CfgV} {p:List WaitV×List CarV} {i k:Nat} {x:CarV} (h:p.2[k]?=some x):∃ y,(asgStep c p i).2[k]?=some y∧(y=x∨∃ a,y=hallX a x):=by
 unfold asgStep
 split
 ·exact ⟨x,h,.inl rfl⟩
 ·split
  ·refine ⟨_,giveC_at h, ?_⟩
   split
   ·exact .inr ⟨_,rfl⟩
   ·exact .inl rfl
  ·exact ⟨x,h,.inl rfl⟩
theorem asg_at {c:CfgV} {ws:List WaitV} {cs:List CarV} {k:Nat} {x:CarV} (h:cs[k]?=some x):∀ i,∃ y,(asgN c ws cs i).2[k]?=some y∧Near x y
 | 0=>⟨x,h,Near.refl x⟩
 | i+1=>by
  obtain ⟨y,h1,h2⟩:=asg_at h i
  obtain ⟨z,h3,h4⟩:=asgS_at (c:=c) (i:=i) h1
  rcases h4 with rfl | ⟨a,rfl⟩
  ·exact ⟨_,h3,h2⟩
  ·exact ⟨_,h3,h2.hall a⟩
theorem asg_safe {c:CfgV} {T:Nat} {ws:List WaitV} {cs:List CarV} (h:∀ x∈cs,SafeX c T x):∀ i,∀ x∈(asgN c ws cs i).2,SafeX c T x
 | 0=>h
 | i+1=>by
  have ih:=asg_safe (c:=c) (ws:=ws) h i
  show ∀ x∈(asgStep c _ i).2,_
  unfold asgStep
  split
  ·exact ih
  ·split
   ·intro x hx
    unfold giveC at hx
    split at hx
    ·obtain ⟨j,hj,rfl⟩:=List.mem_iff_getElem.1 hx
     rw [List.getElem_modify]
     split
     ·exact (ih _ (List.getElem_mem _)).hall _
     ·exact ih _ (List.getElem_mem _)
    ·exact ih x hx
   ·exact ih
theorem tk_on (c:CfgV) (cs:List CarV) (ws:List WaitV) {k:Nat} {x:CarV} (h:cs[k]?=some x):∀ i,(tkN c cs ws i).1[k]?=some (if k < i then tkV c x else x)
 | 0=>by rw [if_neg (by omega)]; exact h
 | i+1=>by
  have ih:=tk_on c cs ws h i
  by_cases e:i=k
  ·subst e
   rw [if_neg (by omega)] at ih
   rw [if_pos (by omega)]
   show (tkStep c _ i).1[i]?=_
   have hi:i < (tkN c cs ws i).1.length:=(List.getElem?_eq_some_iff.1 ih).1
   unfold tkStep
   rw [ih]
   simp only []
   split <;> simp [List.getElem?_set,hi]
  ·rw [show (tkN c cs ws (i+1)).1[k]?=(tkN c cs ws i).1[k]? from tkS_at c _ i k e,ih]
   by_cases h2:k < i
   ·rw [if_pos h2,if_pos (by omega)]
   ·rw [if_neg h2,if_neg (by omega)]
theorem tkN_sub (c:CfgV) (cs:List CarV) (ws:List WaitV):∀ i,((tkN c cs ws i).2.1).Sublist ws
 | 0=>List.Sublist.refl _
 | i+1=>by
  refine List.Sublist.trans ?_ (tkN_sub c cs ws i)
  show ((tkStep c _ i).2.1).Sublist _
  unfold tkStep
  split
  ·exact List.Sublist.refl _
  ·split
   ·exact List.Sublist.refl _
   ·exact List.eraseIdx_sublist _ _
theorem tick_at {G:GrV} {k:Nat} {x:CarV} (h:G.cars[k]?=some x):∃ y,(asgN G.c G.waits G.cars G.waits.length).2[k]?=some y∧Near x y∧(tickG G).cars[k]?=some (tkV G.c y):=by
 obtain ⟨y,h1,h2⟩:=asg_at (c:=G.c) (ws:=G.waits) h G.waits.length
 refine ⟨y,h1,h2, ?_⟩
 have q:=tk_on G.c _ (asgN G.c G.waits G.cars G.waits.length).1 h1 G.cars.length
 rw [if_pos (List.getElem?_eq_some_iff.1 h).1] at q
 exact q
theorem tick_len (G:GrV):(tickG G).cars.length=G.cars.length:=(tk_len _ _ _ _).trans (asg_len _ _ _ _).2
theorem GI.tick {c:CfgV} {n T:Nat} {G:GrV} (h:GI c n T G):GI c n (T+1) (tickG G):=by
 obtain ⟨h1,h2,h3,h4,h5⟩:=h
 have ha:=asg_safe (c:=G.c) (ws:=G.waits) (h1 ▸ h3) G.waits.length
 have hw:=tkN_sub G.c (asgN G.c G.waits G.cars G.waits.length).2 (asgN G.c G.waits G.cars G.waits.length).1 G.cars.length
 have hl:=(asg_len G.c G.waits G.cars G.waits.length).1
 refine ⟨h1,(tick_len G).trans h2,fun z hz=>?_,fun a haw=>?_,Nat.le_trans hw.length_le (by omega)⟩
 ·obtain ⟨k,hk,rfl⟩:=List.mem_iff_getElem.1 hz
  have hk2:k < G.cars.length:=by rw [← tick_len G]; exact hk
  obtain ⟨y,g1,_,g3⟩:=tick_at (List.getElem?_eq_getElem hk2)
  have e:(tickG G).cars[k]=tkV G.c y:=Option.some.inj ((List.getElem?_eq_getElem hk).symm.trans g3)
  rw [e,← h1]
  have:=(ha y (List.mem_of_getElem? g1)).tick
  rw [h1] at this ⊢; exact this
 ·have key:∀ i,∀ b∈(asgN G.c G.waits G.cars i).1,okW b:=by
   intro i
   induction i with
   | zero=>exact h4
   | succ i ih =>
    show ∀ b∈(asgStep G.c _ i).1,okW b
    unfold asgStep
    split
    ·exact ih
    ·rename_i z hz
     split
     ·intro b hb
      rcases List.mem_or_eq_of_mem_set hb with h | h
      ·exact ih b h
      ·rw [h]; exact ih z (List.mem_of_getElem? hz)
     ·exact ih
  exact key _ a (hw.subset haw)
end Gr
namespace Gr
open Go.RowKit Ba Mem Go.Proofs.YtepfmfalebmcnaaGreatDoor.Ty Mo Go.Proofs.YtepfmfalebmcnaaGreatDoor.St
section
variable {c:CfgV} {n T:Nat} {G:GrV}
theorem GI.give (h:GI c n T G) (i:Int):GI c n T (giveR G i).1:=by
 unfold giveR
 refine h.one _ _ fun x _ hx=>?_
 show SafeX c T (givX G.c x)
 unfold givX
 by_cases hi:x.mo=1
 ·rw [if_pos hi,h.1]; exact hx.giv
 ·rw [if_neg hi]; exact hx
theorem GI.aim (h:GI c n T G) (i b:Int) (y:Bool):GI c n T (aimR G i b y).1:=by
 unfold aimR; split
 ·rename_i hf
  refine h.one _ _ fun x _ hx=>?_
  show SafeX c T (aimX b y x)
  unfold aimX
  by_cases hi:x.mo=1
  ·rw [if_pos hi]; exact hx.aim (h.1 ▸ hf)
  ·rw [if_neg hi]; exact hx
 ·exact h
theorem GI.take (h:GI c n T G) (i b:Int):GI c n T (takeR G i b).1:=by
 unfold takeR; split
 ·rename_i hf
  refine h.one _ _ fun x _ hx=>?_
  show SafeX c T (takeX b x)
  unfold takeX
  by_cases hi:idB x=true
  ·rw [if_pos hi]; exact hx.take (h.1 ▸ hf) hi
  ·rw [if_neg hi]; exact hx
 ·exact h
theorem GI.load (h:GI c n T G) (i v:Int):GI c n T (loadR G i v).1:=h.one _ _ fun _ _ hx=>hx.load v
theorem one_w (i:Int) (f:CarV→CarV×Int):(one G i f).1.waits=G.waits∧(one G i f).1.now=G.now∧(one G i f).1.cars.length=G.cars.length:=(one_same (G:=G) (i:=i) (f:=f)).2
theorem give_w (i:Int):(giveR G i).1.waits=G.waits∧(giveR G i).1.now=G.now:=⟨(one_w _ _).1,(one_w _ _).2.1⟩
theorem aim_w (i b:Int) (y:Bool):(aimR G i b y).1.waits=G.waits∧(aimR G i b y).1.now=G.now:=by
 unfold aimR; split
 ·exact ⟨(one_w _ _).1,(one_w _ _).2.1⟩
 ·exact ⟨rfl,rfl⟩
theorem take_w (i b:Int):(takeR G i b).1.waits=G.waits∧(takeR G i b).1.now=G.now:=by
 unfold takeR; split
 ·exact ⟨(one_w _ _).1,(one_w _ _).2.1⟩
 ·exact ⟨rfl,rfl⟩
theorem load_w (i v:Int):(loadR G i v).1.waits=G.waits∧(loadR G i v).1.now=G.now:=⟨(one_w _ _).1,(one_w _ _).2.1⟩
end
def SameW (a b:WaitV):Prop:=b.fl=a.fl∧b.wy=a.wy∧b.si=a.si
theorem asg_same (c:CfgV) (ws:List WaitV) (cs:List CarV):∀ i,∀ b∈(asgN c ws cs i).1,∃ a∈ws,SameW a b
 | 0=>fun b hb=>⟨b,hb,rfl,rfl,rfl⟩
 | i+1=>by
  have ih:=asg_same c ws cs i
  show ∀ b∈(asgStep c _ i).1,_
  unfold asgStep
  split
  ·exact ih
  ·rename_i z hz
   split
   ·intro b hb
    rcases List.mem_or_eq_of_mem_set hb with h | h
    ·exact ih b h
    ·obtain ⟨a,h1,h2⟩:=ih z (List.mem_of_getElem? hz)
     exact ⟨a,h1,by rw [h]; exact h2⟩
   ·exact ih
theorem tick_same {G:GrV}:∀ b∈(tickG G).waits,∃ a∈G.waits,SameW a b:=fun b hb =>
 asg_same G.c G.waits G.cars G.waits.length b ((tkN_sub _ _ _ _).subset hb)
end Gr
namespace Co
open Go.RowKit Ba Mem En Go.Proofs.YtepfmfalebmcnaaGreatDoor.Ty Mo Go.Proofs.YtepfmfalebmcnaaGreatDoor.St
open Gr (GrV newG okT okW GI ncars ncars_bd tickG giveR aimR takeR loadR)
open Qu (dropL atS btw firstA atF)
open Le (hasL ofL setL setE endL zeroL atP isS isT)
open Fl (mayB belB)
open Ri (MsgV tickV hearV)
open Tm (cl cl_lo cl_hi)
structure KI (c:CfgV) (n T m:Nat) (K:KV):Prop where
 g:GI c n T K.G
 s:∀ a∈K.G.waits,0≤a.si∧a.si≤1099511627776
 now:0≤K.G.now∧K.G.now≤1099511627776
 lq:K.Q.length≤64
 okq:∀ a∈K.Q,mayB c a=true
 ll:K.L.length≤m
 okl:∀ l∈K.L,0≤l.ca∧l.ca < (ncars c:Int)
theorem may_fm {c:CfgV} {a:AskV} (h:mayB c a=true):(0≤a.fm∧a.fm < fl c.fl)∧(0≤a.to∧a.to < fl c.fl):=by
 unfold mayB belB at h
 simp only [Bool.and_eq_true,decide_eq_true_eq] at h
 exact ⟨h.1.1.1.1.2,h.1.1.1.2⟩
theorem has_mem {ls:List LeaseV} {s:Int} (h:hasL ls s=true):ofL ls s∈ls∧(ofL ls s).se=s:=by
 unfold hasL at h
 cases hk:atP ls (isS s) with
 | none=>rw [hk] at h; cases h
 | some k =>
  obtain ⟨hl,h1,_⟩:=Le.atP_some hk
  have e:ofL ls s=ls[k]:=by unfold ofL Le.atV; rw [hk]; simp [List.getD,hl]
  have:=h1 hl
  rw [e]
  exact ⟨List.getElem_mem hl,by simpa [isS] using this⟩
theorem end_sub (ls:List LeaseV) (s:Int):(endL ls s).Sublist ls:=by
 unfold endL; split
 ·exact List.eraseIdx_sublist _ _
 ·exact List.Sublist.refl _
theorem set_len (c:CfgV) (ls:List LeaseV) (x:LeaseV):(setL c ls x).length=ls.length:=by
 unfold setL; split
 ·split <;> simp
 ·rfl
theorem set_mem {c:CfgV} {ls:List LeaseV} {x y:LeaseV} (h:y∈setL c ls x):y∈ls∨y=x:=by
 unfold setL at h; split at h
 ·split at h
  ·exact List.mem_or_eq_of_mem_set h
  ·exact .inl h
 ·exact .inl h
theorem drop_sub (ls:List AskV) (s:Int):(dropL ls s).Sublist ls:=by
 unfold dropL; split
 ·exact List.eraseIdx_sublist _ _
 ·exact List.Sublist.refl _
theorem tickV_ca (c:CfgV) (l:LeaseV) (x:CarV) (now:Int):(tickV c l x now).1.ca=l.ca∧(tickV c l x now).1.se=l.se:=by
 unfold tickV; (repeat' split) <;> exact ⟨rfl,rfl⟩
theorem hearV_ca (c:CfgV) (l:LeaseV) (x:CarV) (now:Int) (m:MsgV):(hearV c l x now m).1.ca=l.ca∧(hearV c l x now m).1.se=l.se:=by
 unfold hearV; (repeat' split) <;> exact ⟨rfl,rfl⟩
section
variable {c:CfgV} {n T m:Nat} {K:KV}
theorem KI.len (h:KI c n T m K):K.G.cars.length=ncars c:=h.g.2.1
theorem KI.inc (h:KI c n T m K) {l:LeaseV} (hl:0≤l.ca∧l.ca < (ncars c:Int)):inC K l:=by unfold inC; rw [h.len]; exact hl
theorem KI.kh (h:KI c n T m K) (hn:n≤10000) (hT:T≤1000000) (hm:m≤10000):KH K:=by
 have hb:=ncars_bd c
 refine ⟨fun x hx=>(h.g.2.2.1 x hx).ok hT,h.g.2.2.2.1,h.s,h.now,by rw [h.len]; omega,by rw [h.len]; omega,by have:=h.g.2.2.2.2; omega,by have:=h.lq; omega,fun a ha=>?_,by have:=h.ll; omega,fun l hl=>h.inc (h.okl l hl)⟩
 have:=(may_fm (h.okq a ha)).1
 have:=fl_hi c.fl
 omega
theorem KI.new (c:CfgV):KI c 0 0 0 (newK c) :=
 ⟨GI.zero c,(by intro a ha; simp [newK,newG] at ha),(by show (0:Int)≤0∧(0:Int)≤_; omega),by simp [newK],(by intro a ha; simp [newK] at ha),by simp [newK],(by intro a ha; simp [newK] at ha)⟩
theorem KI.more {n' T' m':Nat} (h:KI c n T m K) (h1:n≤n') (h2:T≤T') (h3:m≤m'):KI c n' T' m' K :=
 ⟨⟨h.g.1,h.g.2.1,fun x hx=>(h.g.2.2.1 x hx).more h2,h.g.2.2.2.1,Nat.le_trans h.g.2.2.2.2 h1⟩,h.s,h.now,h.lq,h.okq,Nat.le_trans h.ll h3,h.okl⟩
theorem put_mem {r:Int} {ls:List AskV} {a b:AskV} (h:b∈Qu.putL r ls a):b∈ls∨b=a:=by
 unfold Qu.putL at h; split at h
 ·rcases List.mem_append.1 h with h | h
  ·exact .inl h
  ·exact .inr (List.mem_singleton.1 h)
 ·exact .inl h
theorem put_len {r:Int} {ls:List AskV} {a:AskV} (hr:r≤64) (hl:ls.length≤64):(Qu.putL r ls a).length≤64:=by
 unfold Qu.putL; split
 ·rename_i h
  unfold Qu.putE at h
  split at h
  ·cases h
  ·split at h
   ·cases h
   ·rw [List.length_append]; simp; omega
 ·exact hl
theorem room_le (K:KV):room K≤64:=by unfold room btw; repeat' split <;> omega
theorem KI.ans (h:KI c n T m K) (a:AskV):KI c n T m (ansK K a):=by
 unfold ansK ansQ
 refine ⟨h.g,h.s,h.now, ?_, ?_,h.ll,h.okl⟩
 ·show (if _ then _ else _:List AskV).length≤64
  split
  ·split
   ·exact h.lq
   ·exact put_len (room_le K) h.lq
  ·exact h.lq
 ·intro b hb
  change b∈(if _ then _ else _:List AskV) at hb
  split at hb
  ·rename_i hm
   split at hb
   ·exact h.okq b hb
   ·rcases put_mem hb with hb | rfl
    ·exact h.okq b hb
    ·rw [← h.g.1]; exact hm
  ·exact h.okq b hb
theorem KI.end_ (h:KI c n T m K) (s:Int):KI c n T m (endK K s):=by
 unfold endK; split
 ·refine ⟨h.g.give _,by rw [(Gr.give_w _).1]; exact h.s,by rw [(Gr.give_w _).2]; exact h.now,h.lq,h.okq,Nat.le_trans (end_sub _ _).length_le h.ll,fun l hl=>h.okl l ((end_sub _ _).subset hl)⟩
 ·exact h
theorem KI.set (h:KI c n T m K) (l:LeaseV) (o:Bool) (hl:0≤l.ca∧l.ca < (ncars c:Int)):KI c n T m (setK K l o):=by
 unfold setK; split
 ·exact h.end_ _
 ·refine ⟨h.g.aim _ _ _,by rw [(Gr.aim_w _ _ _).1]; exact h.s,by rw [(Gr.aim_w _ _ _).2]; exact h.now,h.lq,h.okq,by show (setL _ _ _).length≤m; rw [set_len]; exact h.ll,fun y hy=>?_⟩
  rcases set_mem hy with hy | rfl
  ·exact h.okl y hy
  ·exact hl
theorem KI.hear (h:KI c n T m K) (s:Int) (x:MsgV):KI c n T m (hearK K s x):=by
 unfold hearK; split
 ·rename_i hL
  refine h.set _ _ ?_
  unfold hearR
  rw [(hearV_ca _ _ _ _ _).1]
  exact h.okl _ (has_mem hL).1
 ·exact h
theorem KI.gone (h:KI c n T m K) (s:Int):KI c n T m (goneK K s):=by
 have q:=h.end_ s
 exact ⟨q.g,q.s,q.now,Nat.le_trans (drop_sub _ _).length_le h.lq,fun a ha=>h.okq a ((drop_sub _ _).subset ha),q.ll,q.okl⟩
theorem KI.tk1 (h:KI c n T m K):KI c n (T+1) m (tkK1 K):=by
 refine ⟨h.g.tick,fun b hb=>?_,⟨cl_lo _,cl_hi _⟩,h.lq,h.okq,h.ll,h.okl⟩
 obtain ⟨a,ha,h1,h2,h3⟩:=Gr.tick_same b hb
 rw [h3]; exact h.s a ha
theorem fold_inv {K0:KV} (ls:List LeaseV) (hls:∀ l∈ls,0≤l.ca∧l.ca < (ncars c:Int)):∀ x:KV×List EvV,KI c n T m x.1→KI c n T m (ls.foldl stepK x).1:=by
 induction ls with
 | nil=>intro x h; exact h
 | cons l r ih =>
  intro x h
  rw [List.foldl_cons]
  refine ih (fun l hl=>hls l (List.mem_cons_of_mem _ hl)) _ ?_
  unfold stepK stepR
  refine h.set _ _ ?_
  rw [(tickV_ca _ _ _ _).1]
  exact hls l (List.mem_cons_self ..)
theorem fold_ev (ls:List LeaseV):∀ x:KV×List EvV,(ls.foldl stepK x).2.length≤x.2.length+ls.length:=by
 induction ls with
 | nil=>intro x; simp
 | cons l r ih =>
  intro x
  rw [List.foldl_cons]
  have h1:=ih (stepK x l)
  have h2:(stepK x l).2.length≤x.2.length+1:=by
   unfold stepK evs
   rw [List.length_append,List.length_map]
   have:(stepR x.1 l).2.1.toList.length≤1:=by cases (stepR x.1 l).2.1 <;> simp
   show x.2.length+(stepR x.1 l).2.1.toList.length≤_
   omega
  rw [List.length_cons]
  omega
theorem KI.fold (h:KI c n T m K) (k:Nat):KI c n (T+1) m (foldK K k).1 :=
 fold_inv (K0:=K) _ (fun l hl=>h.okl l (List.mem_of_mem_take hl)) _ h.tk1
theorem KI.grant (h:KI c n T m K):KI c n T (m+1) (grantK K):=by
 unfold grantK; split
 ·exact h.more (Nat.le_refl _) (Nat.le_refl _) (Nat.le_succ _)
 ·rename_i a ha
  unfold grK
  refine ⟨h.g.take _ _,by rw [(Gr.take_w _ _).1]; exact h.s,by rw [(Gr.take_w _ _).2]; exact h.now,Nat.le_trans (drop_sub _ _).length_le h.lq,fun b hb=>h.okq b ((drop_sub _ _).subset hb), ?_,fun y hy=>?_⟩
  ·show (Le.putL _ _ _).length≤m+1
   unfold Le.putL; split
   ·rw [List.length_append]; have:=h.ll; simp; omega
   ·have:=h.ll; omega
  ·change y∈Le.putL _ _ _ at hy
   unfold Le.putL at hy; split at hy
   ·rename_i he
    rcases List.mem_append.1 hy with hy | hy
    ·exact h.okl y hy
    ·rw [List.mem_singleton.1 hy]
     unfold grA at ha
     split at ha
     ·cases ha
     ·split at ha
      ·split at ha
       ·cases ha
       ·rename_i hn
        have:=Option.some.inj ha
        subst this
        have hb:∀ k,(nrL (firstA K.Q (fullL K 8)).fm K.G.cars k).1 < (K.G.cars.length:Int):=by
         intro k
         induction k with
         | zero=>have:=h.len; have:=ncars_bd c; show (-1:Int) < _; omega
         | succ k ih =>
          unfold nrL
          split
          ·exact ih
          ·rename_i x hx
           have:=(List.getElem?_eq_some_iff.1 hx).1
           split
           ·show (k:Int) < _; omega
           ·exact ih
        have:=hb K.G.cars.length
        rw [h.len] at this
        show 0≤nearI K _∧nearI K _ < _
        unfold nearI at hn ⊢
        rw [h.len] at hn ⊢
        omega
      ·cases ha
   ·exact h.okl y hy
theorem KI.tick (h:KI c n T m K):KI c n (T+1) (m+1) (tickK K):=(h.fold _).grant
theorem KI.kt (h:KI c n T m K) (hn:n≤10000) (hT:T < 1000000) (hm:m≤10000):KT K :=
 ⟨h.kh hn (by omega) hm,fun k _=>(h.fold k).kh hn (by omega) hm,fun k l hl _=>(h.fold k).inc (h.okl l hl),fun k hk=>by
  have:=fold_ev (K.L.take k) (tkK1 K,[])
  rw [List.length_take] at this
  simp at this
  unfold foldK
  omega⟩
end
end Co
namespace En
open Go.RowKit Ba Mem
theorem fv_run {X:Cx} (hX:X.Ok) {m:List Row} {fr:List (Nat×SV)} {o:Oper} {t:TypeId} {x:Operand} {k:Nat} {ad:Addr} {y:Ty} {q:Nat×Nat×Bool} (ho:o.op=.fieldAddr t x k) (hx:evO x fr=some (.v (.pointer (some ad)))) (hy:tyO t X.tab=some y) (hq:y.flds[k]?=some q) (a:Act) (hf:FrOk m a.tmps fr) (w:World) :
  (execOp a.eval o).run X.P w=.ok (.value (.pointer (some (ad.add q.1)))) w:=by
 obtain ⟨d,i,T⟩:=(hX.tab _ _ hy).out
 obtain ⟨fs,rfl,hfc⟩:=T.st k q hq
 obtain ⟨f,i2,d2,f1,f2,f3,f4,f5,f6,f7,f8⟩:=(fld_of hfc).2 k q hq
 have f1':fs[k]?=some f:=by simpa using f1
 have h2:=(evO_of hf hx).2
 unfold execOp
 simp only [ho,h2,den,Instr.fieldAt,Instr.sureAddr,Sem.run_bind,run_underlying T.un,Result.andThen_ok,Sem.run_pure,f1',fieldPlace,sizeOf,typeInfo]
 simp only [run_program,f3,Result.andThen_ok,Sem.run_pure,f5,if_neg f6,f2]
theorem opfv {X:Cx} {s:St} (hX:X.Ok) {o:Oper} {K:St→Prop} {t:TypeId} {x:Operand} {k:Nat} {ad:Addr} {y:Ty} {q:Nat×Nat×Bool} (ho:o.op=.fieldAddr t x k) (hx:evO x s.fr=some (.v (.pointer (some ad)))) (hy:tyO t X.tab=some y) (hq:y.flds[k]?=some q) (h:put X.n o.dst (.v (.pointer (some (ad.add q.1)))) s K):OpVC X o s K :=
 opq (.v (.pointer (some (ad.add q.1)))) (fun a w hf _=>fv_run hX ho hx hy hq a hf w) h rfl
theorem pufv {X:Cx} {s:St} (hX:X.Ok) {o:Oper} {K:SV→Prop} {t:TypeId} {x:Operand} {k:Nat} {ad:Addr} {y:Ty} {q:Nat×Nat×Bool} (ho:o.op=.fieldAddr t x k) (hx:evO x s.fr=some (.v (.pointer (some ad)))) (hy:tyO t X.tab=some y) (hq:y.flds[k]?=some q) (h:K (.v (.pointer (some (ad.add q.1))))):PuVC X o s K :=
 ⟨⟨.v (.pointer (some (ad.add q.1))),rfl,fun a hf w=>fv_run hX ho hx hy hq a hf w,h⟩⟩
end En
namespace Co
open Go.RowKit Ba Mem En Go.Proofs.YtepfmfalebmcnaaGreatDoor.Ty Mo Go.Proofs.YtepfmfalebmcnaaGreatDoor.St
open Gr (GrV GO CarsAt WaitsAt newG okT okW waitsO tickP)
open Qu (QO askE qO)
open Le (TO tO)
open Fl (leaE)
open Ri (MsgV msgC)
set_option maxRecDepth 100000
attribute [local irreducible] Go.Calls
def cA:CfgV:=⟨2,5,2,4,2,3,9,1,30,2,1,300,5,0,0,0,0,0⟩
attribute [local irreducible] newK ansK tickK tickE ansM tickP
end Co
section
open En
theorem fv_ {X:Cx} {s:St} {o:Oper} {K:St→Prop} {t:TypeId} {x:Operand} {k:Nat} {ad:Addr} {y:En.Ty} {q:Nat×Nat×Bool} (h:put X.n o.dst (.v (.pointer (some (ad.add q.1)))) s K) (hX:X.Ok:=by exact ⟨En.tab_ok⟩) (ho:o.op=.fieldAddr t x k:=by rfl) (hx:evO x s.fr=some (.v (.pointer (some ad))):=by rfl) (hy:tyO t X.tab=some y:=by rfl) (hq:y.flds[k]?=some q:=by rfl):OpVC X o s K:=opfv hX ho hx hy hq h
theorem uf_ {X:Cx} {s:St} {o:Oper} {K:SV→Prop} {t:TypeId} {x:Operand} {k:Nat} {ad:Addr} {y:En.Ty} {q:Nat×Nat×Bool} (h:K (.v (.pointer (some (ad.add q.1))))) (hX:X.Ok:=by exact ⟨En.tab_ok⟩) (ho:o.op=.fieldAddr t x k:=by rfl) (hx:evO x s.fr=some (.v (.pointer (some ad))):=by rfl) (hy:tyO t X.tab=some y:=by rfl) (hq:y.flds[k]?=some q:=by rfl):PuVC X o s K:=pufv hX ho hx hy hq h
end
end Go.Proofs.YtepfmfalebmcnaaGreatDoor
