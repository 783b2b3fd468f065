/-
  Wanted: part 7.
  No condition.
-/
import Derived.Test.YtpiiblkiddcgcaaGreatPK6
set_option linter.all false
namespace Go.Proofs.YtpiiblkiddcgcaaGreat
namespace Le
open Go.RowKit Ba Mem En Go.Proofs.YtpiiblkiddcgcaaGreat.Ty Mo
open Qu (leaC leaC_len leaC_one leas_one btw)
open Fl (leaE mayB mayT freeB freeT)
set_option maxRecDepth 100000
attribute [local irreducible] Go.Calls
def zeroL:LeaseV:=⟨0,0,0,0,0,0,0,0,0,0⟩
def askOf (l:LeaseV):AskV:=⟨l.se,l.fl,l.fm,l.to,l.ma⟩
def tabC (c:CfgV) (v:Value):Array Value:=#[.int .i64 c.ca,.int .i64 c.fl,.int .i64 c.ft,.int .i64 c.se,.int .i64 c.dr,.int .i64 c.dw,.int .i64 c.ho,.int .i64 c.re,.int .i64 c.yi,.int .i64 c.qu,.int .i64 c.qo,.int .i64 c.lo,.int .i64 c.sl,.int .i64 c.rt,.int .i64 c.cp,.int .i64 c.tr,.int .i64 c.de,.int .i64 c.wi,v]
def tabS (c:CfgV) (v:SV):List SV:=[.i .i64 c.ca,.i .i64 c.fl,.i .i64 c.ft,.i .i64 c.se,.i .i64 c.dr,.i .i64 c.dw,.i .i64 c.ho,.i .i64 c.re,.i .i64 c.yi,.i .i64 c.qu,.i .i64 c.qo,.i .i64 c.lo,.i .i64 c.sl,.i .i64 c.rt,.i .i64 c.cp,.i .i64 c.tr,.i .i64 c.de,.i .i64 c.wi,v]
def TO (lo t:Nat) (c:CfgV) (ls:List LeaseV) (S:List Nat) (w:World):Prop :=
 lo≤t∧∃ A cap,S=t::blkOf A∧Blk w t 155 (tabC c (.slice A ls.length cap))∧leaE.At lo A ls.length cap ls w
section
variable {w w':World} {lo t b:Nat} {c:CfgV} {ls:List LeaseV} {S T:List Nat}
theorem TO.upd (k:Upd T w w') (h:TO lo t c ls S w) (hT:∀ g∈S,g∉T):TO lo t c ls S w':=by
 obtain ⟨h0,A,cap,rfl,B,O⟩:=h
 exact ⟨h0,A,cap,rfl,k.blk B (hT _ (by simp)),k.own O (fun g hg=>hT g (by simp [hg]))⟩
theorem TO.low (h:TO lo t c ls S w):∀ g∈S,lo≤g:=by
 obtain ⟨h0,A,cap,rfl,B,O⟩:=h
 intro g hg
 rcases List.mem_cons.1 hg with rfl | hg
 ·exact h0
 ·exact own_low O g hg
theorem TO.lt (h:TO lo t c ls S w):∀ g∈S,g < w.heap.size:=by
 obtain ⟨h0,A,cap,rfl,B,O⟩:=h
 intro g hg
 rcases List.mem_cons.1 hg with rfl | hg
 ·exact B.lt
 ·exact own_lt O g hg
theorem TO.base {lo':Nat} (h:TO lo t c ls S w) (hb:lo'≤lo):TO lo' t c ls S w:=by
 obtain ⟨h0,A,cap,rfl,B,O⟩:=h
 exact ⟨by omega,A,cap,rfl,B,own_base O hb⟩
end
def tO (lo t:Nat) (c:CfgV) (ls:List LeaseV) (S:List Nat) (rw:Bool):Asr:=⟨S,rw,TO lo t c ls S,fun k h hs=>hs.upd k h,fun h=>h.lt⟩
theorem hold_ta {lo t n:Nat} {c:CfgV} {ls:List LeaseV} {S:List Nat} {w:World} (hg:TO lo t c ls S w):∃ A cap,lo≤t∧S=t::blkOf A∧Hold ⟨Tryz.prog,tab,S,w,n,[]⟩ [⟨t,155,true,0,[],tabS c (.v (.slice A ls.length cap)),[],true⟩] [rwO leaE lo A ls.length cap ls true] w:=by
 obtain ⟨h0,A,cap,rfl,B,O⟩:=hg
 have hq:t∉blkOf A:=own_ne_ty O B (by decide)
 exact ⟨A,cap,h0,rfl,Hold.addObj (Hold.addRow (m:=[]) (Hold.nil _ tab _ n w) ⟨t,155,true,0,[],tabS c (.v (.slice A ls.length cap)),[],true⟩ B (fun _=>.inl (by simp)) (by intro q hq; cases hq) (by intro A hA; cases hA)) (rwO leaE lo A ls.length cap ls true) O (fun _ g hg=>.inl (List.mem_cons_of_mem _ hg)) (by intro r hr _; simp only [List.nil_append,List.mem_singleton] at hr; subst hr; exact hq) (by intro A hA; cases hA)⟩
theorem hold_tr {t lo cap n:Nat} {c:CfgV} {ls:List LeaseV} {A:Option Addr} {w:World} (hq:Blk w t 155 (tabC c (.slice A ls.length cap))) (ho:leaE.At lo A ls.length cap ls w):Hold ⟨Tryz.prog,tab,[],w,n,[]⟩ [⟨t,155,true,0,[],tabS c (.v (.slice A ls.length cap)),[],false⟩] [rwO leaE lo A ls.length cap ls false] w :=
 Hold.addObj (hold_q (S:=[]) (tabS c (.v (.slice A ls.length cap))) hq) (rwO leaE lo A ls.length cap ls false) ho (by intro k; cases k) (by intro r hr _; rw [List.mem_singleton] at hr; subst hr; exact own_ne_ty ho hq (by decide)) (by intro A hA; cases hA)
theorem fin_ta {lo t n n1 c1:Nat} {c:CfgV} {A1:Option Addr} {S:List Nat} {w:World} {V:Value} {v:SV} {fr:List (Nat×SV)} {cs:List SV} {ls:List LeaseV} {rest:List Row} {obr:List Asr} {st:St}
  (hst:st=⟨fr,⟨t,155,true,0,[],cs,[],true⟩::rest,rwO leaE lo A1 n1 c1 ls true::obr⟩) (hv:∀ m,den m v=V) (h0:lo≤t) (h1:n1=ls.length) (hcs:∀ m,(denL m cs).toArray=tabC c (.slice A1 n1 c1)) :
  Fin ⟨Tryz.prog,tab,S,w,n,[]⟩ (fun e w'=>e=.returned V∧∃ S',TO lo t c ls S' w'∧Upd S w w'∧∀ g∈S',g∈S∨w.heap.size≤g) v st:=by
 subst hst h1
 refine fin fun w' hH=>?_
 have oc:rwO leaE lo A1 ls.length c1 ls true∈rwO leaE lo A1 ls.length c1 ls true::obr:=List.mem_cons_self ..
 refine ⟨by rw [hv],_,⟨h0,A1,c1,rfl, ?_,hH.obj _ oc⟩,hH.upd,fun g hg=>?_⟩
 ·have:=hH.row 0 _ rfl rfl
  rw [rowA_nil rfl rfl] at this
  rw [← hcs]; exact this
 ·rcases List.mem_cons.1 hg with rfl | hg
  ·exact (hH.wf 0 _ rfl rfl).2.2 rfl
  ·exact hH.own _ oc rfl g hg
theorem newT (c:CfgV) (w:World):Calls Tryz.prog 52 #[(aCfg c)] w fun e w'=>∃ t,e=.returned (.pointer (some ⟨t,0,none⟩))∧TO w.heap.size t c [] [t] w'∧Since w w':=by
 refine ent tab_ok [.a (sCfg c)] Tryz.func52 Tryz.ntmps52 rfl rfl ?_
 repeat' (first | refine gs_ ?_|((conv=>whnf); first | intro b | refine b3_ (fun h=>?_) (fun h=>?_)|refine fin_s ?_))
 all_goals (conv=>whnf)
 refine fin fun w' hH=>⟨_,rfl,⟨?_,none,0,rfl, ?_,World.ownsRow_nil _ _ _ _⟩,hH.upd.since⟩
 ·rcases (hH.wf 1 _ rfl rfl).2.2 rfl with h | h
  ·cases h
  ·exact h
 ·have q:=hH.row 1 _ rfl rfl
  rw [rowA_nil rfl rfl] at q
  exact q
def goodB (c:CfgV) (l:LeaseV):Bool:=mayB c (askOf l) && decide (0≤l.ca) && decide (l.ca < 8) && decide (1≤l.ph) && decide (l.ph≤4)
def isP (x l:LeaseV):Bool:=l.se == x.se || l.ca == x.ca
def isS (s:Int) (l:LeaseV):Bool:=l.se == s
def isT (x l:LeaseV):Bool:=l.se == x.se && l.ca == x.ca && l.fl == x.fl
def atP (ls:List LeaseV) (p:LeaseV→Bool):Option Nat:=ls.findIdx? p
theorem atP_some {ls:List LeaseV} {p:LeaseV→Bool} {k:Nat} (h:atP ls p=some k):k < ls.length∧(∀ hk:k < ls.length,p ls[k]=true)∧∀ j,j < k→∀ hj:j < ls.length,p ls[j]=false:=by
 obtain ⟨hk,h1,h2⟩:=List.findIdx?_eq_some_iff_getElem.1 h
 exact ⟨hk,fun _=>h1,fun j hj _=>by have:=h2 j hj; simpa using this⟩
theorem atP_none {ls:List LeaseV} {p:LeaseV→Bool} (h:atP ls p=none):∀ j,∀ hj:j < ls.length,p ls[j]=false:=by
 intro j hj
 exact List.findIdx?_eq_none_iff.1 h ls[j] (List.getElem_mem hj)
def oI (y:Option Nat):Int:=match y with | some k=>(k:Int)|none => -1
attribute [local irreducible] mayB
theorem goodT {t:Nat} {c:CfgV} {v:Value} (l:LeaseV) (w:World) (hq:Blk w t 155 (tabC c v)):Calls Tryz.prog 176 #[.pointer (some ⟨t,0,none⟩),.agg #[.int .i64 l.se,.int .i64 l.fl,.int .i64 l.fm,.int .i64 l.to,.int .i64 l.ma,.int .i64 l.ca,.int .i64 l.ph,.int .i64 l.un,.int .i64 l.re,.int .i64 l.gr]] w fun e w'=>e=.returned (.bool (goodB c l))∧Since w w':=by
 refine entH tab_ok (hold_q (S:=[]) (tabS c (.v v)) hq) [.p 0 0,.a [.i .i64 l.se,.i .i64 l.fl,.i .i64 l.fm,.i .i64 l.to,.i .i64 l.ma,.i .i64 l.ca,.i .i64 l.ph,.i .i64 l.un,.i .i64 l.re,.i .i64 l.gr]] Tryz.func176 Tryz.ntmps176 rfl rfl ?_
 repeat' (first | refine gs_ ?_|((conv=>whnf); first | intro b | refine b3_ (fun h=>?_) (fun h=>?_)|refine callS (f:=191) (.b (mayB c (askOf l))) (mayT c (askOf l)) ?_|refine fin_s ?_))
 all_goals (unfold goodB; simp [den, *])
theorem put1T (cp:Nat) (x l:LeaseV) (w:World) (hb:Blk w cp 101 (leaC x).toArray):Calls Tryz.prog 188 #[.agg #[.int .i64 l.se,.int .i64 l.fl,.int .i64 l.fm,.int .i64 l.to,.int .i64 l.ma,.int .i64 l.ca,.int .i64 l.ph,.int .i64 l.un,.int .i64 l.re,.int .i64 l.gr],.pointer (some ⟨cp,0,none⟩)] w fun e w'=>e=.returned (.bool (isP x l))∧Since w w':=by
 refine entH tab_ok (hold_q (S:=[]) [.i .i64 x.se,.i .i64 x.fl,.i .i64 x.fm,.i .i64 x.to,.i .i64 x.ma,.i .i64 x.ca,.i .i64 x.ph,.i .i64 x.un,.i .i64 x.re,.i .i64 x.gr] hb) [.a [.i .i64 l.se,.i .i64 l.fl,.i .i64 l.fm,.i .i64 l.to,.i .i64 l.ma,.i .i64 l.ca,.i .i64 l.ph,.i .i64 l.un,.i .i64 l.re,.i .i64 l.gr],.p 0 0] Tryz.func188 Tryz.ntmps188 rfl rfl ?_
 repeat' (first | refine gs_ ?_|((conv=>whnf); first | intro b | refine wr_i ?_|refine b3_ (fun h=>?_) (fun h=>?_)|refine fin_s ?_))
 all_goals (unfold isP; simp [den, *])
theorem set1T (cp:Nat) (x l:LeaseV) (w:World) (hb:Blk w cp 101 (leaC x).toArray):Calls Tryz.prog 178 #[.agg #[.int .i64 l.se,.int .i64 l.fl,.int .i64 l.fm,.int .i64 l.to,.int .i64 l.ma,.int .i64 l.ca,.int .i64 l.ph,.int .i64 l.un,.int .i64 l.re,.int .i64 l.gr],.pointer (some ⟨cp,0,none⟩)] w fun e w'=>e=.returned (.bool (isT x l))∧Since w w':=by
 refine entH tab_ok (hold_q (S:=[]) [.i .i64 x.se,.i .i64 x.fl,.i .i64 x.fm,.i .i64 x.to,.i .i64 x.ma,.i .i64 x.ca,.i .i64 x.ph,.i .i64 x.un,.i .i64 x.re,.i .i64 x.gr] hb) [.a [.i .i64 l.se,.i .i64 l.fl,.i .i64 l.fm,.i .i64 l.to,.i .i64 l.ma,.i .i64 l.ca,.i .i64 l.ph,.i .i64 l.un,.i .i64 l.re,.i .i64 l.gr],.p 0 0] Tryz.func178 Tryz.ntmps178 rfl rfl ?_
 repeat' (first | refine gs_ ?_|((conv=>whnf); first | intro b | refine wr_i ?_|refine b3_ (fun h=>?_) (fun h=>?_)|refine fin_s ?_))
 all_goals (unfold isT; simp [den, *])
theorem of1T (cp:Nat) (s:Int) (l:LeaseV) (w:World) (hb:Blk w cp 3 #[.int .i64 s]):Calls Tryz.prog 219 #[.agg #[.int .i64 l.se,.int .i64 l.fl,.int .i64 l.fm,.int .i64 l.to,.int .i64 l.ma,.int .i64 l.ca,.int .i64 l.ph,.int .i64 l.un,.int .i64 l.re,.int .i64 l.gr],.pointer (some ⟨cp,0,none⟩)] w fun e w'=>e=.returned (.bool (isS s l))∧Since w w':=by
 refine entH tab_ok (hold_q (S:=[]) [.i .i64 s] hb) [.a [.i .i64 l.se,.i .i64 l.fl,.i .i64 l.fm,.i .i64 l.to,.i .i64 l.ma,.i .i64 l.ca,.i .i64 l.ph,.i .i64 l.un,.i .i64 l.re,.i .i64 l.gr],.p 0 0] Tryz.func219 Tryz.ntmps219 rfl rfl ?_
 repeat' (first | refine gs_ ?_|((conv=>whnf); first | intro b | refine wr_i ?_|refine b3_ (fun h=>?_) (fun h=>?_)|refine fin_s ?_))
 all_goals rfl
theorem indexT {lo n c:Nat} {A:Option Addr} {ls:List LeaseV} (F:FuncId) (cp:Value) (p:LeaseV→Bool) (w:World) (ho:leaE.At lo A n c ls w) (hn:ls.length=n) (hl:n≤1000000) (hp:∀ (l:LeaseV) (w1:World),Since w w1→Calls Tryz.prog F #[.agg #[.int .i64 l.se,.int .i64 l.fl,.int .i64 l.fm,.int .i64 l.to,.int .i64 l.ma,.int .i64 l.ca,.int .i64 l.ph,.int .i64 l.un,.int .i64 l.re,.int .i64 l.gr],cp] w1 fun e w2=>e=.returned (.bool (p l))∧Since w1 w2) (hcf:∀ (args:Array Value) (w1:World),(callFunc F args).run Tryz.prog w1=.ok (.enter F args) w1) :
  Calls Tryz.prog 213 #[.slice A n c,.func (.func F) #[] #[cp]] w fun e w'=>e=.returned (.int .i64 (oI (atP ls p)))∧Since w w':=by
 obtain ⟨g,hA⟩:=Ek.addr ho
 refine entH tab_ok (Hold.addObj (Hold.nil _ tab [] _ w) (rwO leaE lo A n c ls false) ho (by intro k; cases k) (by intro r hr; cases hr) (by intro A hA; cases hA)) [.v (.slice A n c),.f F [.v cp]] Tryz.func213 Tryz.ntmps213 rfl rfl ?_
 repeat' (first | refine gs_ ?_|((conv=>whnf); first | intro b | refine b3_ (fun h=>?_) (fun h=>?_)|refine fin_s ?_))
 conv=>whnf
 refine lp ⟨tab_ok⟩ (ι:={k:Nat // k≤n∧∀ j,j < k→∀ hj:j < ls.length,p ls[j]=false}) (fun x=>match x with | ⟨k,_⟩=>⟨[(0,.v (.slice A n c)),(1,.f F [.v cp]),(7,.i .i64 n),(8,.i .i64 (k:Int))],[],[rwO leaE lo A n c ls false]⟩) (fun x=>n - x.1) ⟨0,Nat.zero_le _,fun j hj=>by omega⟩ (wk ?_) ?_
 ·repeat' (first | exact trivial | rfl | ((conv=>whnf); refine And.intro ?_ ?_))
 rintro ⟨k,hk,hno⟩
 by_cases hlt:k < n
 ·obtain ⟨x,hx⟩:∃ x,ls[k]?=some x:=⟨_,List.getElem?_eq_getElem (by omega)⟩
  obtain ⟨hkl,hxe⟩:=List.getElem?_eq_some_iff.1 hx
  obtain rfl:=hA (by omega)
  cases hpx:p x with
  | true =>
   repeat' (first | refine gs_ ?_|((conv=>whnf); first | intro b2 | refine bto ?_|refine bfo ?_|refine wr_i ?_|refine opiv ⟨tab_ok⟩ (by rfl) (by rfl) (by rfl) (by rfl) (by rfl) (by rfl) ⟨by omega,by omega⟩ ?_|refine opix (g:=g) (off:=0+k*10) [.i .i64 x.se,.i .i64 x.fl,.i .i64 x.fm,.i .i64 x.to,.i .i64 x.ma,.i .i64 x.ca,.i .i64 x.ph,.i .i64 x.un,.i .i64 x.re,.i .i64 x.gr] (fun w hH=>Ek.rng (hH.obj (rwO leaE lo (some ⟨g,0,none⟩) n c ls false) (List.mem_singleton.2 rfl)) hx) ⟨tab_ok⟩ (by rfl) (by rfl) (by show Addr.add ⟨g,0,none⟩ (k*10)=_; rw [Go.WideShapes.add_plain]) ?_|refine callHF hcf (.b (p x)) (fun w hH=>hp x w (hH.out rfl)) ?_|refine b3_ (fun h=>?_) (fun h=>?_)|refine fin_s ?_))
   have e:atP ls p=some k:=List.findIdx?_eq_some_iff_getElem.2 ⟨hkl,by rw [hxe]; exact hpx,fun j hj=>by simpa using hno j hj (by omega)⟩
   rw [e]; rfl
  | false =>
   repeat' (first | refine gs_ ?_|((conv=>whnf); first | intro b2 | refine bto ?_|refine bfo ?_|refine wr_i ?_|refine opiv ⟨tab_ok⟩ (by rfl) (by rfl) (by rfl) (by rfl) (by rfl) (by rfl) ⟨by omega,by omega⟩ ?_|refine opix (g:=g) (off:=0+k*10) [.i .i64 x.se,.i .i64 x.fl,.i .i64 x.fm,.i .i64 x.to,.i .i64 x.ma,.i .i64 x.ca,.i .i64 x.ph,.i .i64 x.un,.i .i64 x.re,.i .i64 x.gr] (fun w hH=>Ek.rng (hH.obj (rwO leaE lo (some ⟨g,0,none⟩) n c ls false) (List.mem_singleton.2 rfl)) hx) ⟨tab_ok⟩ (by rfl) (by rfl) (by show Addr.add ⟨g,0,none⟩ (k*10)=_; rw [Go.WideShapes.add_plain]) ?_|refine callHF hcf (.b (p x)) (fun w hH=>hp x w (hH.out rfl)) ?_|refine b3_ (fun h=>?_) (fun h=>?_)|refine back ⟨k+1,by omega,fun j hj hjl=>(Nat.lt_succ_iff_lt_or_eq.1 hj).elim (fun h=>hno j h hjl) (fun h=>by subst h; rw [hxe]; exact hpx)⟩ (wk ?_) ?_|refine fin_s ?_))
   all_goals first | (show n - (k+1) < n - k; omega)|skip
   all_goals (repeat' (first | exact trivial | rfl | ((conv=>whnf); refine And.intro ?_ ?_)))
 ·repeat' (first | refine gs_ ?_|((conv=>whnf); first | intro b2 | refine bto ?_|refine bfo ?_|refine wr_i ?_|refine fin_s ?_))
  obtain rfl:k=n:=by omega
  have e:atP ls p=none:=List.findIdx?_eq_none_iff.2 fun x hx=>by
   obtain ⟨j,hj,rfl⟩:=List.mem_iff_getElem.1 hx
   exact hno j (by omega) hj
  rw [e]; rfl
attribute [local irreducible] atP oI goodB freeB
section
variable {t lo cap:Nat} {c:CfgV} {ls:List LeaseV} {A:Option Addr} (w:World) (hq:Blk w t 155 (tabC c (.slice A ls.length cap))) (ho:leaE.At lo A ls.length cap ls w) (hl:ls.length≤10000)
include hq ho hl
theorem findT (F:FuncId) (cp:Value) (p:LeaseV→Bool) (hp:∀ (l:LeaseV) (w1:World),Since w w1→Calls Tryz.prog F #[.agg #[.int .i64 l.se,.int .i64 l.fl,.int .i64 l.fm,.int .i64 l.to,.int .i64 l.ma,.int .i64 l.ca,.int .i64 l.ph,.int .i64 l.un,.int .i64 l.re,.int .i64 l.gr],cp] w1 fun e w2=>e=.returned (.bool (p l))∧Since w1 w2) (hcf:∀ (args:Array Value) (w1:World),(callFunc F args).run Tryz.prog w1=.ok (.enter F args) w1) :
  Calls Tryz.prog 177 #[.pointer (some ⟨t,0,none⟩),.func (.func F) #[] #[cp]] w fun e w'=>e=.returned (.int .i64 (oI (atP ls p)))∧Since w w':=by
 refine entH tab_ok (hold_tr hq ho) [.p 0 0,.f F [.v cp]] Tryz.func177 Tryz.ntmps177 rfl rfl ?_
 repeat' (first | refine gs_ ?_|((conv=>whnf); first | intro b | refine callH (f:=213) (.i .i64 (oI (atP ls p))) (fun w hH=>indexT F cp p w (hH.obj (rwO leaE lo A ls.length cap ls false) (List.mem_singleton.2 rfl)) rfl (by omega) (fun l w1 hs=>hp l w1 ((hH.out rfl).trans hs)) hcf) ?_|refine fin_s ?_))
 all_goals rfl
theorem ofiT (s:Int):Calls Tryz.prog 194 #[.pointer (some ⟨t,0,none⟩),.int .i64 s] w fun e w'=>e=.returned (.int .i64 (oI (atP ls (isS s))))∧Since w w':=by
 refine entH tab_ok (hold_tr hq ho) [.p 0 0,.i .i64 s] Tryz.func194 Tryz.ntmps194 rfl rfl ?_
 repeat' (first | refine gs_ ?_|((conv=>whnf); first | intro b | refine callH (f:=177) (.i .i64 (oI (atP ls (isS s)))) (fun w hH=>findT w (hH.row 0 _ rfl rfl) (hH.obj (rwO leaE lo A ls.length cap ls false) (List.mem_singleton.2 rfl)) hl 219 _ (isS s) (fun l w1 hs=>of1T _ s l w1 (keep_blk hs (hH.row 1 _ rfl rfl))) (entC (by kernel_rfl))) ?_|refine fin_s ?_))
 all_goals rfl
theorem atT0 (i:Int) (hi:i < 0):Calls Tryz.prog 193 #[.pointer (some ⟨t,0,none⟩),.int .i64 i] w fun e w'=>e=.returned (.tuple #[.agg #[.int .i64 zeroL.se,.int .i64 zeroL.fl,.int .i64 zeroL.fm,.int .i64 zeroL.to,.int .i64 zeroL.ma,.int .i64 zeroL.ca,.int .i64 zeroL.ph,.int .i64 zeroL.un,.int .i64 zeroL.re,.int .i64 zeroL.gr],.bool false])∧Since w w':=by
 refine entH tab_ok (hold_tr hq ho) [.p 0 0,.i .i64 i] Tryz.func193 Tryz.ntmps193 rfl rfl ?_
 repeat' (first | refine gs_ ?_|((conv=>whnf); first | intro b | refine bto ?_|refine bfo ?_|refine fin_s ?_))
 all_goals rfl
theorem atT1 (k:Nat) (x:LeaseV) (hx:ls[k]?=some x):Calls Tryz.prog 193 #[.pointer (some ⟨t,0,none⟩),.int .i64 (k:Int)] w fun e w'=>e=.returned (.tuple #[.agg #[.int .i64 x.se,.int .i64 x.fl,.int .i64 x.fm,.int .i64 x.to,.int .i64 x.ma,.int .i64 x.ca,.int .i64 x.ph,.int .i64 x.un,.int .i64 x.re,.int .i64 x.gr],.bool true])∧Since w w':=by
 obtain ⟨hk,_⟩:=List.getElem?_eq_some_iff.1 hx
 obtain ⟨g,rfl⟩:=own_addr ho (by omega)
 refine entH tab_ok (hold_tr hq ho) [.p 0 0,.i .i64 (k:Int)] Tryz.func193 Tryz.ntmps193 rfl rfl ?_
 repeat' (first | refine gs_ ?_|((conv=>whnf); first | intro b | refine bto ?_|refine bfo ?_|refine opiv ⟨tab_ok⟩ (by rfl) (by rfl) (by rfl) (by rfl) (by rfl) (by rfl) ⟨by omega,by omega⟩ ?_|refine opix (g:=g) (off:=0+k*10) [.i .i64 x.se,.i .i64 x.fl,.i .i64 x.fm,.i .i64 x.to,.i .i64 x.ma,.i .i64 x.ca,.i .i64 x.ph,.i .i64 x.un,.i .i64 x.re,.i .i64 x.gr] (fun w hH=>Ek.rng (hH.obj (rwO leaE lo (some ⟨g,0,none⟩) ls.length cap ls false) (List.mem_singleton.2 rfl)) hx) ⟨tab_ok⟩ (by rfl) (by rfl) (by show Addr.add ⟨g,0,none⟩ (k*10)=_; rw [Go.WideShapes.add_plain]) ?_|refine fin_s ?_))
 all_goals rfl
end
def atV (ls:List LeaseV) (y:Option Nat):LeaseV:=match y with | some k=>ls.getD k zeroL | none=>zeroL
def ofL (ls:List LeaseV) (s:Int):LeaseV:=atV ls (atP ls (isS s))
def hasL (ls:List LeaseV) (s:Int):Bool:=(atP ls (isS s)).isSome
theorem oI_some (k:Nat):oI (some k)=(k:Int):=by unfold oI; rfl
theorem oI_none:oI none = -1:=by unfold oI; rfl
theorem atY {t lo cap:Nat} {c:CfgV} {ls:List LeaseV} {A:Option Addr} (w:World) (hq:Blk w t 155 (tabC c (.slice A ls.length cap))) (ho:leaE.At lo A ls.length cap ls w) (hl:ls.length≤10000) (p:LeaseV→Bool) :
  Calls Tryz.prog 193 #[.pointer (some ⟨t,0,none⟩),.int .i64 (oI (atP ls p))] w fun e w'=>e=.returned (.tuple #[.agg #[.int .i64 (atV ls (atP ls p)).se,.int .i64 (atV ls (atP ls p)).fl,.int .i64 (atV ls (atP ls p)).fm,.int .i64 (atV ls (atP ls p)).to,.int .i64 (atV ls (atP ls p)).ma,.int .i64 (atV ls (atP ls p)).ca,.int .i64 (atV ls (atP ls p)).ph,.int .i64 (atV ls (atP ls p)).un,.int .i64 (atV ls (atP ls p)).re,.int .i64 (atV ls (atP ls p)).gr],.bool (atP ls p).isSome])∧Since w w':=by
 cases h:atP ls p with
 | none=>rw [oI_none]; exact atT0 w hq ho hl (-1) (by decide)
 | some k =>
  obtain ⟨hk,_,_⟩:=atP_some h
  have hx:ls[k]?=some ls[k]:=List.getElem?_eq_getElem hk
  have e:atV ls (some k)=ls[k]:=by simp [atV,List.getD,hx]
  rw [oI_some,e]
  exact atT1 w hq ho hl k _ hx
attribute [local irreducible] atV
theorem ofT {t lo cap:Nat} {c:CfgV} {ls:List LeaseV} {A:Option Addr} (w:World) (hq:Blk w t 155 (tabC c (.slice A ls.length cap))) (ho:leaE.At lo A ls.length cap ls w) (hl:ls.length≤10000) (s:Int) :
  Calls Tryz.prog 143 #[.pointer (some ⟨t,0,none⟩),.int .i64 s] w fun e w'=>e=.returned (.tuple #[.agg #[.int .i64 (ofL ls s).se,.int .i64 (ofL ls s).fl,.int .i64 (ofL ls s).fm,.int .i64 (ofL ls s).to,.int .i64 (ofL ls s).ma,.int .i64 (ofL ls s).ca,.int .i64 (ofL ls s).ph,.int .i64 (ofL ls s).un,.int .i64 (ofL ls s).re,.int .i64 (ofL ls s).gr],.bool (hasL ls s)])∧Since w w':=by
 refine entH tab_ok (hold_tr hq ho) [.p 0 0,.i .i64 s] Tryz.func143 Tryz.ntmps143 rfl rfl ?_
 repeat' (first | refine gs_ ?_|((conv=>whnf); first | intro b | refine callH (f:=194) (.i .i64 (oI (atP ls (isS s)))) (fun w hH=>ofiT w (hH.row 0 _ rfl rfl) (hH.obj (rwO leaE lo A ls.length cap ls false) (List.mem_singleton.2 rfl)) hl s) ?_|refine callH (f:=193) (.t [.a [.i .i64 (ofL ls s).se,.i .i64 (ofL ls s).fl,.i .i64 (ofL ls s).fm,.i .i64 (ofL ls s).to,.i .i64 (ofL ls s).ma,.i .i64 (ofL ls s).ca,.i .i64 (ofL ls s).ph,.i .i64 (ofL ls s).un,.i .i64 (ofL ls s).re,.i .i64 (ofL ls s).gr],.b (hasL ls s)]) (fun w hH=>atY w (hH.row 0 _ rfl rfl) (hH.obj (rwO leaE lo A ls.length cap ls false) (List.mem_singleton.2 rfl)) hl (isS s)) ?_|refine fin_s ?_))
 all_goals rfl
theorem listT {t lo cap:Nat} {c:CfgV} {ls:List LeaseV} {A:Option Addr} (w:World) (hq:Blk w t 155 (tabC c (.slice A ls.length cap))) (ho:leaE.At lo A ls.length cap ls w) (hl:ls.length≤10000) :
  Calls Tryz.prog 53 #[.pointer (some ⟨t,0,none⟩)] w fun e w'=>∃ A' c',e=.returned (.slice A' ls.length c')∧leaE.At w.heap.size A' ls.length c' ls w'∧Since w w':=by
 refine entH tab_ok (hold_tr hq ho) [.p 0 0] Tryz.func53 Tryz.ntmps53 rfl rfl ?_
 repeat' (first | refine gs_ ?_|((conv=>whnf); first | intro b | refine callN (f:=115) (ι:={x:Nat×Option Addr×Nat // w.heap.size≤x.1}) (fun x=>.v (.slice x.1.2.1 ls.length x.1.2.2)) (fun x=>rwO leaE x.1.1 x.1.2.1 ls.length x.1.2.2 ls true) (fun w1 hH=>(Qu.CL.cloneT lo A cap ls w1 (hH.obj (rwO leaE lo A ls.length cap ls false) (List.mem_singleton.2 rfl)) (by omega)).mono (by rintro e w' ⟨A',c',rfl,hO,hs⟩; exact ⟨⟨(w1.heap.size,A',c'),hH.upd.size⟩,rfl,hO,hs,own_low hO⟩)) (fun x=>?_)|refine fin fun w' hH=>⟨_,_,rfl,own_base (hH.obj (rwO leaE _ _ _ _ _ true) (List.mem_cons_of_mem _ (List.mem_cons_self ..))) x.2,hH.upd.since⟩|refine fin_s ?_))
def putE (c:CfgV) (ls:List LeaseV) (l:LeaseV):Int:=if goodB c l=true then (if (atP ls (isP l)).isSome then 7 else if freeB c ls l.fl=true then 0 else 5) else 1
def putL (c:CfgV) (ls:List LeaseV) (l:LeaseV):List LeaseV:=if putE c ls l=0 then ls++[l] else ls
def setE (c:CfgV) (ls:List LeaseV) (x:LeaseV):Int:=if goodB c x=true then (if (atP ls (isT x)).isSome then 0 else 6) else 1
def setL (c:CfgV) (ls:List LeaseV) (x:LeaseV):List LeaseV:=if goodB c x=true then (match atP ls (isT x) with | some k=>ls.set k x | none=>ls) else ls
def endL (ls:List LeaseV) (s:Int):List LeaseV:=match atP ls (isS s) with | some k=>ls.eraseIdx k | none=>ls
theorem oI_neg {y:Option Nat} (h:y.isSome=false):oI y = -1:=by cases y with | none=>exact oI_none | some k=>cases h
theorem oI_pos {y:Option Nat} (h:y.isSome=true):0≤oI y:=by cases y with | none=>cases h | some k=>rw [oI_some]; omega
theorem lea_cap {lo g n c:Nat} {ls:List LeaseV} {w:World} (h:leaE.At lo (some ⟨g,0,none⟩) n c ls w):n≤c:=by
 rcases h.2 with ⟨hv,_⟩ | ⟨_,_,_,hv,_,_,hc,_⟩
 ·simp at hv
 ·simp at hv; omega
theorem putT {lo t:Nat} {c:CfgV} {ls:List LeaseV} {S:List Nat} {w:World} (hg:TO lo t c ls S w) (hl:ls.length≤10000) (l:LeaseV) :
  Calls Tryz.prog 128 #[.pointer (some ⟨t,0,none⟩),.agg #[.int .i64 l.se,.int .i64 l.fl,.int .i64 l.fm,.int .i64 l.to,.int .i64 l.ma,.int .i64 l.ca,.int .i64 l.ph,.int .i64 l.un,.int .i64 l.re,.int .i64 l.gr]] w fun e w'=>e=.returned (.int .i64 (putE c ls l))∧∃ S',TO lo t c (putL c ls l) S' w'∧Upd S w w'∧∀ g∈S',g∈S∨w.heap.size≤g:=by
 obtain ⟨A,cap,h0,hS,hH⟩:=hold_ta (n:=_) hg
 unfold putL putE
 cases hgd:goodB c l with
 | false =>
  rw [if_neg (by decide),if_neg (by decide)]
  refine entH tab_ok (hH) [.p 0 0,.a [.i .i64 l.se,.i .i64 l.fl,.i .i64 l.fm,.i .i64 l.to,.i .i64 l.ma,.i .i64 l.ca,.i .i64 l.ph,.i .i64 l.un,.i .i64 l.re,.i .i64 l.gr]] Tryz.func128 Tryz.ntmps128 rfl rfl ?_
  repeat' (first | refine gs_ ?_|((conv=>whnf); first | intro b | refine callH (f:=176) (.b false) (fun w hH=>by have:=goodT l w (hH.row 0 _ rfl rfl); rw [hgd] at this; exact this) ?_|refine fin_ta (by rfl) (by intro m; rfl) h0 (by rfl) (by intro m; rfl)|refine fin_s ?_))
 | true =>
  cases hf:(atP ls (isP l)).isSome with
  | true =>
   have hp:=oI_pos hf
   refine entH tab_ok (hH) [.p 0 0,.a [.i .i64 l.se,.i .i64 l.fl,.i .i64 l.fm,.i .i64 l.to,.i .i64 l.ma,.i .i64 l.ca,.i .i64 l.ph,.i .i64 l.un,.i .i64 l.re,.i .i64 l.gr]] Tryz.func128 Tryz.ntmps128 rfl rfl ?_
   repeat' (first | refine gs_ ?_|((conv=>whnf); first | intro b | refine bto ?_|refine bfo ?_|refine callH (f:=176) (.b true) (fun w hH=>by have:=goodT l w (hH.row 0 _ rfl rfl); rw [hgd] at this; exact this) ?_|refine callH (f:=177) (.i .i64 (oI (atP ls (isP l)))) (fun w hH=>findT w (hH.row 0 _ rfl rfl) (hH.obj (rwO leaE lo A ls.length cap ls true) (List.mem_singleton.2 rfl)) hl 188 _ (isP l) (fun y w1 hs=>put1T _ l y w1 (keep_blk hs (hH.row 1 _ rfl rfl))) (entC (by kernel_rfl))) ?_|refine fin_ta (by rfl) (by intro m; rfl) h0 (by rfl) (by intro m; rfl)|refine fin_s ?_))
  | false =>
   have hp:=oI_neg hf
   cases hfr:freeB c ls l.fl with
   | false =>
    refine entH tab_ok (hH) [.p 0 0,.a [.i .i64 l.se,.i .i64 l.fl,.i .i64 l.fm,.i .i64 l.to,.i .i64 l.ma,.i .i64 l.ca,.i .i64 l.ph,.i .i64 l.un,.i .i64 l.re,.i .i64 l.gr]] Tryz.func128 Tryz.ntmps128 rfl rfl ?_
    repeat' (first | refine gs_ ?_|((conv=>whnf); first | intro b | refine bto ?_|refine bfo ?_|refine callH (f:=176) (.b true) (fun w hH=>by have:=goodT l w (hH.row 0 _ rfl rfl); rw [hgd] at this; exact this) ?_|refine callH (f:=177) (.i .i64 (oI (atP ls (isP l)))) (fun w hH=>findT w (hH.row 0 _ rfl rfl) (hH.obj (rwO leaE lo A ls.length cap ls true) (List.mem_singleton.2 rfl)) hl 188 _ (isP l) (fun y w1 hs=>put1T _ l y w1 (keep_blk hs (hH.row 1 _ rfl rfl))) (entC (by kernel_rfl))) ?_|refine callH (f:=184) (.b false) (fun w hH=>by have:=freeT c l.fl w (hH.obj (rwO leaE lo A ls.length cap ls true) (List.mem_singleton.2 rfl)) rfl (by omega); rw [hfr] at this; exact this) ?_|refine fin_ta (by rfl) (by intro m; rfl) h0 (by rfl) (by intro m; rfl)|refine fin_s ?_))
   | true =>
    refine entH tab_ok (hH) [.p 0 0,.a [.i .i64 l.se,.i .i64 l.fl,.i .i64 l.fm,.i .i64 l.to,.i .i64 l.ma,.i .i64 l.ca,.i .i64 l.ph,.i .i64 l.un,.i .i64 l.re,.i .i64 l.gr]] Tryz.func128 Tryz.ntmps128 rfl rfl ?_
    repeat' (first | refine gs_ ?_|((conv=>whnf); first | intro b | refine bto ?_|refine bfo ?_|refine callH (f:=176) (.b true) (fun w hH=>by have:=goodT l w (hH.row 0 _ rfl rfl); rw [hgd] at this; exact this) ?_|refine callH (f:=177) (.i .i64 (oI (atP ls (isP l)))) (fun w hH=>findT w (hH.row 0 _ rfl rfl) (hH.obj (rwO leaE lo A ls.length cap ls true) (List.mem_singleton.2 rfl)) hl 188 _ (isP l) (fun y w1 hs=>put1T _ l y w1 (keep_blk hs (hH.row 1 _ rfl rfl))) (entC (by kernel_rfl))) ?_|refine callH (f:=184) (.b true) (fun w hH=>by have:=freeT c l.fl w (hH.obj (rwO leaE lo A ls.length cap ls true) (List.mem_singleton.2 rfl)) rfl (by omega); rw [hfr] at this; exact this) ?_|refine opb1 (e:=101) ⟨tab_ok⟩ [.i .i64 l.se,.i .i64 l.fl,.i .i64 l.fm,.i .i64 l.to,.i .i64 l.ma,.i .i64 l.ca,.i .i64 l.ph,.i .i64 l.un,.i .i64 l.re,.i .i64 l.gr] (by rfl) (by rfl) ?_|refine opap 0 2 (e:=101) (lo:=lo) (size:=10) (bytes:=80) (z:=.agg #[.int .i64 0,.int .i64 0,.int .i64 0,.int .i64 0,.int .i64 0,.int .i64 0,.int .i64 0,.int .i64 0,.int .i64 0,.int .i64 0]) (A:=rwO leaE lo A ls.length cap ls true) (vals:=rowsOf leaC ls) (cells:=leaC l) (zs:=rowsOf leaC (ls++[l])) (n2:=(ls++[l]).length) (fun A' c'=>rwO leaE lo A' (ls++[l]).length c' (ls++[l]) true) (by rfl) (by rfl) (by rfl) (by rfl) rfl rfl (fun w h=>h) (fun A' c' w h=>h) (fun _ _=>rfl) (by rfl) (by rfl) (by rfl) (by rfl) Tryz.underlying96 (by kernel_rfl) rfl (by decide) (by decide) (leaC_one _) (by omega) (fun w hH=>by have h:t < w.heap.size:=(hH.row 0 _ rfl rfl).lt; omega) (by simp) (by rw [rowsOf_append,rowsOf_one]) (fun A' c'=>?_)|refine fin_ta (ls:=ls++[l]) (by rfl) (by intro m; rfl) h0 (by rfl) (by intro m; rfl)|refine fin_s ?_))
theorem setT {lo t:Nat} {c:CfgV} {ls:List LeaseV} {S:List Nat} {w:World} (hg:TO lo t c ls S w) (hl:ls.length≤10000) (l:LeaseV) :
  Calls Tryz.prog 121 #[.pointer (some ⟨t,0,none⟩),.agg #[.int .i64 l.se,.int .i64 l.fl,.int .i64 l.fm,.int .i64 l.to,.int .i64 l.ma,.int .i64 l.ca,.int .i64 l.ph,.int .i64 l.un,.int .i64 l.re,.int .i64 l.gr]] w fun e w'=>e=.returned (.int .i64 (setE c ls l))∧∃ S',TO lo t c (setL c ls l) S' w'∧Upd S w w'∧∀ g∈S',g∈S∨w.heap.size≤g:=by
 obtain ⟨A,cap,h0,hS,hH⟩:=hold_ta (n:=_) hg
 unfold setL setE
 cases hgd:goodB c l with
 | false =>
  rw [if_neg (by decide),if_neg (by decide)]
  refine entH tab_ok (hH) [.p 0 0,.a [.i .i64 l.se,.i .i64 l.fl,.i .i64 l.fm,.i .i64 l.to,.i .i64 l.ma,.i .i64 l.ca,.i .i64 l.ph,.i .i64 l.un,.i .i64 l.re,.i .i64 l.gr]] Tryz.func121 Tryz.ntmps121 rfl rfl ?_
  repeat' (first | refine gs_ ?_|((conv=>whnf); first | intro b | refine callH (f:=176) (.b false) (fun w hH=>by have:=goodT l w (hH.row 0 _ rfl rfl); rw [hgd] at this; exact this) ?_|refine fin_ta (by rfl) (by intro m; rfl) h0 (by rfl) (by intro m; rfl)|refine fin_s ?_))
 | true =>
  cases hf:atP ls (isT l) with
  | none =>
   refine entH tab_ok (hH) [.p 0 0,.a [.i .i64 l.se,.i .i64 l.fl,.i .i64 l.fm,.i .i64 l.to,.i .i64 l.ma,.i .i64 l.ca,.i .i64 l.ph,.i .i64 l.un,.i .i64 l.re,.i .i64 l.gr]] Tryz.func121 Tryz.ntmps121 rfl rfl ?_
   repeat' (first | refine gs_ ?_|((conv=>whnf); first | intro b | refine bto ?_|refine bfo ?_|refine callH (f:=176) (.b true) (fun w hH=>by have:=goodT l w (hH.row 0 _ rfl rfl); rw [hgd] at this; exact this) ?_|refine callH (f:=177) (.i .i64 (-1)) (fun w hH=>by have:=findT w (hH.row 0 _ rfl rfl) (hH.obj (rwO leaE lo A ls.length cap ls true) (List.mem_singleton.2 rfl)) hl 178 _ (isT l) (fun y w1 hs=>set1T _ l y w1 (keep_blk hs (hH.row 1 _ rfl rfl))) (entC (by kernel_rfl)); rw [hf,oI_none] at this; exact this) ?_|refine fin_ta (ls:=ls) (by rfl) (by intro m; rfl) h0 (by rfl) (by intro m; rfl)|refine fin_s ?_))
  | some k =>
   obtain ⟨hk,_,_⟩:=atP_some hf
   obtain ⟨g,rfl⟩:=own_addr (hH.obj (rwO leaE lo A ls.length cap ls true) (List.mem_singleton.2 rfl)) (by omega)
   refine entH tab_ok (hH) [.p 0 0,.a [.i .i64 l.se,.i .i64 l.fl,.i .i64 l.fm,.i .i64 l.to,.i .i64 l.ma,.i .i64 l.ca,.i .i64 l.ph,.i .i64 l.un,.i .i64 l.re,.i .i64 l.gr]] Tryz.func121 Tryz.ntmps121 rfl rfl ?_
   repeat' (first | refine gq_ ?_|((conv=>whnf); first | intro b | refine drA ⟨tab_ok⟩ [7] ?_|refine bto ?_|refine bfo ?_|refine callH (f:=176) (.b true) (fun w hH=>by have:=goodT l w (hH.row 0 _ rfl rfl); rw [hgd] at this; exact this) ?_|refine callH (f:=177) (.i .i64 (k:Int)) (fun w hH=>by have:=findT w (hH.row 0 _ rfl rfl) (hH.obj (rwO leaE lo (some ⟨g,0,none⟩) ls.length cap ls true) (List.mem_singleton.2 rfl)) hl 178 _ (isT l) (fun y w1 hs=>set1T _ l y w1 (keep_blk hs (hH.row 1 _ rfl rfl))) (entC (by kernel_rfl)); rw [hf,oI_some] at this; exact this) ?_|refine puiv ⟨tab_ok⟩ (by rfl) (by rfl) (by rfl) (by rfl) (by rfl) (by rfl) ⟨by omega,by omega⟩ ?_|refine opiv ⟨tab_ok⟩ (by rfl) (by rfl) (by rfl) (by rfl) (by rfl) (by rfl) ⟨by omega,by omega⟩ ?_|refine opst ⟨tab_ok⟩ 0 k leaE l [.i .i64 l.se,.i .i64 l.fl,.i .i64 l.fm,.i .i64 l.to,.i .i64 l.ma,.i .i64 l.ca,.i .i64 l.ph,.i .i64 l.un,.i .i64 l.re,.i .i64 l.gr] (by rfl) (by rfl) (by show Addr.add ⟨g,0,none⟩ (k*10)=_; rw [Go.WideShapes.add_plain,Nat.zero_add]; rfl) (by rfl) (by rfl) (by rfl) hk (by decide) (by rfl) ?_|refine fin_ta (ls:=ls.set k l) (by rfl) (by intro m; rfl) h0 (by simp) (by intro m; rfl)|refine fin_s ?_))
theorem endT {lo t:Nat} {c:CfgV} {ls:List LeaseV} {S:List Nat} {w:World} (hg:TO lo t c ls S w) (hl:ls.length≤10000) (s:Int) :
  Calls Tryz.prog 175 #[.pointer (some ⟨t,0,none⟩),.int .i64 s] w fun e w'=>e=.returned (.tuple #[.agg #[.int .i64 (ofL ls s).se,.int .i64 (ofL ls s).fl,.int .i64 (ofL ls s).fm,.int .i64 (ofL ls s).to,.int .i64 (ofL ls s).ma,.int .i64 (ofL ls s).ca,.int .i64 (ofL ls s).ph,.int .i64 (ofL ls s).un,.int .i64 (ofL ls s).re,.int .i64 (ofL ls s).gr],.bool (hasL ls s)])∧∃ S',TO lo t c (endL ls s) S' w'∧Upd S w w'∧∀ g∈S',g∈S∨w.heap.size≤g:=by
 obtain ⟨A,cap,h0,hS,hH⟩:=hold_ta (n:=_) hg
 have h9:=fun w=>ofiT (t:=t) (lo:=lo) (cap:=cap) (c:=c) (ls:=ls) (A:=A) w
 unfold endL
 cases hf:atP ls (isS s) with
 | none =>
  have e1:ofL ls s=zeroL:=by unfold ofL; rw [hf]; unfold atV; rfl
  have e2:hasL ls s=false:=by unfold hasL; rw [hf]; rfl
  rw [e1,e2]
  refine entH tab_ok (hH) [.p 0 0,.i .i64 s] Tryz.func175 Tryz.ntmps175 rfl rfl ?_
  repeat' (first | refine gs_ ?_|((conv=>whnf); first | intro b | refine callH (f:=194) (.i .i64 (-1)) (fun w hH=>by have:=ofiT w (hH.row 0 _ rfl rfl) (hH.obj (rwO leaE lo A ls.length cap ls true) (List.mem_singleton.2 rfl)) hl s; rw [hf,oI_none] at this; exact this) ?_|refine callH (f:=193) (.t [.a [.i .i64 zeroL.se,.i .i64 zeroL.fl,.i .i64 zeroL.fm,.i .i64 zeroL.to,.i .i64 zeroL.ma,.i .i64 zeroL.ca,.i .i64 zeroL.ph,.i .i64 zeroL.un,.i .i64 zeroL.re,.i .i64 zeroL.gr],.b false]) (fun w hH=>atT0 w (hH.row 0 _ rfl rfl) (hH.obj (rwO leaE lo A ls.length cap ls true) (List.mem_singleton.2 rfl)) hl (-1) (by decide)) ?_|refine fin_ta (ls:=ls) (by rfl) (by intro m; rfl) h0 (by rfl) (by intro m; rfl)|refine fin_s ?_))
 | some k =>
  obtain ⟨hk,_,_⟩:=atP_some hf
  obtain ⟨x,hx⟩:∃ x,ls[k]?=some x:=⟨_,List.getElem?_eq_getElem hk⟩
  have e1:ofL ls s=x:=by unfold ofL; rw [hf]; unfold atV; simp [List.getD,hx]
  have e2:hasL ls s=true:=by unfold hasL; rw [hf]; rfl
  rw [e1,e2]
  have hm:ls.length=(ls.eraseIdx k).length+1:=by rw [List.length_eraseIdx_of_lt hk]; omega
  obtain ⟨g,rfl⟩:=own_addr (hH.obj (rwO leaE lo A ls.length cap ls true) (List.mem_singleton.2 rfl)) (by omega)
  refine entH tab_ok (hH) [.p 0 0,.i .i64 s] Tryz.func175 Tryz.ntmps175 rfl rfl ?_
  repeat' (first | refine gs_ ?_|((conv=>whnf); first | intro b | refine wr_i ?_|refine callH (f:=194) (.i .i64 (k:Int)) (fun w hH=>by have:=ofiT w (hH.row 0 _ rfl rfl) (hH.obj (rwO leaE lo (some ⟨g,0,none⟩) ls.length cap ls true) (List.mem_singleton.2 rfl)) hl s; rw [hf,oI_some] at this; exact this) ?_|refine callH (f:=193) (.t [.a [.i .i64 x.se,.i .i64 x.fl,.i .i64 x.fm,.i .i64 x.to,.i .i64 x.ma,.i .i64 x.ca,.i .i64 x.ph,.i .i64 x.un,.i .i64 x.re,.i .i64 x.gr],.b true]) (fun w hH=>atT1 w (hH.row 0 _ rfl rfl) (hH.obj (rwO leaE lo (some ⟨g,0,none⟩) ls.length cap ls true) (List.mem_singleton.2 rfl)) hl k x hx) ?_|refine callO (f:=212) (A:=rwO leaE lo (some ⟨g,0,none⟩) ls.length cap ls true) 0 (fun _:Unit=>.v (.slice (some ⟨g,0,none⟩) (ls.eraseIdx k).length cap)) (fun _=>rwO leaE lo (some ⟨g,0,none⟩) (ls.eraseIdx k).length cap (ls.eraseIdx k) true) (fun w hH hA=>by have hcap:=lea_cap hA; have:=Qu.CL.deleteT lo g (ls.eraseIdx k).length cap k ls w (by rw [← hm]; exact hA) hm (by omega) (by omega) (by omega); rw [← hm] at this; exact this.mono (by rintro e w' ⟨rfl,h1,h2⟩; exact ⟨(),rfl,h1,h2,fun _ h=>.inl h⟩)) (fun _=>?_)|refine fin_ta (ls:=ls.eraseIdx k) (by rfl) (by intro m; rfl) h0 (by rfl) (by intro m; rfl)|refine fin_s ?_))
end Le
namespace Gr
open Go.RowKit Ba Mem En Mo Go.Proofs.YtpiiblkiddcgcaaGreat.Ty Go.Proofs.YtpiiblkiddcgcaaGreat.St
open Ct (cfgA carA)
open Et (carsO)
set_option maxRecDepth 100000
theorem fin_gn {lo q n n1 n2 c1 c2:Nat} {G:GrV} {A1 A2:Option Addr} {S:List Nat} {w:World} {V:Value} {v:SV} {fr:List (Nat×SV)} {cs:List SV} {ls:List CarV} {ws:List WaitV} {rest:List Row} {obr:List Asr} {st:St}
  (hst:st=⟨fr,⟨q,70,true,0,[],cs,[],true⟩::rest,carsO lo A1 n1 c1 ls true::waitsO lo A2 n2 c2 ws true::obr⟩)
  (hv:∀ m,den m v=V) (h0:lo≤q) (h1:n1=G.cars.length) (h2:n2=G.waits.length) (h3:ls=G.cars) (h4:ws=G.waits) (hcs:∀ m,(denL m cs).toArray=grpA G (.slice A1 n1 c1) (.slice A2 n2 c2)) :
  Fin ⟨Tryz.prog,tab,S,w,n,[]⟩ (fun e w'=>e=.returned V∧∃ S',GO lo q G S' w'∧Upd S w w'∧∀ g∈S',g∈S∨w.heap.size≤g) v st:=by
 subst hst h1 h2 h3 h4
 refine fin fun w' hH=>?_
 have oc:carsO lo A1 G.cars.length c1 G.cars true∈carsO lo A1 G.cars.length c1 G.cars true::waitsO lo A2 G.waits.length c2 G.waits true::obr:=List.mem_cons_self ..
 have ow:waitsO lo A2 G.waits.length c2 G.waits true∈carsO lo A1 G.cars.length c1 G.cars true::waitsO lo A2 G.waits.length c2 G.waits true::obr:=List.mem_cons_of_mem _ (List.mem_cons_self ..)
 refine ⟨by rw [hv],_,⟨h0,A1,c1,A2,c2,rfl, ?_,hH.obj _ oc,hH.obj _ ow⟩,hH.upd,fun g hg=>?_⟩
 ·have:=hH.row 0 _ rfl rfl
  rw [rowA_nil rfl rfl] at this
  rw [← hcs]; exact this
 ·rcases List.mem_cons.1 hg with rfl | hg
  ·exact (hH.wf 0 _ rfl rfl).2.2 rfl
  ·exact (List.mem_append.1 hg).elim (hH.own _ oc rfl g) (hH.own _ ow rfl g)
attribute [local irreducible] Go.Calls hasC atP oI
def hallR (G:GrV) (f wy:Int):GrV×Int:=if hasC G.c f wy=true then (if atP G.waits (isW f wy)=none then ({ G with waits:=G.waits++[⟨f,wy,-1,G.now⟩] },0) else (G,0)) else (G,1)
theorem oI_some (k:Nat):oI (some k)=(k:Int):=by unfold oI; rfl
theorem oI_none:oI none = -1:=by unfold oI; rfl
theorem hallG {lo q:Nat} {G:GrV} {S:List Nat} {w:World} (hg:GO lo q G S w) (hl:G.waits.length≤10000) (f wy:Int):Calls Tryz.prog 36 #[.pointer (some ⟨q,0,none⟩),.int .i64 f,.int .i64 wy] w fun e w'=>e=.returned (.int .i64 (hallR G f wy).2)∧∃ S',GO lo q (hallR G f wy).1 S' w'∧Upd S w w'∧∀ g∈S',g∈S∨w.heap.size≤g:=by
 obtain ⟨A1,c1,A2,c2,h0,hS,hH⟩:=hold_go (n:=_) hg
 unfold hallR
 cases hC:hasC G.c f wy with
 | false =>
  rw [if_neg (by decide)]
  refine entH tab_ok (hH) [.p 0 0,.i .i64 f,.i .i64 wy] Tryz.func36 Tryz.ntmps36 rfl rfl ?_
  repeat' (first | refine gs_ ?_|((conv=>whnf); first | intro b | refine callH (f:=97) (.b (hasC G.c f wy)) (fun w hH=>hasCT q G _ _ f wy w (hH.row 0 _ rfl rfl)) ?_|refine fin_gn (by rfl) (by intro m; rfl) h0 (by rfl) (by rfl) (by rfl) (by rfl) (by intro m; rfl)|refine fin_s ?_))
 | true =>
  rw [if_pos rfl]
  cases hP:atP G.waits (isW f wy) with
  | some k =>
   rw [if_neg (by intro h; cases h)]
   have ho:oI (atP G.waits (isW f wy))=(k:Int):=by rw [hP,oI_some]
   refine entH tab_ok (hH) [.p 0 0,.i .i64 f,.i .i64 wy] Tryz.func36 Tryz.ntmps36 rfl rfl ?_
   repeat' (first | refine gs_ ?_|((conv=>whnf); first | intro b | refine bto ?_|refine bfo ?_|refine callH (f:=97) (.b (hasC G.c f wy)) (fun w hH=>hasCT q G _ _ f wy w (hH.row 0 _ rfl rfl)) ?_|refine callH (f:=29) (.i .i64 (oI (atP G.waits (isW f wy)))) (fun w hH=>findT lo q G _ A2 c2 f wy w (hH.row 0 _ rfl rfl) (hH.obj (waitsO lo A2 _ c2 G.waits true) (List.mem_cons_of_mem _ (List.mem_cons_self ..))) (by omega)) ?_|refine fin_gn (by rfl) (by intro m; rfl) h0 (by rfl) (by rfl) (by rfl) (by rfl) (by intro m; rfl)|refine fin_s ?_))
  | none =>
   rw [if_pos rfl]
   have ho:oI (atP G.waits (isW f wy)) = -1:=by rw [hP,oI_none]
   refine entH tab_ok (hH) [.p 0 0,.i .i64 f,.i .i64 wy] Tryz.func36 Tryz.ntmps36 rfl rfl ?_
   repeat' (first | refine gs_ ?_|((conv=>whnf); first | intro b | refine bto ?_|refine bfo ?_|refine callH (f:=97) (.b (hasC G.c f wy)) (fun w hH=>hasCT q G _ _ f wy w (hH.row 0 _ rfl rfl)) ?_|refine callH (f:=29) (.i .i64 (oI (atP G.waits (isW f wy)))) (fun w hH=>findT lo q G _ A2 c2 f wy w (hH.row 0 _ rfl rfl) (hH.obj (waitsO lo A2 _ c2 G.waits true) (List.mem_cons_of_mem _ (List.mem_cons_self ..))) (by omega)) ?_|refine opb1 (e:=76) ⟨tab_ok⟩ [.i .i64 f,.i .i64 wy,.i .i64 (-1),.i .i64 G.now] (by rfl) (by rfl) ?_|refine opap 1 2 (e:=76) (lo:=lo) (size:=4) (bytes:=32) (z:=.agg #[.int .i64 0,.int .i64 0,.int .i64 0,.int .i64 0]) (A:=waitsO lo A2 G.waits.length c2 G.waits true) (vals:=rowsOf waitL G.waits) (cells:=waitL (⟨f,wy,-1,G.now⟩:WaitV)) (zs:=rowsOf waitL (G.waits++[(⟨f,wy,-1,G.now⟩:WaitV)])) (n2:=G.waits.length+1) (fun A' c'=>waitsO lo A' (G.waits.length+1) c' (G.waits++[(⟨f,wy,-1,G.now⟩:WaitV)]) true) (by rfl) (by rfl) (by rfl) (by rfl) rfl rfl (fun w h=>h) (fun A' c' w h=>h) (fun _ _=>rfl) (by rfl) (by rfl) (by rfl) (by rfl) Tryz.underlying32 (by kernel_rfl) rfl (by decide) (by decide) (waitL_one _) (by omega) (fun w hH=>by have h:q < w.heap.size:=(hH.row 0 _ rfl rfl).lt; omega) rfl (by rw [rowsOf_append,rowsOf_one]) (fun A' c'=>?_)|refine fin_gn (by rfl) (by intro m; rfl) h0 (by rfl) (by simp) (by rfl) (by rfl) (by intro m; simp [denL,den,grpA])|refine fin_s ?_))
end Gr
namespace Gr
open Go.RowKit Ba Mem En Mo Go.Proofs.YtpiiblkiddcgcaaGreat.Ty Go.Proofs.YtpiiblkiddcgcaaGreat.St
open Ct (cfgA carA)
open Et (carsO)
set_option maxRecDepth 100000
attribute [local irreducible] Go.Calls
def hallX (a:WaitV) (x:CarV):CarV:={ x with su:=haU x.su a.fl a.wy,sd:=haD x.sd a.fl a.wy }
theorem assign1T (g off gw ow cp:Nat) (P S P2 S2:List Value) (x:CarV) (a:WaitV) (w:World) (hb:Blk w g 67 (el P (carA x) S)) (hp:P.length=off) (hw:Blk w gw 76 (el P2 (waitA a) S2)) (hp2:P2.length=ow) (hc:Blk w cp 123 #[.pointer (some ⟨gw,ow,none⟩)]):Calls Tryz.prog 78 #[.pointer (some ⟨g,off,none⟩),.pointer (some ⟨cp,0,none⟩)] w fun e w'=>e=.returned (.int .i64 0)∧Blk w' g 67 (el P (carA (hallX a x)) S)∧Upd [g] w w':=by
 refine entH tab_ok (Hold.addRow (Hold.addRow (hold_e0 (sCar x) hb hp rfl) ⟨gw,76,true,ow,P2,[.i .i64 a.fl,.i .i64 a.wy,.i .i64 a.ca,.i .i64 a.si],S2,false⟩ hw (by intro h; cases h) (by intro r hr _; rw [List.mem_singleton] at hr; subst hr; exact Blk.ne_ hb hw (by decide)) (by intro A hA; cases hA) (by rfl) hp2) ⟨cp,123,true,0,[],[.p 1 0],[],false⟩ hc (by intro h; cases h) (by intro r hr _; simp only [List.mem_append,List.mem_singleton] at hr; rcases hr with rfl | rfl <;> exact Blk.ne_ (by assumption) hc (by decide)) (by intro A hA; cases hA)) [.p 0 0,.p 2 0] Tryz.func78 Tryz.ntmps78 rfl rfl ?_
 repeat' (first | refine gs_ ?_|((conv=>whnf); first | intro b | refine b3_ (fun h=>?_) (fun h=>?_)|refine callS (f:=79) (.a [.i .u64 _,.i .u64 _,.i .u64 _]) (hallT _ _ _ _ _) ?_|refine fin_s ?_|refine fin_r ?_ ?_|refine fin_e ?_ ?_))
 all_goals rfl
end Gr
namespace Gr
open Go.RowKit Ba Mem Go.Proofs.YtpiiblkiddcgcaaGreat.Ty Mo Go.Proofs.YtpiiblkiddcgcaaGreat.St
open Ct (cfgA carA bdX tkV tkF tkW tkS tickT)
open Et (blL)
def okT (x:CarV):Prop:=bdX x∧(R x.sp∧R x.su∧R x.sd)∧(x.mo=1 → -1099511627776≤x.ta∧x.ta≤1099511627776)∧(-1000000000≤x.ti∧x.ti≤1000000000)∧(0≤x.un∧x.un≤252)∧(0≤x.wy∧x.wy≤2)
def okW (a:WaitV):Prop:=(0≤a.fl∧a.fl≤63)∧1≤a.wy∧a.wy≤2
theorem hallX_ok {a:WaitV} {x:CarV} (h:okT x):okT (hallX a x):=by
 obtain ⟨h1,⟨h2,h3,h4⟩,h5,h6,h7,h8⟩:=h
 refine ⟨h1,⟨h2, ?_, ?_⟩,h5,h6,h7,h8⟩
 ·show R (haU x.su a.fl a.wy)
  unfold haU; split
  ·exact or_R h3 (bit_R _)
  ·exact h3
 ·show R (haD x.sd a.fl a.wy)
  unfold haD; split
  ·exact or_R h4 (bit_R _)
  ·exact h4
def bestI (c:CfgV) (cs:List CarV) (a:WaitV):Int:=(blL c a.fl a.wy cs cs.length).1
def giveC (cs:List CarV) (a:WaitV) (b:Int):List CarV:=if 0≤b then cs.modify b.toNat (hallX a) else cs
def asgStep (c:CfgV) (p:List WaitV×List CarV) (i:Nat):List WaitV×List CarV :=
 match p.1[i]? with
 | none=>p
 | some a=>if a.ca = -1 then (p.1.set i { a with ca:=bestI c p.2 a },giveC p.2 a (bestI c p.2 a)) else p
def asgN (c:CfgV) (ws:List WaitV) (cs:List CarV):Nat→List WaitV×List CarV
 | 0=>(ws,cs)
 | i+1=>asgStep c (asgN c ws cs i) i
theorem giveC_len (cs:List CarV) (a:WaitV) (b:Int):(giveC cs a b).length=cs.length:=by unfold giveC; split <;> simp
theorem step_len (c:CfgV) (p:List WaitV×List CarV) (i:Nat):(asgStep c p i).1.length=p.1.length∧(asgStep c p i).2.length=p.2.length:=by
 unfold asgStep
 split
 ·exact ⟨rfl,rfl⟩
 ·split
  ·exact ⟨by simp,giveC_len _ _ _⟩
  ·exact ⟨rfl,rfl⟩
theorem asg_len (c:CfgV) (ws:List WaitV) (cs:List CarV):∀ i,(asgN c ws cs i).1.length=ws.length∧(asgN c ws cs i).2.length=cs.length
 | 0=>⟨rfl,rfl⟩
 | i+1=>by
  have h:=asg_len c ws cs i
  have h2:=step_len c (asgN c ws cs i) i
  exact ⟨h2.1.trans h.1,h2.2.trans h.2⟩
theorem giveC_ok {cs:List CarV} {a:WaitV} {b:Int} (h:∀ x∈cs,okT x):∀ x∈giveC cs a b,okT x:=by
 intro x hx
 unfold giveC at hx
 split at hx
 ·obtain ⟨i,hi,rfl⟩:=List.mem_iff_getElem.1 hx
  rw [List.getElem_modify]
  split
  ·exact hallX_ok (h _ (List.getElem_mem _))
  ·exact h _ (List.getElem_mem _)
 ·exact h x hx
theorem step_ok {c:CfgV} {p:List WaitV×List CarV} {i:Nat} (hw:∀ a∈p.1,okW a) (hc:∀ x∈p.2,okT x):(∀ a∈(asgStep c p i).1,okW a)∧∀ x∈(asgStep c p i).2,okT x:=by
 unfold asgStep
 split
 ·exact ⟨hw,hc⟩
 ·rename_i a ha
  split
  ·refine ⟨fun y hy=>?_,giveC_ok hc⟩
   rcases List.mem_or_eq_of_mem_set hy with h | h
   ·exact hw y h
   ·rw [h]; exact hw a (List.mem_of_getElem? ha)
  ·exact ⟨hw,hc⟩
theorem asg_ok {c:CfgV} {ws:List WaitV} {cs:List CarV} (hw:∀ a∈ws,okW a) (hc:∀ x∈cs,okT x):∀ i,(∀ a∈(asgN c ws cs i).1,okW a)∧∀ x∈(asgN c ws cs i).2,okT x
 | 0=>⟨hw,hc⟩
 | i+1=>step_ok (asg_ok hw hc i).1 (asg_ok hw hc i).2
def tkStep (c:CfgV) (p:List CarV×List WaitV×List WaitV) (i:Nat):List CarV×List WaitV×List WaitV :=
 match p.1[i]? with
 | none=>p
 | some x=>match (if tkS x=true then atP p.2.1 (isW (tkF x) (tkW x)) else none) with
  | none=>(p.1.set i (tkV c x),p.2)
  | some k=>(p.1.set i (tkV c x),p.2.1.eraseIdx k,p.2.2++(p.2.1[k]?).toList)
def tkN (c:CfgV) (cs:List CarV) (ws:List WaitV):Nat→List CarV×List WaitV×List WaitV
 | 0=>(cs,ws,[])
 | i+1=>tkStep c (tkN c cs ws i) i
theorem tkS_len (c:CfgV) (p:List CarV×List WaitV×List WaitV) (i:Nat):(tkStep c p i).1.length=p.1.length:=by
 unfold tkStep
 split
 ·rfl
 ·split <;> simp
theorem tkS_at (c:CfgV) (p:List CarV×List WaitV×List WaitV) (i j:Nat) (h:i≠j):(tkStep c p i).1[j]?=p.1[j]?:=by
 unfold tkStep
 split
 ·rfl
 ·split <;> simp [List.getElem?_set,h]
theorem tk_len (c:CfgV) (cs:List CarV) (ws:List WaitV):∀ i,(tkN c cs ws i).1.length=cs.length
 | 0=>rfl
 | i+1=>(tkS_len c _ i).trans (tk_len c cs ws i)
theorem tk_at (c:CfgV) (cs:List CarV) (ws:List WaitV):∀ i j,i≤j→(tkN c cs ws i).1[j]?=cs[j]?
 | 0,_,_=>rfl
 | i+1,j,h=>(tkS_at c _ i j (by omega)).trans (tk_at c cs ws i j (by omega))
theorem tkS_wl (c:CfgV) (p:List CarV×List WaitV×List WaitV) (i:Nat):(tkStep c p i).2.1.length≤p.2.1.length∧(tkStep c p i).2.2.length≤p.2.2.length+1:=by
 unfold tkStep
 split
 ·exact ⟨Nat.le_refl _,Nat.le_succ _⟩
 ·split
  ·exact ⟨Nat.le_refl _,Nat.le_succ _⟩
  ·rename_i k hk
   refine ⟨List.length_eraseIdx_le _ _, ?_⟩
   have:(p.2.1[k]?).toList.length≤1:=by cases p.2.1[k]? <;> simp
   simp only [List.length_append]
   omega
theorem tk_wl (c:CfgV) (cs:List CarV) (ws:List WaitV):∀ i,(tkN c cs ws i).2.1.length≤ws.length∧(tkN c cs ws i).2.2.length≤i
 | 0=>⟨Nat.le_refl _,Nat.le_refl _⟩
 | i+1=>by
  have h:=tk_wl c cs ws i
  have h2:=tkS_wl c (tkN c cs ws i) i
  exact ⟨Nat.le_trans h2.1 h.1,Nat.le_trans h2.2 (by omega)⟩
def tickP (G:GrV):List CarV×List WaitV×List WaitV:=tkN G.c (asgN G.c G.waits G.cars G.waits.length).2 (asgN G.c G.waits G.cars G.waits.length).1 G.cars.length
def tickG (G:GrV):GrV:=⟨G.c,(tickP G).1,(tickP G).2.1,Tm.cl (Tm.cl G.now+Tm.cl 1)⟩
theorem bl_rng (c:CfgV) (f cw:Int) (ls:List CarV):∀ k,-1≤(blL c f cw ls k).1∧(blL c f cw ls k).1 < (k:Int)∧(blL c f cw ls k).1 < (ls.length:Int)
 | 0=>by unfold blL; omega
 | k+1=>by
  have h:=bl_rng c f cw ls k
  unfold blL
  split
  ·omega
  ·rename_i x hx
   have:=(List.getElem?_eq_some_iff.1 hx).1
   split
   ·show -1≤(k:Int)∧(k:Int) < ((k+1:Nat):Int)∧(k:Int) < (ls.length:Int)
    omega
   ·omega
end Gr
namespace Gr
open Go.RowKit Ba Mem En Mo Go.Proofs.YtpiiblkiddcgcaaGreat.Ty Go.Proofs.YtpiiblkiddcgcaaGreat.St
open Ct (cfgA carA)
open Et (carsO blL bestT inL)
set_option maxRecDepth 100000
attribute [local irreducible] Go.Calls
theorem bestI_eq {c:CfgV} {cs:List CarV} {a:WaitV} {n:Nat} (h:cs.length=n):bestI c cs a=(blL c a.fl a.wy cs n).1:=by subst h; rfl
theorem bestI_rng (c:CfgV) (cs:List CarV) (a:WaitV) : -1≤bestI c cs a∧bestI c cs a < (cs.length:Int):=⟨(bl_rng c a.fl a.wy cs cs.length).1,(bl_rng c a.fl a.wy cs cs.length).2.2⟩
attribute [local irreducible] bestI
theorem mod_set {α:Type} {l:List α} {i:Nat} {x:α} (f:α→α) (h:l[i]?=some x):l.modify i f=l.set i (f x):=by
 apply List.ext_getElem?
 intro j
 rw [List.getElem?_modify,List.getElem?_set]
 by_cases hj:i=j
 ·subst hj
  obtain ⟨h1,h2⟩:=List.getElem?_eq_some_iff.1 h
  subst h2
  simp [h1]
 ·simp [hj]
theorem set_same {α:Type} {l:List α} {k:Nat} {a:α} (h:l[k]?=some a):l.set k a=l:=by
 obtain ⟨h1,h2⟩:=List.getElem?_eq_some_iff.1 h
 subst h2
 exact List.set_getElem_self h1
theorem inL_of {x:CarV} (h:okT x):inL x:=⟨h.2.2.2.2.1,h.2.1⟩
theorem assignT (lo q:Nat) (G:GrV) (A1 A2:Option Addr) (c1 c2:Nat) (w:World) (hq:Blk w q 70 (grpA G (.slice A1 G.cars.length c1) (.slice A2 G.waits.length c2))) (hO:(carsO lo A1 G.cars.length c1 G.cars true).st w∧(waitsO lo A2 G.waits.length c2 G.waits true).st w) (hd:∀ g∈blkOf A1,g∉blkOf A2) (hl1:G.cars.length≤10000) (hl2:G.waits.length≤10000) (hk1:∀ x∈G.cars,okT x) (hk2:∀ a∈G.waits,okW a) :
  Calls Tryz.prog 27 #[.pointer (some ⟨q,0,none⟩)] w fun e w'=>e=.returned (.tuple #[])∧CarsAt lo A1 G.cars.length c1 (asgN G.c G.waits G.cars G.waits.length).2 w'∧WaitsAt lo A2 G.waits.length c2 (asgN G.c G.waits G.cars G.waits.length).1 w'∧Upd (blkOf A1++blkOf A2) w w':=by
 obtain ⟨g,hA⟩:∃ g,0 < G.waits.length→A2=some ⟨g,0,none⟩:=by
  rcases own_at hO.2 with ⟨_,h0,_⟩ | ⟨g,_,h1,_⟩
  ·exact ⟨0,fun k=>by omega⟩
  ·exact ⟨g,fun _=>h1⟩
 have ho:=fun k=>asg_ok (c:=G.c) hk2 hk1 k
 have hn:=fun k=>asg_len G.c G.waits G.cars k
 refine entH tab_ok (Hold.addObj (Hold.addObj (hold_q (S:=blkOf A1++blkOf A2) [.i .i64 G.c.ca,.i .i64 G.c.fl,.i .i64 G.c.ft,.i .i64 G.c.se,.i .i64 G.c.dr,.i .i64 G.c.dw,.i .i64 G.c.ho,.i .i64 G.c.re,.i .i64 G.c.yi,.i .i64 G.c.qu,.i .i64 G.c.qo,.i .i64 G.c.lo,.i .i64 G.c.sl,.i .i64 G.c.rt,.i .i64 G.c.cp,.i .i64 G.c.tr,.i .i64 G.c.de,.i .i64 G.c.wi,.v (.slice A1 G.cars.length c1),.v (.slice A2 G.waits.length c2),.i .i64 G.now] hq) (carsO lo A1 G.cars.length c1 G.cars true) hO.1 (fun _ g hg=>.inl (List.mem_append.2 (.inl hg))) (by intro r hr _; rw [List.mem_singleton] at hr; subst hr; exact own_ne_ty hO.1 hq (by decide)) (by intro A hA; cases hA)) (waitsO lo A2 G.waits.length c2 G.waits true) hO.2 (fun _ g hg=>.inl (List.mem_append.2 (.inr hg))) (by intro r hr _; rw [List.mem_singleton] at hr; subst hr; exact own_ne_ty hO.2 hq (by decide)) (by intro A hA; simp only [List.nil_append,List.mem_singleton] at hA; subst hA; exact fun _ g hg=>hd g hg)) [.p 0 0] Tryz.func27 Tryz.ntmps27 rfl rfl ?_
 repeat' (first | refine gs_ ?_|((conv=>whnf); first | intro b | refine b3_ (fun h=>?_) (fun h=>?_)|refine fin_s ?_))
 conv=>whnf
 refine lpS ⟨tab_ok⟩ (ι:={k:Nat // k≤G.waits.length}) (fun x=>match x with | ⟨k,_⟩=>⟨[(0,.p 0 0),(8,.i .i64 G.waits.length),(9,.i .i64 (k:Int))],[⟨q,70,true,0,[],[.i .i64 G.c.ca,.i .i64 G.c.fl,.i .i64 G.c.ft,.i .i64 G.c.se,.i .i64 G.c.dr,.i .i64 G.c.dw,.i .i64 G.c.ho,.i .i64 G.c.re,.i .i64 G.c.yi,.i .i64 G.c.qu,.i .i64 G.c.qo,.i .i64 G.c.lo,.i .i64 G.c.sl,.i .i64 G.c.rt,.i .i64 G.c.cp,.i .i64 G.c.tr,.i .i64 G.c.de,.i .i64 G.c.wi,.v (.slice A1 G.cars.length c1),.v (.slice A2 G.waits.length c2),.i .i64 G.now],[],false⟩],[carsO lo A1 G.cars.length c1 (asgN G.c G.waits G.cars k).2 true,waitsO lo A2 G.waits.length c2 (asgN G.c G.waits G.cars k).1 true]⟩) (fun x=>G.waits.length - x.1) ⟨0,Nat.zero_le _⟩ (wk ?_) ?_
 ·repeat' (first | exact trivial | rfl | ((conv=>whnf); refine And.intro ?_ ?_))
 rintro ⟨k,hk⟩
 by_cases hlt:k < G.waits.length
 ·obtain rfl:=hA (by omega)
  obtain ⟨a,ha⟩:∃ a,(asgN G.c G.waits G.cars k).1[k]?=some a:=⟨_,List.getElem?_eq_getElem (by rw [(hn k).1]; exact hlt)⟩
  have hka:=(ho k).1 a (List.mem_of_getElem? ha)
  have hs:asgN G.c G.waits G.cars (k+1)=asgStep G.c (asgN G.c G.waits G.cars k) k:=rfl
  refine sm_open ⟨tab_ok⟩ (π:=wPS lo g G.waits.length c2 k (asgN G.c G.waits G.cars k).1) 1 (fun p=>⟨g,76,true,0+k*4,p.1.1,[.i .i64 a.fl,.i .i64 a.wy,.i .i64 a.ca,.i .i64 a.si],p.1.2,true⟩) (by rfl) (by rfl) (fun w hw=>wait_open hw ha) (fun p=>rfl) (fun p=>?_)
  by_cases hca:a.ca = -1
  ·have hb:=bestI_rng G.c (asgN G.c G.waits G.cars k).2 a
   rw [(hn k).2] at hb
   by_cases hb0:0≤bestI G.c (asgN G.c G.waits G.cars k).2 a
   ·obtain ⟨kk,hkk⟩:∃ kk:Nat,bestI G.c (asgN G.c G.waits G.cars k).2 a=(kk:Int):=⟨_,(Int.toNat_of_nonneg hb0).symm⟩
    have hkl:kk < (asgN G.c G.waits G.cars k).2.length:=by rw [(hn k).2]; omega
    obtain ⟨g1,rfl⟩:=own_addr hO.1 (by omega)
    have he:asgN G.c G.waits G.cars (k+1)=((asgN G.c G.waits G.cars k).1.set k { a with ca:=bestI G.c (asgN G.c G.waits G.cars k).2 a },(asgN G.c G.waits G.cars k).2.set kk (hallX a (asgN G.c G.waits G.cars k).2[kk])):=by
     rw [hs]; unfold asgStep; rw [ha]; simp only [hca,if_true]; unfold giveC; rw [if_pos hb0,hkk]
     rw [show (asgN G.c G.waits G.cars k).2.modify ((kk:Int).toNat) (hallX a)=(asgN G.c G.waits G.cars k).2.set kk (hallX a (asgN G.c G.waits G.cars k).2[kk]) by rw [Int.toNat_natCast]; exact mod_set _ (List.getElem?_eq_getElem hkl)]
    repeat' (first | refine gs_ ?_|((conv=>whnf); first | intro b | refine bto ?_|refine bfo ?_|refine wr_i ?_|refine b3_ (fun h=>?_) (fun h=>?_)|refine opir ⟨tab_ok⟩ 1 (by rfl) (by rfl) (by rfl) (by rfl) (by rfl) (by rfl) (by rfl) ⟨⟨by omega,by omega⟩,by show 0+k*4=_; simp⟩ ?_|refine callH (f:=76) (.i .i64 (bestI G.c (asgN G.c G.waits G.cars k).2 a)) (fun w hH=>by have:=bestT G.c a.fl a.wy lo _ _ c1 _ w (hH.obj (carsO lo _ _ c1 (asgN G.c G.waits G.cars k).2 true) (List.mem_cons_self ..)) (hn k).2 (by omega) hka.1 (fun x hx=>inL_of ((ho k).2 x hx)); rw [← bestI_eq (hn k).2] at this; exact this) ?_|refine callO (f:=77) 0 (fun _:Unit=>.i .i64 0) (fun _=>carsO lo (some ⟨g1,0,none⟩) G.cars.length c1 ((asgN G.c G.waits G.cars k).2.set kk (hallX a (asgN G.c G.waits G.cars k).2[kk])) true) (fun w hH hA=>chg1 (hH.row 0 _ rfl rfl) hA (hH.far _ (List.mem_cons_self ..) 0 _ rfl rfl) hkk hkl (hn k).2 (by kernel_rfl) (fun w1 P S hu hP hB=>assign1T g1 _ g (0+k*4) _ P S p.1.1 p.1.2 _ { a with ca:=bestI G.c (asgN G.c G.waits G.cars k).2 a } w1 hB hP (hu.blk (hH.row 1 _ rfl rfl) (hH.far _ (List.mem_cons_self ..) 1 _ rfl rfl)) p.2.1 (hu.blk (hH.row 2 _ rfl rfl) (hH.far _ (List.mem_cons_self ..) 2 _ rfl rfl)))) (fun _=>?_)|refine back ⟨k+1,by omega⟩ (wk_close 1 (waitsO lo (some ⟨g,0,none⟩) G.waits.length c2 (asgN G.c G.waits G.cars (k+1)).1 true) 1 ?_ (fun w' hB=>?_) (by rfl) (by rfl) (by rfl) (by rfl) (by rfl) (by show [carsO lo _ G.cars.length c1 (asgN G.c G.waits G.cars (k+1)).2 true,_]=_; rw [he]; rfl)) ?_|refine fin_s ?_))
    all_goals first | (show G.waits.length - (k+1) < G.waits.length - k; omega)|skip
    all_goals first
     | (show WaitsAt _ _ _ _ _ _; rw [he]; exact p.2.2 _ _ hB)
     | (repeat' (first | exact trivial | rfl | ((conv=>whnf); refine And.intro ?_ ?_)))
   ·have he:asgN G.c G.waits G.cars (k+1)=((asgN G.c G.waits G.cars k).1.set k { a with ca:=bestI G.c (asgN G.c G.waits G.cars k).2 a },(asgN G.c G.waits G.cars k).2):=by
     rw [hs]; unfold asgStep; rw [ha]; simp only [hca,if_true]; unfold giveC; rw [if_neg hb0]
    repeat' (first | refine gs_ ?_|((conv=>whnf); first | intro b | refine bto ?_|refine bfo ?_|refine wr_i ?_|refine b3_ (fun h=>?_) (fun h=>?_)|refine opir ⟨tab_ok⟩ 1 (by rfl) (by rfl) (by rfl) (by rfl) (by rfl) (by rfl) (by rfl) ⟨⟨by omega,by omega⟩,by show 0+k*4=_; simp⟩ ?_|refine callH (f:=76) (.i .i64 (bestI G.c (asgN G.c G.waits G.cars k).2 a)) (fun w hH=>by have:=bestT G.c a.fl a.wy lo _ _ c1 _ w (hH.obj (carsO lo _ _ c1 (asgN G.c G.waits G.cars k).2 true) (List.mem_cons_self ..)) (hn k).2 (by omega) hka.1 (fun x hx=>inL_of ((ho k).2 x hx)); rw [← bestI_eq (hn k).2] at this; exact this) ?_|refine callH (f:=77) (.i .i64 1) (fun w hH=>change0 q G A1 _ c1 _ _ _ w (hH.row 0 _ rfl rfl) (.inl (by omega))) ?_|refine back ⟨k+1,by omega⟩ (wk_close 1 (waitsO lo (some ⟨g,0,none⟩) G.waits.length c2 (asgN G.c G.waits G.cars (k+1)).1 true) 1 ?_ (fun w' hB=>?_) (by rfl) (by rfl) (by rfl) (by rfl) (by rfl) (by show [carsO lo _ G.cars.length c1 (asgN G.c G.waits G.cars (k+1)).2 true,_]=_; rw [he]; rfl)) ?_|refine fin_s ?_))
    all_goals first | (show G.waits.length - (k+1) < G.waits.length - k; omega)|skip
    all_goals first
     | (show WaitsAt _ _ _ _ _ _; rw [he]; exact p.2.2 _ _ hB)
     | (repeat' (first | exact trivial | rfl | ((conv=>whnf); refine And.intro ?_ ?_)))
  ·have he:asgN G.c G.waits G.cars (k+1)=asgN G.c G.waits G.cars k:=by
    rw [hs]; unfold asgStep; rw [ha]; simp only [hca,if_false]
   repeat' (first | refine gs_ ?_|((conv=>whnf); first | intro b | refine bto ?_|refine bfo ?_|refine wr_i ?_|refine opir ⟨tab_ok⟩ 1 (by rfl) (by rfl) (by rfl) (by rfl) (by rfl) (by rfl) (by rfl) ⟨⟨by omega,by omega⟩,by show 0+k*4=_; simp⟩ ?_|refine back ⟨k+1,by omega⟩ (wk_close 1 (waitsO lo (some ⟨g,0,none⟩) G.waits.length c2 (asgN G.c G.waits G.cars (k+1)).1 true) 1 ?_ (fun w' hB=>?_) (by rfl) (by rfl) (by rfl) (by rfl) (by rfl) (by show [carsO lo _ G.cars.length c1 (asgN G.c G.waits G.cars (k+1)).2 true,_]=_; rw [he]; rfl)) ?_|refine fin_s ?_))
   all_goals first | (show G.waits.length - (k+1) < G.waits.length - k; omega)|skip
   all_goals first
    | (show WaitsAt _ _ _ _ _ _; rw [he]; have q0:=p.2.2 a _ hB; rwa [set_same ha] at q0)
    | (repeat' (first | exact trivial | rfl | ((conv=>whnf); refine And.intro ?_ ?_)))
 ·refine sm_run ⟨tab_ok⟩ ?_
  repeat' (first | refine gs_ ?_|((conv=>whnf); first | intro b | refine bto ?_|refine bfo ?_|refine wr_i ?_|refine b3_ (fun h=>?_) (fun h=>?_)|refine fin fun w' hH=>⟨rfl, ?_, ?_,hH.upd⟩|refine fin_s ?_))
  all_goals obtain rfl:k=G.waits.length:=by omega
  ·exact hH.obj _ (List.mem_cons_self ..)
  ·exact hH.obj (waitsO lo A2 G.waits.length c2 _ true) (List.mem_cons_of_mem _ (List.mem_cons_self ..))
end Gr
namespace Gr
open Go.RowKit Ba Mem En Mo Go.Proofs.YtpiiblkiddcgcaaGreat.Ty Go.Proofs.YtpiiblkiddcgcaaGreat.St
open Ct (cfgA carA tkV tkF tkW tkS tickT)
open Et (carsO inL)
open Tm (cl)
open Tw (addT)
set_option maxRecDepth 100000
attribute [local irreducible] Go.Calls
abbrev cPS (lo g n c k:Nat) (ls:List CarV):={x:List Value×List Value // x.1.length=0+k*15∧∀ y w',Blk w' g 67 (el x.1 (carA y) x.2)→CarsAt lo (some ⟨g,0,none⟩) n c (ls.set k y) w'}
theorem car_open {lo g n c k:Nat} {ls:List CarV} {w:World} {x:CarV} (h:CarsAt lo (some ⟨g,0,none⟩) n c ls w) (hx:ls[k]?=some x):∃ p:cPS lo g n c k ls,g∈blkOf (some ⟨g,0,none⟩)∧p.1.1.length=0+k*15∧Blk w g 67 (el p.1.1 (carA x) p.1.2):=by
 obtain ⟨hi,rfl⟩:=List.getElem?_eq_some_iff.1 hx
 obtain ⟨P,S,hP,hB,hb⟩:=own_el carL_len h hi
 exact ⟨⟨(P,S),hP,fun y w' hB'=>hb y w' hB'⟩,by simp [blkOf],hP,hB⟩
theorem waits_cap {lo g n c:Nat} {ls:List WaitV} {w:World} (h:WaitsAt lo (some ⟨g,0,none⟩) n c ls w):n≤c:=by
 rcases h.2 with ⟨hv,_⟩ | ⟨_,_,_,hv,_,_,hc,_⟩
 ·simp at hv
 ·simp at hv; omega
theorem tk_okc {c:CfgV} {cs:List CarV} {ws:List WaitV} {k:Nat} {x:CarV} (h:∀ x∈cs,okT x) (hx:(tkN c cs ws k).1[k]?=some x):okT x:=by
 rw [tk_at c cs ws k k (Nat.le_refl _)] at hx
 exact h x (List.mem_of_getElem? hx)
attribute [local irreducible] atP oI tkS tkV tkF tkW bestI
def nowV (n:Int):Int:=cl (cl n+cl 1)
attribute [local irreducible] cl
def GrV.adv (G:GrV):GrV:=⟨G.c,G.cars,G.waits,nowV G.now⟩
set_option maxHeartbeats 4000000 in
theorem tickGT {lo q:Nat} {G:GrV} {S:List Nat} {w:World} (hg:GO lo q G S w) (hl1:G.cars.length≤10000) (hl2:G.waits.length≤10000) (hk1:∀ x∈G.cars,okT x) (hk2:∀ a∈G.waits,okW a) :
  Calls Tryz.prog 8 #[.pointer (some ⟨q,0,none⟩)] w fun e w'=>∃ A' c',e=.returned (.slice A' (tickP G).2.2.length c')∧WaitsAt w.heap.size A' (tickP G).2.2.length c' (tickP G).2.2 w'∧GO lo q (tickG G) S w'∧Upd S w w':=by
 obtain ⟨A1,c1,A2,c2,h0,hS,hH⟩:=hold_go (n:=_) hg
 have hd:∀ w1,CarsAt lo A1 G.cars.length c1 (asgN G.c G.waits G.cars G.waits.length).2 w1→WaitsAt lo A2 G.waits.length c2 (asgN G.c G.waits G.cars G.waits.length).1 w1→∀ g∈blkOf A1,g∉blkOf A2:=fun w1 O1 O2 g hg hg2=>by
  rcases own_at O1 with ⟨h,_⟩ | ⟨g1,cur,h,_,B1,_⟩
  ·subst h; cases hg
  ·subst h
   have:g=g1:=by simpa [blkOf] using hg
   subst this
   exact own_ne_ty O2 B1 (by decide) hg2
 have hd0:∀ w1,CarsAt lo A1 G.cars.length c1 G.cars w1→WaitsAt lo A2 G.waits.length c2 G.waits w1→∀ g∈blkOf A1,g∉blkOf A2:=fun w1 O1 O2 g hg hg2=>by
  rcases own_at O1 with ⟨h,_⟩ | ⟨g1,cur,h,_,B1,_⟩
  ·subst h; cases hg
  ·subst h
   have:g=g1:=by simpa [blkOf] using hg
   subst this
   exact own_ne_ty O2 B1 (by decide) hg2
 have hkc:=(asg_ok (c:=G.c) hk2 hk1 G.waits.length).2
 obtain ⟨hn1,hn2⟩:=asg_len G.c G.waits G.cars G.waits.length
 refine entH tab_ok (Hold.addObj (hold_pair hH rfl rfl) (waitsO w.heap.size none 0 0 [] true) (World.ownsRow_nil _ _ _ _) (by intro _ g hg; cases hg) (by intro r _ _ hg; cases hg) (by intro A hA _ g hg hg2; cases hg2)) [.p 0 0] Tryz.func8 Tryz.ntmps8 rfl rfl ?_
 repeat' (first | refine gs_ ?_|((conv=>whnf); first | intro b | refine callS (f:=26) (.i .i64 (nowV _)) (addT _ 1) ?_|refine callO (f:=27) 0 (A:=pairO (carsO lo A1 G.cars.length c1 G.cars true) (waitsO lo A2 G.waits.length c2 G.waits true)) (fun _:Unit=>.t []) (fun _=>pairO (carsO lo A1 G.cars.length c1 (asgN G.c G.waits G.cars G.waits.length).2 true) (waitsO lo A2 G.waits.length c2 (asgN G.c G.waits G.cars G.waits.length).1 true)) (fun w hH hA=>(assignT lo q { G with now:=nowV G.now } A1 A2 c1 c2 w (hH.row 0 _ rfl rfl) hA (hd0 _ hA.1 hA.2) hl1 hl2 hk1 hk2).mono (by rintro e w' ⟨rfl,h1,h2,h3⟩; exact ⟨(),rfl,⟨h1,h2⟩,h3,fun _ h=>.inl h⟩)) (fun _=>?_)|refine fin_s ?_))
 conv=>whnf
 generalize hcs:(asgN G.c G.waits G.cars G.waits.length).2=cs at *
 generalize hws:(asgN G.c G.waits G.cars G.waits.length).1=ws at *
 have hpl:∀ k,(tkN G.c cs ws k).1.length=G.cars.length:=fun k=>by rw [tk_len,hn2]
 have hwl:∀ k,(tkN G.c cs ws k).2.1.length≤G.waits.length∧(tkN G.c cs ws k).2.2.length≤k:=fun k=>by have:=tk_wl G.c cs ws k; omega
 refine sm_hold _ [carsO lo A1 G.cars.length c1 cs true,waitsO lo A2 G.waits.length c2 ws true,waitsO w.heap.size none 0 0 [] true] (by rfl) (fun w1 hH=>Hold.unpair hH rfl rfl (hd w1)) ?_
 refine lpS ⟨tab_ok⟩ (ι:={x:(Nat×Option Addr×Nat)×(List CarV×List WaitV×List WaitV) // x.1.1≤G.cars.length∧tkN G.c cs ws x.1.1=x.2}) (fun x=>match x with | ⟨((k,A3,c3),(tc,tw,ts)),_⟩=>⟨[(0,.p 0 0),(3,.v (.slice A3 ts.length c3)),(25,.i .i64 G.cars.length),(26,.i .i64 (k:Int))],[⟨q,70,true,0,[],[.i .i64 G.adv.c.ca,.i .i64 G.adv.c.fl,.i .i64 G.adv.c.ft,.i .i64 G.adv.c.se,.i .i64 G.adv.c.dr,.i .i64 G.adv.c.dw,.i .i64 G.adv.c.ho,.i .i64 G.adv.c.re,.i .i64 G.adv.c.yi,.i .i64 G.adv.c.qu,.i .i64 G.adv.c.qo,.i .i64 G.adv.c.lo,.i .i64 G.adv.c.sl,.i .i64 G.adv.c.rt,.i .i64 G.adv.c.cp,.i .i64 G.adv.c.tr,.i .i64 G.adv.c.de,.i .i64 G.adv.c.wi,.v (.slice A1 G.cars.length c1),.v (.slice A2 tw.length c2),.i .i64 G.adv.now],[],true⟩],[carsO lo A1 G.cars.length c1 tc true,waitsO lo A2 tw.length c2 tw true,waitsO w.heap.size A3 ts.length c3 ts true]⟩) (fun x=>G.cars.length - x.1.1.1) ⟨((0,none,0),(cs,ws,[])),Nat.zero_le _,rfl⟩ (wk ?_ (congrArg (fun z=>goM q G.adv A1 G.cars.length c1 A2 z c2) hn1) (by rfl) (congrArg (fun z=>[carsO lo A1 G.cars.length c1 cs true,waitsO lo A2 z c2 ws true,waitsO w.heap.size none 0 0 [] true]) hn1)) ?_
 ·repeat' (first | exact trivial | rfl | ((conv=>whnf); refine And.intro ?_ ?_))
 rintro ⟨⟨⟨k,A3,c3⟩,⟨tc,tw,ts⟩⟩,hk,hT⟩
 have hk:k≤G.cars.length:=hk
 have hT:tkN G.c cs ws k=(tc,tw,ts):=hT
 have l1:tc.length=G.cars.length:=by have:=hpl k; rw [hT] at this; exact this
 have l2:tw.length≤G.waits.length∧ts.length≤k:=by have:=hwl k; rw [hT] at this; exact this
 by_cases hlt:k < G.cars.length
 ·obtain ⟨g,rfl⟩:=own_addr (hH.obj (carsO lo A1 _ c1 _ true) (List.mem_cons_self ..)) (by omega)
  obtain ⟨x,hx⟩:∃ x,tc[k]?=some x:=⟨_,List.getElem?_eq_getElem (by omega)⟩
  have hkx:okT x:=tk_okc (ws:=ws) (c:=G.c) (k:=k) hkc (by rw [hT]; exact hx)
  have hs:tkN G.c cs ws (k+1)=tkStep G.c (tc,tw,ts) k:=by rw [← hT]; rfl
  refine sm_open ⟨tab_ok⟩ (π:=cPS lo g G.cars.length c1 k tc) 0 (fun p=>⟨g,67,true,0+k*15,p.1.1,(sCar x),p.1.2,true⟩) (by rfl) (by rfl) (fun w hw=>car_open hw hx) (fun p=>rfl) (fun p=>?_)
  by_cases hin:tkS x=true∧(atP tw (isW (tkF x) (tkW x))).isSome=true
  ·obtain ⟨hSv,hat⟩:=hin
   obtain ⟨kk,hkk⟩:=Option.isSome_iff_exists.1 hat
   obtain ⟨hkl,_,_⟩:=atP_some hkk
   obtain ⟨a,ha⟩:∃ a,tw[kk]?=some a:=⟨_,List.getElem?_eq_getElem hkl⟩
   have ho:oI (atP tw (isW (tkF x) (tkW x)))=(kk:Int):=by rw [hkk,oI_some]
   have he:tkN G.c cs ws (k+1)=(tc.set k (tkV G.c x),tw.eraseIdx kk,ts++[a]):=by rw [hs]; unfold tkStep; simp only [hx,hSv,if_true,hkk,ha,Option.toList]
   have hm:tw.length=(tw.eraseIdx kk).length+1:=by rw [List.length_eraseIdx_of_lt hkl]; omega
   obtain ⟨g2,rfl⟩:=own_addr (hH.obj (waitsO lo A2 _ c2 _ true) (List.mem_cons_of_mem _ (List.mem_cons_self ..))) (by omega)
   repeat' (first | refine gs_ ?_|((conv=>whnf); first | intro b | refine bto ?_|refine bfo ?_|refine wr_i ?_|refine And.intro ?_ ?_|refine puir ⟨tab_ok⟩ 1 (by rfl) (by rfl) (by rfl) (by rfl) (by rfl) (by rfl) (by rfl) ⟨⟨by omega,by omega⟩,by show 0+k*15=_; simp⟩ ?_|refine opir ⟨tab_ok⟩ 1 (by rfl) (by rfl) (by rfl) (by rfl) (by rfl) (by rfl) (by rfl) ⟨⟨by omega,by omega⟩,by show 0+k*15=_; simp⟩ ?_|refine callS (f:=28) (.t [.a [.i .i64 (tkV G.c x).ds,.i .i64 (tkV G.c x).da,.i .i64 (tkV G.c x).un,.i .i64 (tkV G.c x).wy,.i .i64 (tkV G.c x).ti,.i .i64 (tkV G.c x).ju,.i .i64 (tkV G.c x).lo,.b (tkV G.c x).bl,.b (tkV G.c x).br,.i .i64 (tkV G.c x).mo,.i .i64 (tkV G.c x).ta,.b (tkV G.c x).ho,.i .u64 (tkV G.c x).sp,.i .u64 (tkV G.c x).su,.i .u64 (tkV G.c x).sd],.a [.i .i64 (tkF x),.i .i64 (tkW x)],.b (tkS x)]) (fun w=>tickT G.c x w hkx.1 hkx.2.1.1 hkx.2.1.2.1 hkx.2.1.2.2 hkx.2.2.1 hkx.2.2.2.1.1 hkx.2.2.2.1.2) ?_|refine callH (f:=29) (.i .i64 (kk:Int)) (fun w hH=>by have:=findT lo q { G.adv with waits:=tw } (.slice (some ⟨g,0,none⟩) G.cars.length c1) (some ⟨g2,0,none⟩) c2 (tkF x) (tkW x) w (hH.row 0 _ rfl rfl) (hH.obj (waitsO lo (some ⟨g2,0,none⟩) _ c2 tw true) (List.mem_cons_self ..)) (by show tw.length≤_; omega); change Calls _ _ _ _ (fun e w'=>e=.returned (.int .i64 (oI (atP tw (isW (tkF x) (tkW x)))))∧Since w w') at this; rw [ho] at this; exact this) ?_|refine br_t hSv ?_|refine opiv ⟨tab_ok⟩ (by rfl) (by rfl) (by rfl) (by rfl) (by rfl) (by rfl) ⟨by omega,by omega⟩ ?_|refine opix (g:=g2) (off:=0+kk*4) [.i .i64 a.fl,.i .i64 a.wy,.i .i64 a.ca,.i .i64 a.si] (fun w hH=>wait_at (hH.obj (waitsO lo (some ⟨g2,0,none⟩) tw.length c2 tw true) (List.mem_cons_self ..)) ha) ⟨tab_ok⟩ (by rfl) (by rfl) (by show Addr.add ⟨g2,0,none⟩ (kk*4)=_; rw [Go.WideShapes.add_plain]) ?_|refine opb1 (e:=76) ⟨tab_ok⟩ [.i .i64 a.fl,.i .i64 a.wy,.i .i64 a.ca,.i .i64 a.si] (by rfl) (by rfl) ?_|refine opap 1 4 (e:=76) (lo:=w.heap.size) (size:=4) (bytes:=32) (z:=.agg #[.int .i64 0,.int .i64 0,.int .i64 0,.int .i64 0]) (A:=waitsO w.heap.size A3 ts.length c3 ts true) (vals:=rowsOf waitL ts) (cells:=waitL a) (zs:=rowsOf waitL (ts++[a])) (n2:=(ts++[a]).length) (fun A' c'=>waitsO w.heap.size A' (ts++[a]).length c' (ts++[a]) true) (by rfl) (by rfl) (by rfl) (by rfl) rfl rfl (fun w h=>h) (fun A' c' w h=>h) (fun _ _=>rfl) (by rfl) (by rfl) (by rfl) (by rfl) Tryz.underlying32 (by kernel_rfl) rfl (by decide) (by decide) (waitL_one _) (by omega) (fun w hH=>hH.upd.size) (by simp) (by rw [rowsOf_append,rowsOf_one]) (fun A' c'=>?_)|refine callO (f:=30) (A:=waitsO lo (some ⟨g2,0,none⟩) tw.length c2 tw true) 0 (fun _:Unit=>.v (.slice (some ⟨g2,0,none⟩) (tw.eraseIdx kk).length c2)) (fun _=>waitsO lo (some ⟨g2,0,none⟩) (tw.eraseIdx kk).length c2 (tw.eraseIdx kk) true) (fun w hH hA=>by have hcap:=waits_cap hA; have:=C2.deleteT lo g2 (tw.eraseIdx kk).length c2 kk tw w (by rw [← hm]; exact hA) hm (by omega) (by omega) (by omega); rw [← hm] at this; exact this.mono (by rintro e w' ⟨rfl,h1,h2⟩; exact ⟨(),rfl,h1,h2,fun _ h=>.inl h⟩)) (fun _=>?_)|refine back ⟨((k+1,A',c'),(tc.set k (tkV G.c x),tw.eraseIdx kk,ts++[a])),by show k+1≤_; omega,he⟩ (wk_close 1 (carsO lo (some ⟨g,0,none⟩) G.cars.length c1 (tc.set k (tkV G.c x)) true) 0 ?_ (fun w' hB=>p.2.2 _ _ hB) (by rfl) (by rfl) (by rfl) (by rfl) (by rfl) (by rfl)) ?_|refine br_b (fun h=>?_) (fun h=>?_)|refine fin_s ?_))
   all_goals first | (show G.cars.length - (k+1) < G.cars.length - k; omega)|skip
   all_goals (repeat' (first | exact trivial | rfl | ((conv=>whnf); refine And.intro ?_ ?_)))
  ·have he:tkN G.c cs ws (k+1)=(tc.set k (tkV G.c x),tw,ts):=by
    rw [hs]; unfold tkStep; simp only [hx]
    cases hSv:tkS x with
    | false=>rfl
    | true =>
     have:atP tw (isW (tkF x) (tkW x))=none:=by
      cases h:atP tw (isW (tkF x) (tkW x)) with
      | none=>rfl
      | some j=>exact absurd ⟨hSv,by rw [h]; rfl⟩ hin
     simp only [if_true,this]
   have hno:tkS x=true→¬ oI (atP tw (isW (tkF x) (tkW x))) ≥ 0:=fun h=>by
    cases h2:atP tw (isW (tkF x) (tkW x)) with
    | none=>rw [oI_none]; decide
    | some j=>exact absurd ⟨h,by rw [h2]; rfl⟩ hin
   repeat' (first | refine gs_ ?_|((conv=>whnf); first | intro b | refine bto ?_|refine bfo ?_|refine wr_i ?_|refine And.intro ?_ ?_|refine puir ⟨tab_ok⟩ 1 (by rfl) (by rfl) (by rfl) (by rfl) (by rfl) (by rfl) (by rfl) ⟨⟨by omega,by omega⟩,by show 0+k*15=_; simp⟩ ?_|refine opir ⟨tab_ok⟩ 1 (by rfl) (by rfl) (by rfl) (by rfl) (by rfl) (by rfl) (by rfl) ⟨⟨by omega,by omega⟩,by show 0+k*15=_; simp⟩ ?_|refine callS (f:=28) (.t [.a [.i .i64 (tkV G.c x).ds,.i .i64 (tkV G.c x).da,.i .i64 (tkV G.c x).un,.i .i64 (tkV G.c x).wy,.i .i64 (tkV G.c x).ti,.i .i64 (tkV G.c x).ju,.i .i64 (tkV G.c x).lo,.b (tkV G.c x).bl,.b (tkV G.c x).br,.i .i64 (tkV G.c x).mo,.i .i64 (tkV G.c x).ta,.b (tkV G.c x).ho,.i .u64 (tkV G.c x).sp,.i .u64 (tkV G.c x).su,.i .u64 (tkV G.c x).sd],.a [.i .i64 (tkF x),.i .i64 (tkW x)],.b (tkS x)]) (fun w=>tickT G.c x w hkx.1 hkx.2.1.1 hkx.2.1.2.1 hkx.2.1.2.2 hkx.2.2.1 hkx.2.2.2.1.1 hkx.2.2.2.1.2) ?_|refine callH (f:=29) (.i .i64 (oI (atP tw (isW (tkF x) (tkW x))))) (fun w hH=>findT lo q { G.adv with waits:=tw } _ A2 c2 (tkF x) (tkW x) w (hH.row 0 _ rfl rfl) (hH.obj (waitsO lo A2 _ c2 tw true) (List.mem_cons_self ..)) (by show tw.length≤_; omega)) ?_|refine br_f (decide_eq_false (hno (by assumption))) ?_|refine back ⟨((k+1,A3,c3),(tc.set k (tkV G.c x),tw,ts)),by show k+1≤_; omega,he⟩ (wk_close 1 (carsO lo (some ⟨g,0,none⟩) G.cars.length c1 (tc.set k (tkV G.c x)) true) 0 ?_ (fun w' hB=>p.2.2 _ _ hB) (by rfl) (by rfl) (by rfl) (by rfl) (by rfl) (by rfl)) ?_|refine br_b (fun h=>?_) (fun h=>?_)|refine fin_s ?_))
   all_goals first | (show G.cars.length - (k+1) < G.cars.length - k; omega)|skip
   all_goals (repeat' (first | exact trivial | rfl | ((conv=>whnf); refine And.intro ?_ ?_)))
 ·obtain rfl:k=G.cars.length:=by omega
  have hTP:tickP G=(tc,tw,ts):=by unfold tickP; rw [hcs,hws]; exact hT
  refine sm_run ⟨tab_ok⟩ ?_
  repeat' (first | refine gs_ ?_|((conv=>whnf); first | intro b | refine bto ?_|refine bfo ?_|refine wr_i ?_|refine fin fun w' hH=>?_|refine fin_s ?_))
  rw [hTP]
  refine ⟨A3,c3,rfl,hH.obj (waitsO w.heap.size A3 ts.length c3 ts true) (List.mem_cons_of_mem _ (List.mem_cons_of_mem _ (List.mem_cons_self ..))),⟨h0,A1,c1,A2,c2,hS, ?_, ?_, ?_⟩,hH.upd⟩
  ·have:=hH.row 0 _ rfl rfl
   rw [rowA_nil rfl rfl] at this
   show Blk w' q _ (grpA (tickG G) (.slice A1 (tickP G).1.length c1) (.slice A2 (tickP G).2.1.length c2))
   rw [hTP]
   show Blk w' q _ (grpA (tickG G) (.slice A1 tc.length c1) _)
   rw [l1]
   exact this
  ·have:=hH.obj _ (List.mem_cons_self ..)
   show CarsAt lo A1 (tickP G).1.length c1 (tickP G).1 w'
   rw [hTP]
   show CarsAt lo A1 tc.length c1 tc w'
   rw [l1]
   exact this
  ·have:=hH.obj (waitsO lo A2 tw.length c2 tw true) (List.mem_cons_of_mem _ (List.mem_cons_self ..))
   show WaitsAt lo A2 (tickP G).2.1.length c2 (tickP G).2.1 w'
   rw [hTP]
   exact this
end Gr
namespace Co
open Go.RowKit Ba Mem En Go.Proofs.YtpiiblkiddcgcaaGreat.Ty Mo
open Gr (GrV GO CarsAt WaitsAt carL waitL WaitV pairO newG okT okW)
open Qu (QO askE intE askC btw)
open Le (TO)
open Fl (leaE)
open Ri (MsgV msgC)
open Et (carsO)
set_option maxRecDepth 100000
attribute [local irreducible] Go.Calls
structure KV where
 G:GrV
 Q:List AskV
 L:List LeaseV
structure Pt where
 g:Nat
 q:Nat
 t:Nat
def room (K:KV):Int:=btw K.G.c.qu 0 64
def P0 (b:Nat):Value:=.pointer (some ⟨b,0,none⟩)
def coreA (c:CfgV) (p:Pt):Array Value:=#[.int .i64 c.ca,.int .i64 c.fl,.int .i64 c.ft,.int .i64 c.se,.int .i64 c.dr,.int .i64 c.dw,.int .i64 c.ho,.int .i64 c.re,.int .i64 c.yi,.int .i64 c.qu,.int .i64 c.qo,.int .i64 c.lo,.int .i64 c.sl,.int .i64 c.rt,.int .i64 c.cp,.int .i64 c.tr,.int .i64 c.de,.int .i64 c.wi,P0 p.g,P0 p.q,P0 p.t]
def coreS (c:CfgV) (p:Pt):List SV:=[.i .i64 c.ca,.i .i64 c.fl,.i .i64 c.ft,.i .i64 c.se,.i .i64 c.dr,.i .i64 c.dw,.i .i64 c.ho,.i .i64 c.re,.i .i64 c.yi,.i .i64 c.qu,.i .i64 c.qo,.i .i64 c.lo,.i .i64 c.sl,.i .i64 c.rt,.i .i64 c.cp,.i .i64 c.tr,.i .i64 c.de,.i .i64 c.wi,.v (.pointer (some ⟨p.g,0,none⟩)),.v (.pointer (some ⟨p.q,0,none⟩)),.v (.pointer (some ⟨p.t,0,none⟩))]
def BD (lo:Nat) (p:Pt) (K:KV) (S:List Nat) (w:World):Prop :=
 ∃ S1 S2 S3,S=S1++(S2++S3)∧GO lo p.g K.G S1 w∧QO lo p.q (room K) K.Q S2 w∧TO lo p.t K.G.c K.L S3 w∧(∀ x∈S1,x∉S2)∧(∀ x∈S1,x∉S3)∧∀ x∈S2,x∉S3
section
variable {w w':World} {lo lo' q:Nat} {p:Pt} {K:KV} {S T:List Nat}
theorem BD.upd (k:Upd T w w') (h:BD lo p K S w) (hT:∀ g∈S,g∉T):BD lo p K S w':=by
 obtain ⟨S1,S2,S3,rfl,h1,h2,h3,d⟩:=h
 exact ⟨S1,S2,S3,rfl,h1.upd k (fun g hg=>hT g (by simp [hg])),h2.upd k (fun g hg=>hT g (by simp [hg])),h3.upd k (fun g hg=>hT g (by simp [hg])),d⟩
theorem BD.lt (h:BD lo p K S w):∀ g∈S,g < w.heap.size:=by
 obtain ⟨S1,S2,S3,rfl,h1,h2,h3,d⟩:=h
 intro g hg
 rcases List.mem_append.1 hg with hg | hg
 ·exact h1.lt g hg
 rcases List.mem_append.1 hg with hg | hg
 ·exact h2.lt g hg
 ·exact h3.lt g hg
theorem BD.low (h:BD lo p K S w):∀ g∈S,lo≤g:=by
 obtain ⟨S1,S2,S3,rfl,h1,h2,h3,d⟩:=h
 intro g hg
 rcases List.mem_append.1 hg with hg | hg
 ·exact h1.low g hg
 rcases List.mem_append.1 hg with hg | hg
 ·exact h2.low g hg
 ·exact h3.low g hg
theorem BD.far {cs:Array Value} (h:BD lo p K S w) (hk:Blk w q 94 cs):q∉S:=by
 obtain ⟨S1,S2,S3,rfl,⟨_,A1,c1,A2,c2,rfl,B1,O1,O2⟩,⟨_,A3,c3,rfl,B3,O3⟩,⟨_,A4,c4,rfl,B4,O4⟩,d⟩:=h
 intro hm
 simp only [List.mem_append,List.mem_cons] at hm
 rcases hm with (h | h | h)|(h | h)|(h | h)
 ·exact Blk.ne_ hk B1 (by decide) h
 ·exact own_ne_ty O1 hk (by decide) h
 ·exact own_ne_ty O2 hk (by decide) h
 ·exact Blk.ne_ hk B3 (by decide) h
 ·exact own_ne_ty O3 hk (by decide) h
 ·exact Blk.ne_ hk B4 (by decide) h
 ·exact own_ne_ty O4 hk (by decide) h
end
def bdO (lo:Nat) (p:Pt) (K:KV) (S:List Nat) (rw:Bool):Asr:=⟨S,rw,BD lo p K S,fun k h hs=>hs.upd k h,fun h=>h.lt⟩
section
variable {P:Program} {F:FuncId} {args:Array Value} {w:World} {lo:Nat} {p:Pt} {K:KV} {S:List Nat} {V:Value}
theorem BD.grp (h:BD lo p K S w) {G':GrV} (hcc:G'.c=K.G.c) (hc:∀ S1,GO lo p.g K.G S1 w→Calls P F args w fun e w'=>e=.returned V∧∃ S',GO lo p.g G' S' w'∧Upd S1 w w'∧∀ g∈S',g∈S1∨w.heap.size≤g) :
  Calls P F args w fun e w'=>∃ S',e=.returned V∧BD lo p { K with G:=G' } S' w'∧Upd S w w'∧∀ g∈S',g∈S∨w.heap.size≤g:=by
 obtain ⟨S1,S2,S3,rfl,h1,h2,h3,d1,d2,d3⟩:=h
 refine (hc S1 h1).mono ?_
 rintro e w' ⟨rfl,S',g1,g2,g3⟩
 have n2:∀ x∈S',x∉S2:=fun x hx hx2=>(g3 x hx).elim (fun h=>d1 x h hx2) (fun h=>by have:=h2.lt x hx2; omega)
 have n3:∀ x∈S',x∉S3:=fun x hx hx2=>(g3 x hx).elim (fun h=>d2 x h hx2) (fun h=>by have:=h3.lt x hx2; omega)
 refine ⟨S'++(S2++S3),rfl,⟨S',S2,S3,rfl,g1, ?_, ?_,n2,n3,d3⟩,g2.mono (fun k hk _=>List.mem_append.2 (.inl hk)),fun g hg=>?_⟩
 ·have:=h2.upd g2 (fun g hg hg1=>d1 g hg1 hg)
  simpa [room,hcc] using this
 ·have:=h3.upd g2 (fun g hg hg1=>d2 g hg1 hg)
  rw [← hcc] at this; exact this
 ·rcases List.mem_append.1 hg with hg | hg
  ·exact (g3 g hg).imp (fun h=>List.mem_append.2 (.inl h)) id
  ·exact .inl (List.mem_append.2 (.inr hg))
theorem BD.que (h:BD lo p K S w) {Q':List AskV} (hc:∀ S1,QO lo p.q (room K) K.Q S1 w→Calls P F args w fun e w'=>e=.returned V∧∃ S',QO lo p.q (room K) Q' S' w'∧Upd S1 w w'∧∀ g∈S',g∈S1∨w.heap.size≤g) :
  Calls P F args w fun e w'=>∃ S',e=.returned V∧BD lo p { K with Q:=Q' } S' w'∧Upd S w w'∧∀ g∈S',g∈S∨w.heap.size≤g:=by
 obtain ⟨S1,S2,S3,rfl,h1,h2,h3,d1,d2,d3⟩:=h
 refine (hc S2 h2).mono ?_
 rintro e w' ⟨rfl,S',g1,g2,g3⟩
 have n1:∀ x∈S1,x∉S':=fun x hx hx2=>(g3 x hx2).elim (fun h=>d1 x hx h) (fun h=>by have:=h1.lt x hx; omega)
 have n3:∀ x∈S',x∉S3:=fun x hx hx2=>(g3 x hx).elim (fun h=>d3 x h hx2) (fun h=>by have:=h3.lt x hx2; omega)
 refine ⟨S1++(S'++S3),rfl,⟨S1,S',S3,rfl,h1.upd g2 (fun g hg hg1=>d1 g hg hg1),g1,h3.upd g2 (fun g hg hg1=>d3 g hg1 hg),n1,d2,n3⟩,g2.mono (fun k hk _=>List.mem_append.2 (.inr (List.mem_append.2 (.inl hk)))),fun g hg=>?_⟩
 simp only [List.mem_append] at hg ⊢
 rcases hg with hg | hg | hg
 ·exact .inl (.inl hg)
 ·exact (g3 g hg).imp (fun h=>.inr (.inl h)) id
 ·exact .inl (.inr (.inr hg))
theorem BD.tab (h:BD lo p K S w) {L':List LeaseV} (hc:∀ S1,TO lo p.t K.G.c K.L S1 w→Calls P F args w fun e w'=>e=.returned V∧∃ S',TO lo p.t K.G.c L' S' w'∧Upd S1 w w'∧∀ g∈S',g∈S1∨w.heap.size≤g) :
  Calls P F args w fun e w'=>∃ S',e=.returned V∧BD lo p { K with L:=L' } S' w'∧Upd S w w'∧∀ g∈S',g∈S∨w.heap.size≤g:=by
 obtain ⟨S1,S2,S3,rfl,h1,h2,h3,d1,d2,d3⟩:=h
 refine (hc S3 h3).mono ?_
 rintro e w' ⟨rfl,S',g1,g2,g3⟩
 have n1:∀ x∈S1,x∉S':=fun x hx hx2=>(g3 x hx2).elim (fun h=>d2 x hx h) (fun h=>by have:=h1.lt x hx; omega)
 have n2:∀ x∈S2,x∉S':=fun x hx hx2=>(g3 x hx2).elim (fun h=>d3 x hx h) (fun h=>by have:=h2.lt x hx; omega)
 refine ⟨S1++(S2++S'),rfl,⟨S1,S2,S',rfl,h1.upd g2 (fun g hg hg1=>d2 g hg hg1),h2.upd g2 (fun g hg hg1=>d3 g hg hg1),g1,d1,n1,n2⟩,g2.mono (fun k hk _=>List.mem_append.2 (.inr (List.mem_append.2 (.inr hk)))),fun g hg=>?_⟩
 simp only [List.mem_append] at hg ⊢
 rcases hg with hg | hg | hg
 ·exact .inl (.inl hg)
 ·exact .inl (.inr (.inl hg))
 ·exact (g3 g hg).imp (fun h=>.inr (.inr h)) id
end
abbrev Nr:=Nat×Option Addr×Nat
abbrev NrA (n0:Nat):={x:Nr // n0≤x.1}
section
variable {P:Program} {F:FuncId} {args:Array Value} {w1:World} {n0 n:Nat}
theorem toN {α:Type} {E:Ek α} {ls:List α} (h:Calls P F args w1 fun e w'=>∃ A' c',e=.returned (.slice A' n c')∧E.At w1.heap.size A' n c' ls w'∧Since w1 w') (h0:n0≤w1.heap.size) :
  Calls P F args w1 fun e w'=>∃ x:NrA n0,e=.returned (.slice x.1.2.1 n x.1.2.2)∧(rwO E x.1.1 x.1.2.1 n x.1.2.2 ls true).st w'∧Since w1 w'∧∀ g∈(rwO E x.1.1 x.1.2.1 n x.1.2.2 ls true).F,w1.heap.size≤g:=by
 refine h.mono ?_
 rintro e w' ⟨A',c',rfl,hO,hs⟩
 exact ⟨⟨(w1.heap.size,A',c'),h0⟩,rfl,hO,hs,own_low hO⟩
theorem toNC {ls:List CarV} (h:Calls P F args w1 fun e w'=>∃ A' c',e=.returned (.slice A' n c')∧CarsAt w1.heap.size A' n c' ls w'∧Since w1 w') (h0:n0≤w1.heap.size) :
  Calls P F args w1 fun e w'=>∃ x:NrA n0,e=.returned (.slice x.1.2.1 n x.1.2.2)∧(carsO x.1.1 x.1.2.1 n x.1.2.2 ls true).st w'∧Since w1 w'∧∀ g∈(carsO x.1.1 x.1.2.1 n x.1.2.2 ls true).F,w1.heap.size≤g:=by
 refine h.mono ?_
 rintro e w' ⟨A',c',rfl,hO,hs⟩
 exact ⟨⟨(w1.heap.size,A',c'),h0⟩,rfl,hO,hs,own_low hO⟩
abbrev NgA (n0:Nat):={x:Nat×Nat×Nat // n0≤x.1}
theorem toNg {α:Type} {E:Ek α} {ls:List α} (hn:0 < n) (h:Calls P F args w1 fun e w'=>∃ A' c',e=.returned (.slice A' n c')∧E.At w1.heap.size A' n c' ls w'∧Since w1 w') (h0:n0≤w1.heap.size) :
  Calls P F args w1 fun e w'=>∃ x:NgA n0,e=.returned (.slice (some ⟨x.1.2.1,0,none⟩) n x.1.2.2)∧(rwO E x.1.1 (some ⟨x.1.2.1,0,none⟩) n x.1.2.2 ls true).st w'∧Since w1 w'∧∀ g∈(rwO E x.1.1 (some ⟨x.1.2.1,0,none⟩) n x.1.2.2 ls true).F,w1.heap.size≤g:=by
 refine h.mono ?_
 rintro e w' ⟨A',c',rfl,hO,hs⟩
 obtain ⟨g,rfl⟩:=own_addr hO hn
 exact ⟨⟨(w1.heap.size,g,c'),h0⟩,rfl,hO,hs,own_low hO⟩
theorem toNCg {ls:List CarV} (hn:0 < n) (h:Calls P F args w1 fun e w'=>∃ A' c',e=.returned (.slice A' n c')∧CarsAt w1.heap.size A' n c' ls w'∧Since w1 w') (h0:n0≤w1.heap.size) :
  Calls P F args w1 fun e w'=>∃ x:NgA n0,e=.returned (.slice (some ⟨x.1.2.1,0,none⟩) n x.1.2.2)∧(carsO x.1.1 (some ⟨x.1.2.1,0,none⟩) n x.1.2.2 ls true).st w'∧Since w1 w'∧∀ g∈(carsO x.1.1 (some ⟨x.1.2.1,0,none⟩) n x.1.2.2 ls true).F,w1.heap.size≤g:=by
 refine h.mono ?_
 rintro e w' ⟨A',c',rfl,hO,hs⟩
 obtain ⟨g,rfl⟩:=own_addr hO hn
 exact ⟨⟨(w1.heap.size,g,c'),h0⟩,rfl,hO,hs,own_low hO⟩
theorem Hold.ob {X:Cx} {m:List Row} {ob:List Asr} {w:World} (h:Hold X m ob w) {A:Asr} (i:Nat) (hA:ob[i]?=some A):A.st w:=h.obj A (List.mem_of_getElem? hA)
theorem toNW {ls:List WaitV} (h:Calls P F args w1 fun e w'=>∃ A' c',e=.returned (.slice A' n c')∧WaitsAt w1.heap.size A' n c' ls w'∧Since w1 w') (h0:n0≤w1.heap.size) :
  Calls P F args w1 fun e w'=>∃ x:NrA n0,e=.returned (.slice x.1.2.1 n x.1.2.2)∧(Gr.waitsO x.1.1 x.1.2.1 n x.1.2.2 ls true).st w'∧Since w1 w'∧∀ g∈(Gr.waitsO x.1.1 x.1.2.1 n x.1.2.2 ls true).F,w1.heap.size≤g:=by
 refine h.mono ?_
 rintro e w' ⟨A',c',rfl,hO,hs⟩
 exact ⟨⟨(w1.heap.size,A',c'),h0⟩,rfl,hO,hs,own_low hO⟩
end
section
variable {w:World} {lo:Nat} {p:Pt} {K:KV} {S:List Nat}
theorem BD.cars (h:BD lo p K S w) (hl:K.G.cars.length≤10000):Calls Tryz.prog 33 #[.pointer (some ⟨p.g,0,none⟩)] w fun e w'=>∃ A' c',e=.returned (.slice A' K.G.cars.length c')∧CarsAt w.heap.size A' K.G.cars.length c' K.G.cars w'∧Since w w':=by
 obtain ⟨S1,S2,S3,rfl,h1,h2,h3,d⟩:=h
 exact Gr.carsT lo p.g K.G S1 w h1 (by omega)
theorem BD.waits (h:BD lo p K S w) (hl:K.G.waits.length≤10000):Calls Tryz.prog 35 #[.pointer (some ⟨p.g,0,none⟩)] w fun e w'=>∃ A' c',e=.returned (.slice A' K.G.waits.length c')∧WaitsAt w.heap.size A' K.G.waits.length c' K.G.waits w'∧Since w w':=by
 obtain ⟨S1,S2,S3,rfl,h1,h2,h3,d⟩:=h
 exact Gr.waitsT lo p.g K.G S1 w h1 (by omega)
theorem BD.now (h:BD lo p K S w):Calls Tryz.prog 34 #[.pointer (some ⟨p.g,0,none⟩)] w fun e w'=>e=.returned (.int .i64 K.G.now)∧Since w w':=by
 obtain ⟨S1,S2,S3,rfl,h1,h2,h3,d⟩:=h
 exact Gr.nowT lo p.g K.G S1 w h1
theorem BD.leases (h:BD lo p K S w) (hl:K.L.length≤10000):Calls Tryz.prog 53 #[.pointer (some ⟨p.t,0,none⟩)] w fun e w'=>∃ A' c',e=.returned (.slice A' K.L.length c')∧leaE.At w.heap.size A' K.L.length c' K.L w'∧Since w w':=by
 obtain ⟨S1,S2,S3,rfl,h1,h2,⟨_,A,c,rfl,B,O⟩,d⟩:=h
 exact Le.listT w B O hl
theorem BD.of (h:BD lo p K S w) (hl:K.L.length≤10000) (s:Int):Calls Tryz.prog 143 #[.pointer (some ⟨p.t,0,none⟩),.int .i64 s] w fun e w'=>e=.returned (.tuple #[.agg #[.int .i64 (Le.ofL K.L s).se,.int .i64 (Le.ofL K.L s).fl,.int .i64 (Le.ofL K.L s).fm,.int .i64 (Le.ofL K.L s).to,.int .i64 (Le.ofL K.L s).ma,.int .i64 (Le.ofL K.L s).ca,.int .i64 (Le.ofL K.L s).ph,.int .i64 (Le.ofL K.L s).un,.int .i64 (Le.ofL K.L s).re,.int .i64 (Le.ofL K.L s).gr],.bool (Le.hasL K.L s)])∧Since w w':=by
 obtain ⟨S1,S2,S3,rfl,h1,h2,⟨_,A,c,rfl,B,O⟩,d⟩:=h
 exact Le.ofT w B O hl s
theorem BD.asks (h:BD lo p K S w) (hl:K.Q.length≤10000):Calls Tryz.prog 141 #[.pointer (some ⟨p.q,0,none⟩)] w fun e w'=>∃ A' c',e=.returned (.slice A' K.Q.length c')∧askE.At w.heap.size A' K.Q.length c' K.Q w'∧Since w w':=by
 obtain ⟨S1,S2,S3,rfl,h1,⟨_,A,c,rfl,B,O⟩,h3,d⟩:=h
 exact Qu.listT w B O (by omega)
theorem BD.ahead (h:BD lo p K S w) (hl:K.Q.length≤10000) (s:Int):Calls Tryz.prog 186 #[.pointer (some ⟨p.q,0,none⟩),.int .i64 s] w fun e w'=>e=.returned (.tuple #[.int .i64 (Qu.oM (Qu.atS K.Q s)),.bool (Qu.atS K.Q s).isSome])∧Since w w':=by
 obtain ⟨S1,S2,S3,rfl,h1,⟨_,A,c,rfl,B,O⟩,h3,d⟩:=h
 exact Qu.aheadT s w B O (by omega)
theorem BD.first {lo2 n2 c2:Nat} {A2:Option Addr} {zs:List Int} (h:BD lo p K S w) (hl:K.Q.length≤10000) (hz:intE.At lo2 A2 n2 c2 zs w) (hn:zs.length=n2) (hl2:n2≤1000000):Calls Tryz.prog 124 #[.pointer (some ⟨p.q,0,none⟩),.slice A2 n2 c2] w fun e w'=>e=.returned (.tuple #[.agg #[.int .i64 (Qu.firstA K.Q zs).se,.int .i64 (Qu.firstA K.Q zs).fl,.int .i64 (Qu.firstA K.Q zs).fm,.int .i64 (Qu.firstA K.Q zs).to,.int .i64 (Qu.firstA K.Q zs).ma],.bool (Qu.atF K.Q zs).isSome])∧Since w w':=by
 obtain ⟨S1,S2,S3,rfl,h1,⟨_,A,c,rfl,B,O⟩,h3,d⟩:=h
 exact Qu.firstT w B O (by omega) hz hn hl2
end
theorem hold_k {q lo n:Nat} {p:Pt} {K:KV} {S:List Nat} {w:World} (hk:Blk w q 94 (coreA K.G.c p)) (hb:BD lo p K S w):Hold ⟨Tryz.prog,tab,S,w,n,[]⟩ [⟨q,94,true,0,[],coreS K.G.c p,[],false⟩] [bdO lo p K S true] w :=
 Hold.addObj (hold_q (S:=S) (coreS K.G.c p) hk) (bdO lo p K S true) hb (fun _ g hg=>.inl hg) (by intro r hr _; rw [List.mem_singleton] at hr; subst hr; exact hb.far hk) (by intro A hA; cases hA)
theorem fin_k {lo n:Nat} {p:Pt} {K:KV} {S S1:List Nat} {w:World} {V:Value} {v:SV} {fr:List (Nat×SV)} {m:List Row} {obr:List Asr} {st:St} (hst:st=⟨fr,m,bdO lo p K S1 true::obr⟩) (hv:∀ m,den m v=V) :
  Fin ⟨Tryz.prog,tab,S,w,n,[]⟩ (fun e w'=>e=.returned V∧∃ S',BD lo p K S' w'∧Upd S w w'∧∀ g∈S',g∈S∨w.heap.size≤g) v st:=by
 subst hst
 exact fin fun w' hH=>⟨by rw [hv],S1,hH.obj _ (List.mem_cons_self ..),hH.upd,hH.own _ (List.mem_cons_self ..) rfl⟩
structure EvV where
 s:Int
 m:MsgV
def msgL (m:MsgV):List Value:=[.int .i64 m.ki,.int .i64 m.a,.int .i64 m.b,.int .i64 m.c]
def evC (e:EvV):List Value:=[.int .i64 e.s,.int .i64 e.m.ki,.int .i64 e.m.a,.int .i64 e.m.b,.int .i64 e.m.c]
def msgE:Ek MsgV:=⟨48,4,msgL,fun _=>rfl,by
 intro a u hu
 simp only [msgL,List.mem_cons,List.not_mem_nil,or_false] at hu
 rcases hu with rfl | rfl | rfl | rfl <;> rfl⟩
def evE:Ek EvV:=⟨110,5,evC,fun _=>rfl,by
 intro a u hu
 simp only [evC,List.mem_cons,List.not_mem_nil,or_false] at hu
 rcases hu with rfl | rfl | rfl | rfl | rfl <;> rfl⟩
theorem Ek.of_blk {α:Type} {E:Ek α} {w:World} {g lo:Nat} {x:α} (h:Blk w g E.t (E.c x).toArray) (hlo:lo≤g) (hk:E.k≤1000):E.At lo (some ⟨g,0,none⟩) 1 1 [x] w:=by
 refine ⟨by simp [rowsOf,E.len],.inr ⟨g,1,(E.c x).toArray,rfl,hlo,h,Nat.le_refl _,by unfold maxLen; omega,by simp [E.len], ?_⟩⟩
 simp only [Nat.one_mul,rowsOf,List.flatMap_cons,List.flatMap_nil,List.append_nil]
 exact List.take_of_length_le (by simp [E.len])
def evs (s:Int) (ms:List MsgV):List EvV:=ms.map (EvV.mk s)
set_option maxHeartbeats 1000000 in
theorem eventsT {lo n c:Nat} {A:Option Addr} {ms:List MsgV} (s:Int) (w:World) (ho:msgE.At lo A n c ms w) (hn:ms.length=n) (hl:n≤100000):Calls Tryz.prog 56 #[.int .i64 s,.slice A n c] w fun e w'=>∃ A' c',e=.returned (.slice A' n c')∧evE.At w.heap.size A' n c' (evs s ms) w'∧Since w w':=by
 obtain ⟨g,hA⟩:=Ek.addr ho
 refine entH tab_ok (Hold.addObj (Hold.addObj (Hold.nil _ tab [] _ w) (rwO msgE lo A n c ms false) ho (by intro k; cases k) (by intro r hr; cases hr) (by intro A hA; cases hA)) (rwO evE w.heap.size none 0 0 [] true) (Ek.nil _ _ _) (by intro _ g hg; cases hg) (by intro r _ _ hg; cases hg) (by intro A hA _ g hg hg2; cases hg2)) [.i .i64 s,.v (.slice A n c)] Tryz.func56 Tryz.ntmps56 rfl rfl ?_
 repeat' (first | refine gs_ ?_|((conv=>whnf); first | intro b | refine b3_ (fun h=>?_) (fun h=>?_)|refine fin_s ?_))
 conv=>whnf
 refine lp ⟨tab_ok⟩ (ι:={x:(Nat×Option Addr×Nat)×List EvV // x.1.1≤n∧evs s (ms.take x.1.1)=x.2}) (fun x=>match x with | ⟨((k,A3,c3),es),_⟩=>⟨[(0,.i .i64 s),(5,.v (.slice A3 k c3)),(8,.v (.slice A n c)),(9,.i .i64 n),(10,.i .i64 (k:Int))],[],[rwO msgE lo A n c ms false,rwO evE w.heap.size A3 k c3 es true]⟩) (fun x=>n - x.1.1.1) ⟨((0,none,0),[]),Nat.zero_le _,by simp [evs]⟩ (wk ?_) ?_
 ·repeat' (first | exact trivial | rfl | ((conv=>whnf); refine And.intro ?_ ?_))
 rintro ⟨⟨⟨k,A3,c3⟩,es⟩,hk,he⟩
 have hk:k≤n:=hk
 have he:evs s (ms.take k)=es:=he
 by_cases hlt:k < n
 ·obtain ⟨x,hx⟩:∃ x,ms[k]?=some x:=⟨_,List.getElem?_eq_getElem (by omega)⟩
  obtain rfl:=hA (by omega)
  have he2:evs s (ms.take (k+1))=es++[EvV.mk s x]:=by
   obtain ⟨hkl,rfl⟩:=List.getElem?_eq_some_iff.1 hx
   show (ms.take (k+1)).map _=_
   rw [List.take_succ_eq_append_getElem hkl,List.map_append,← he]; rfl
  repeat' (first | refine gs_ ?_|((conv=>whnf); first | intro b | refine bto ?_|refine bfo ?_|refine wr_i ?_|refine opiv ⟨tab_ok⟩ (by rfl) (by rfl) (by rfl) (by rfl) (by rfl) (by rfl) ⟨by omega,by omega⟩ ?_|refine opix (g:=g) (off:=0+k*4) [.i .i64 x.ki,.i .i64 x.a,.i .i64 x.b,.i .i64 x.c] (fun w hH=>Ek.rng (hH.obj (rwO msgE lo (some ⟨g,0,none⟩) n c ms false) (List.mem_cons_self ..)) hx) ⟨tab_ok⟩ (by rfl) (by rfl) (by show Addr.add ⟨g,0,none⟩ (k*4)=_; rw [Go.WideShapes.add_plain]) ?_|refine opb1 (e:=110) ⟨tab_ok⟩ [.i .i64 s,.i .i64 x.ki,.i .i64 x.a,.i .i64 x.b,.i .i64 x.c] (by rfl) (by rfl) ?_|refine opap 1 1 (e:=110) (lo:=w.heap.size) (size:=5) (bytes:=40) (z:=.agg #[.int .i64 0,.int .i64 0,.int .i64 0,.int .i64 0,.int .i64 0]) (A:=rwO evE w.heap.size A3 k c3 es true) (vals:=rowsOf evC es) (cells:=evC (EvV.mk s x)) (zs:=rowsOf evC (es++[EvV.mk s x])) (n2:=k+1) (fun A' c'=>rwO evE w.heap.size A' (k+1) c' (es++[EvV.mk s x]) true) (by rfl) (by rfl) (by rfl) (by rfl) rfl rfl (fun w h=>h) (fun A' c' w h=>h) (fun _ _=>rfl) (by rfl) (by rfl) (by rfl) (by rfl) Tryz.underlying51 (by kernel_rfl) rfl (by decide) (by decide) (evE.one _) (by omega) (fun w hH=>hH.upd.size) rfl (by rw [rowsOf_append,rowsOf_one]) (fun A' c'=>?_)|refine back ⟨((k+1,A',c'),es++[EvV.mk s x]),by show k+1≤_; omega,he2⟩ (wk ?_) ?_|refine fin_s ?_))
  all_goals first | (show n - (k+1) < n - k; omega)|skip
  all_goals (repeat' (first | exact trivial | rfl | ((conv=>whnf); refine And.intro ?_ ?_)))
 ·obtain rfl:k=n:=by omega
  repeat' (first | refine gs_ ?_|((conv=>whnf); first | intro b | refine bto ?_|refine bfo ?_|refine wr_i ?_|refine fin fun w' hH=>?_|refine fin_s ?_))
  have hO:=hH.obj (rwO evE w.heap.size A3 k c3 es true) (List.mem_cons_of_mem _ (List.mem_cons_self ..))
  rw [List.take_of_length_le (by omega)] at he
  rw [he]
  exact ⟨A3,c3,rfl,hO,hH.upd.since⟩
def newK (c:CfgV):KV:=⟨newG c,[],[]⟩
end Co
namespace Co
open Go.RowKit Ba Mem En Go.Proofs.YtpiiblkiddcgcaaGreat.Ty Mo
open Gr (GrV GO CarsAt WaitsAt carL waitL WaitV pairO newG okT okW aimR giveR)
open Qu (QO askE intE askC btw putE putL dropL atS oM)
open Le (TO hasL ofL setL setE endL zeroL)
open Fl (leaE mayB mayT)
open Ri (MsgV msgC Said tickV hearV Ms aimF aimT)
open Et (carsO)
set_option maxRecDepth 100000
attribute [local irreducible] Go.Calls mayB hasL ofL putE atS oM
def ansM (K:KV) (a:AskV):MsgV :=
 if mayB K.G.c a=true then (if hasL K.L a.se=true then ⟨7,5,0,0⟩ else if putE (room K) K.Q a=7 then ⟨7,5,0,0⟩ else if putE (room K) K.Q a=5 then ⟨6,0,0,0⟩ else ⟨5,oM (atS (putL (room K) K.Q a) a.se),0,0⟩) else ⟨7,0,0,0⟩
def ansQ (K:KV) (a:AskV):List AskV:=if mayB K.G.c a=true then (if hasL K.L a.se=true then K.Q else putL (room K) K.Q a) else K.Q
def ansK (K:KV) (a:AskV):KV:={ K with Q:=ansQ K a }
section
variable {q lo:Nat} {p:Pt} {K:KV} {S:List Nat} {w:World}
theorem answerT (hk:Blk w q 94 (coreA K.G.c p)) (hb:BD lo p K S w) (h1:K.Q.length≤1000) (h2:K.L.length≤10000) (a:AskV) :
  Calls Tryz.prog 142 #[.pointer (some ⟨q,0,none⟩),.agg #[.int .i64 a.se,.int .i64 a.fl,.int .i64 a.fm,.int .i64 a.to,.int .i64 a.ma]] w fun e w'=>e=.returned (.agg (msgC (ansM K a)))∧∃ S',BD lo p (ansK K a) S' w'∧Upd S w w'∧∀ g∈S',g∈S∨w.heap.size≤g:=by
 unfold ansM ansK ansQ
 by_cases hm:mayB K.G.c a=true
 ·simp only [hm,if_true]
  by_cases hL:hasL K.L a.se=true
  ·simp only [hL,if_true]
   refine entH tab_ok (hold_k hk hb) [.p 0 0,.a [.i .i64 a.se,.i .i64 a.fl,.i .i64 a.fm,.i .i64 a.to,.i .i64 a.ma]] Tryz.func142 Tryz.ntmps142 rfl rfl ?_
   repeat' (first | refine gs_ ?_|((conv=>whnf); first | intro b | refine And.intro ?_ ?_|refine br_t (by assumption) ?_|refine br_not (br_t (by assumption) ?_)|refine callS (f:=191) (.b (mayB K.G.c a)) (mayT K.G.c a) ?_|refine callH (f:=143) (.t [.a [.i .i64 (ofL K.L a.se).se,.i .i64 (ofL K.L a.se).fl,.i .i64 (ofL K.L a.se).fm,.i .i64 (ofL K.L a.se).to,.i .i64 (ofL K.L a.se).ma,.i .i64 (ofL K.L a.se).ca,.i .i64 (ofL K.L a.se).ph,.i .i64 (ofL K.L a.se).un,.i .i64 (ofL K.L a.se).re,.i .i64 (ofL K.L a.se).gr],.b (hasL K.L a.se)]) (fun w hH=>(hH.obj (bdO lo p K S true) (List.mem_singleton.2 rfl)).of h2 a.se) ?_|refine fin_k (by rfl) (by intro m; rfl)|refine fin_s ?_))
  ·have hL:hasL K.L a.se=false:=by simpa using hL
   simp only [hL,Bool.false_eq_true,if_false]
   by_cases h7:putE (room K) K.Q a=7
   ·simp only [h7,if_true]
    refine entH tab_ok (hold_k hk hb) [.p 0 0,.a [.i .i64 a.se,.i .i64 a.fl,.i .i64 a.fm,.i .i64 a.to,.i .i64 a.ma]] Tryz.func142 Tryz.ntmps142 rfl rfl ?_
    repeat' (first | refine gs_ ?_|((conv=>whnf); first | intro b | refine And.intro ?_ ?_|refine br_not (br_t (by assumption) ?_)|refine br_f (by assumption) ?_|refine callS (f:=191) (.b (mayB K.G.c a)) (mayT K.G.c a) ?_|refine callH (f:=143) (.t [.a [.i .i64 (ofL K.L a.se).se,.i .i64 (ofL K.L a.se).fl,.i .i64 (ofL K.L a.se).fm,.i .i64 (ofL K.L a.se).to,.i .i64 (ofL K.L a.se).ma,.i .i64 (ofL K.L a.se).ca,.i .i64 (ofL K.L a.se).ph,.i .i64 (ofL K.L a.se).un,.i .i64 (ofL K.L a.se).re,.i .i64 (ofL K.L a.se).gr],.b (hasL K.L a.se)]) (fun w hH=>(hH.obj (bdO lo p K S true) (List.mem_singleton.2 rfl)).of h2 a.se) ?_|refine callO (f:=192) (A:=bdO lo p K S true) 0 (fun _=>.i .i64 7) (fun S'=>bdO lo p { K with Q:=putL (room K) K.Q a } S' true) (fun w hH hA=>by have:=BD.que hA (fun S1 hq=>Qu.putQ hq (by omega) a); rw [h7] at this; exact this) (fun S'=>?_)|refine fin_k (by rfl) (by intro m; rfl)|refine fin_s ?_))
   ·simp only [h7,if_false]
    by_cases h5:putE (room K) K.Q a=5
    ·simp only [h5,if_true]
     refine entH tab_ok (hold_k hk hb) [.p 0 0,.a [.i .i64 a.se,.i .i64 a.fl,.i .i64 a.fm,.i .i64 a.to,.i .i64 a.ma]] Tryz.func142 Tryz.ntmps142 rfl rfl ?_
     repeat' (first | refine gs_ ?_|((conv=>whnf); first | intro b | refine And.intro ?_ ?_|refine br_not (br_t (by assumption) ?_)|refine br_f (by assumption) ?_|refine callS (f:=191) (.b (mayB K.G.c a)) (mayT K.G.c a) ?_|refine callH (f:=143) (.t [.a [.i .i64 (ofL K.L a.se).se,.i .i64 (ofL K.L a.se).fl,.i .i64 (ofL K.L a.se).fm,.i .i64 (ofL K.L a.se).to,.i .i64 (ofL K.L a.se).ma,.i .i64 (ofL K.L a.se).ca,.i .i64 (ofL K.L a.se).ph,.i .i64 (ofL K.L a.se).un,.i .i64 (ofL K.L a.se).re,.i .i64 (ofL K.L a.se).gr],.b (hasL K.L a.se)]) (fun w hH=>(hH.obj (bdO lo p K S true) (List.mem_singleton.2 rfl)).of h2 a.se) ?_|refine callO (f:=192) (A:=bdO lo p K S true) 0 (fun _=>.i .i64 5) (fun S'=>bdO lo p { K with Q:=putL (room K) K.Q a } S' true) (fun w hH hA=>by have:=BD.que hA (fun S1 hq=>Qu.putQ hq (by omega) a); rw [h5] at this; exact this) (fun S'=>?_)|refine fin_k (by rfl) (by intro m; rfl)|refine fin_s ?_))
    ·simp only [h5,if_false]
     have hlq:(putL (room K) K.Q a).length≤10000:=by
      unfold putL; split
      ·rw [List.length_append]; simp; omega
      ·omega
     have hq:=beq_eq_false_iff_ne.2 h7
     have hq5:=beq_eq_false_iff_ne.2 h5
     refine entH tab_ok (hold_k hk hb) [.p 0 0,.a [.i .i64 a.se,.i .i64 a.fl,.i .i64 a.fm,.i .i64 a.to,.i .i64 a.ma]] Tryz.func142 Tryz.ntmps142 rfl rfl ?_
     repeat' (first | refine gs_ ?_|((conv=>whnf); first | intro b | refine And.intro ?_ ?_|refine br_not (br_t (by assumption) ?_)|refine br_f (by assumption) ?_|refine callS (f:=191) (.b (mayB K.G.c a)) (mayT K.G.c a) ?_|refine callH (f:=143) (.t [.a [.i .i64 (ofL K.L a.se).se,.i .i64 (ofL K.L a.se).fl,.i .i64 (ofL K.L a.se).fm,.i .i64 (ofL K.L a.se).to,.i .i64 (ofL K.L a.se).ma,.i .i64 (ofL K.L a.se).ca,.i .i64 (ofL K.L a.se).ph,.i .i64 (ofL K.L a.se).un,.i .i64 (ofL K.L a.se).re,.i .i64 (ofL K.L a.se).gr],.b (hasL K.L a.se)]) (fun w hH=>(hH.obj (bdO lo p K S true) (List.mem_singleton.2 rfl)).of h2 a.se) ?_|refine callO (f:=192) (A:=bdO lo p K S true) 0 (fun _=>.i .i64 (putE (room K) K.Q a)) (fun S'=>bdO lo p { K with Q:=putL (room K) K.Q a } S' true) (fun w hH hA=>BD.que hA (fun S1 hq=>Qu.putQ hq (by omega) a)) (fun S'=>?_)|refine callH (f:=186) (.t [.i .i64 (oM (atS (putL (room K) K.Q a) a.se)),.b (atS (putL (room K) K.Q a) a.se).isSome]) (fun w hH=>(hH.obj (bdO lo p { K with Q:=putL (room K) K.Q a } S' true) (List.mem_singleton.2 rfl)).ahead hlq a.se) ?_|refine fin_k (by rfl) (by intro m; rfl)|refine fin_s ?_))
 ·have hm:mayB K.G.c a=false:=by simpa using hm
  simp only [hm,Bool.false_eq_true,if_false]
  refine entH tab_ok (hold_k hk hb) [.p 0 0,.a [.i .i64 a.se,.i .i64 a.fl,.i .i64 a.fm,.i .i64 a.to,.i .i64 a.ma]] Tryz.func142 Tryz.ntmps142 rfl rfl ?_
  repeat' (first | refine gs_ ?_|((conv=>whnf); first | intro b | refine And.intro ?_ ?_|refine br_not (br_f (by assumption) ?_)|refine br_f (by assumption) ?_|refine callS (f:=191) (.b (mayB K.G.c a)) (mayT K.G.c a) ?_|refine fin_k (by rfl) (by intro m; rfl)|refine fin_s ?_))
attribute [local irreducible] ansM
theorem fin_ke {lo n n1 k lo3 c3:Nat} {A3:Option Addr} {p:Pt} {K:KV} {S S1:List Nat} {w:World} {es:List EvV} {fr:List (Nat×SV)} {m:List Row} {ob:List Asr} {st:St} (hst:st=⟨fr,m,ob⟩) (h0:ob[0]?=some (bdO lo p K S1 true)) (hk:ob[k+1]?=some (rwO evE lo3 A3 n1 c3 es true)) (hlo:w.heap.size≤lo3) :
  Fin ⟨Tryz.prog,tab,S,w,n,[]⟩ (fun e w'=>∃ (S':List Nat) (x:Nr),e=.returned (.slice x.2.1 n1 x.2.2)∧BD lo p K S' w'∧(rwO evE x.1 x.2.1 n1 x.2.2 es true).st w'∧Upd S w w'∧(∀ g∈S',g∈S∨w.heap.size≤g)∧∀ g∈blkOf x.2.1,w.heap.size≤g∧g∉S') (.v (.slice A3 n1 c3)) st:=by
 subst hst
 have m0:=List.mem_of_getElem? h0
 have m1:=List.mem_of_getElem? hk
 refine fin fun w' hH=>⟨S1,(lo3,A3,c3),rfl,hH.obj _ m0,hH.obj _ m1,hH.upd,hH.own _ m0 rfl,fun g hg=>⟨Nat.le_trans hlo (own_low (hH.obj _ m1) g hg),fun hg2=>?_⟩⟩
 exact pair_at (R:=DisR) (fun _ _ h=>h.symm) hH.dis h0 hk (by omega) (.inl rfl) g hg2 hg
theorem askT (hk:Blk w q 94 (coreA K.G.c p)) (hb:BD lo p K S w) (h1:K.Q.length≤1000) (h2:K.L.length≤10000) (a:AskV) :
  Calls Tryz.prog 66 #[.pointer (some ⟨q,0,none⟩),.agg #[.int .i64 a.se,.int .i64 a.fl,.int .i64 a.fm,.int .i64 a.to,.int .i64 a.ma]] w fun e w'=>∃ (S':List Nat) (x:Nr),e=.returned (.slice x.2.1 1 x.2.2)∧BD lo p (ansK K a) S' w'∧(rwO evE x.1 x.2.1 1 x.2.2 (evs a.se [ansM K a]) true).st w'∧Upd S w w'∧(∀ g∈S',g∈S∨w.heap.size≤g)∧∀ g∈blkOf x.2.1,w.heap.size≤g∧g∉S':=by
 refine entH tab_ok (hold_k hk hb) [.p 0 0,.a [.i .i64 a.se,.i .i64 a.fl,.i .i64 a.fm,.i .i64 a.to,.i .i64 a.ma]] Tryz.func66 Tryz.ntmps66 rfl rfl ?_
 repeat' (first | refine gs_ ?_|((conv=>whnf); first | intro b | refine callO (f:=142) (A:=bdO lo p K S true) 0 (fun _=>.a [.i .i64 (ansM K a).ki,.i .i64 (ansM K a).a,.i .i64 (ansM K a).b,.i .i64 (ansM K a).c]) (fun S'=>bdO lo p (ansK K a) S' true) (fun w hH hA=>(answerT (hH.row 0 _ rfl rfl) hA h1 h2 a).mono (by rintro e w' ⟨rfl,S',h⟩; exact ⟨S',rfl,h⟩)) (fun S'=>?_)|refine opb1 (e:=48) ⟨tab_ok⟩ [.i .i64 (ansM K a).ki,.i .i64 (ansM K a).a,.i .i64 (ansM K a).b,.i .i64 (ansM K a).c] (by rfl) (by rfl) ?_|refine callN (f:=56) (ι:=NrA w.heap.size) (fun x=>.v (.slice x.1.2.1 1 x.1.2.2)) (fun x=>rwO evE x.1.1 x.1.2.1 1 x.1.2.2 (evs a.se [ansM K a]) true) (fun w1 hH=>toN (eventsT (lo:=0) (ms:=[ansM K a]) a.se w1 (Ek.of_blk (hH.row 2 _ rfl rfl) (Nat.zero_le _) (by decide)) rfl (by decide)) hH.upd.size) (fun x=>?_)|refine fin_ke (k:=0) (by rfl) (by rfl) (by rfl) x.2 | refine fin_s ?_))
end
end Co
end Go.Proofs.YtpiiblkiddcgcaaGreat
