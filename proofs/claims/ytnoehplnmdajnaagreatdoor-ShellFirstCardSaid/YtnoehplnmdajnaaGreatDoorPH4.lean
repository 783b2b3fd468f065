/-
  Wanted: part 4.
  No condition.
-/
import Derived.Test.YtnoehplnmdajnaaGreatDoorPH3
import Derived.Test.YtnoehplnmdajnaaGreatDoorPH1
import Derived.Laws.Strings2
import Derived.Laws.Strings3
import Derived.Laws.Concat
import Derived.Laws.RangeAny
import Derived.Laws.Build
import Derived.Lib.OthersKept
import Derived.Lib.ItoaLen
import Derived.Lib.ItoaMem
import Derived.Lib.AtoiAll
import Derived.Lib.ItoaNum
import Derived.Lib.IndexBytes
import Derived.Lib.SplitLaws
import Derived.Lib.Split
import Derived.Lib.Join
import Derived.Lib.Strings
set_option linter.all false
namespace Go.Proofs.YtnoehplnmdajnaaGreatDoor
namespace Co
open Go.RowKit Ba Mem En Go.Proofs.YtnoehplnmdajnaaGreatDoor.Ty Mo
open Gr (GrV GO CarsAt WaitsAt carL waitL WaitV newG okW)
open Qu (QO askC btw)
open Le (TO)
open Fl (leaE)
open Ri (MsgV)
open Et (carsO)
set_option maxRecDepth 100000
attribute [local irreducible] Go.Calls
structure KV where
 G:GrV
 Q:List AskV
 L:List LeaseV
structure Pt where
 g:Nat
 q:Nat
 t:Nat
def room (K:KV):Int:=btw K.G.c.qu 0 64
def P0 (b:Nat):Value:=.pointer (some ⟨b,0,none⟩)
def coreA (c:CfgV) (p:Pt):Array Value:=#[.int .i64 c.ca,.int .i64 c.fl,.int .i64 c.ft,.int .i64 c.se,.int .i64 c.dr,.int .i64 c.dw,.int .i64 c.ho,.int .i64 c.re,.int .i64 c.yi,.int .i64 c.qu,.int .i64 c.qo,.int .i64 c.lo,.int .i64 c.sl,.int .i64 c.rt,.int .i64 c.cp,.int .i64 c.tr,.int .i64 c.de,.int .i64 c.wi,P0 p.g,P0 p.q,P0 p.t]
def coreS (c:CfgV) (p:Pt):List SV:=[.i .i64 c.ca,.i .i64 c.fl,.i .i64 c.ft,.i .i64 c.se,.i .i64 c.dr,.i .i64 c.dw,.i .i64 c.ho,.i .i64 c.re,.i .i64 c.yi,.i .i64 c.qu,.i .i64 c.qo,.i .i64 c.lo,.i .i64 c.sl,.i .i64 c.rt,.i .i64 c.cp,.i .i64 c.tr,.i .i64 c.de,.i .i64 c.wi,.v (.pointer (some ⟨p.g,0,none⟩)),.v (.pointer (some ⟨p.q,0,none⟩)),.v (.pointer (some ⟨p.t,0,none⟩))]
def BD (lo:Nat) (p:Pt) (K:KV) (S:List Nat) (w:World):Prop :=
 ∃ S1 S2 S3,S=S1++(S2++S3)∧GO lo p.g K.G S1 w∧QO lo p.q (room K) K.Q S2 w∧TO lo p.t K.G.c K.L S3 w∧(∀ x∈S1,x∉S2)∧(∀ x∈S1,x∉S3)∧∀ x∈S2,x∉S3
section
variable {w w':World} {lo lo' q:Nat} {p:Pt} {K:KV} {S T:List Nat}
theorem BD.upd (k:Upd T w w') (h:BD lo p K S w) (hT:∀ g∈S,g∉T):BD lo p K S w':=by
 obtain ⟨S1,S2,S3,rfl,h1,h2,h3,d⟩:=h
 exact ⟨S1,S2,S3,rfl,h1.upd k (fun g hg=>hT g (by simp [hg])),h2.upd k (fun g hg=>hT g (by simp [hg])),h3.upd k (fun g hg=>hT g (by simp [hg])),d⟩
theorem BD.lt (h:BD lo p K S w):∀ g∈S,g < w.heap.size:=by
 obtain ⟨S1,S2,S3,rfl,h1,h2,h3,d⟩:=h
 intro g hg
 rcases List.mem_append.1 hg with hg | hg
 ·exact h1.lt g hg
 rcases List.mem_append.1 hg with hg | hg
 ·exact h2.lt g hg
 ·exact h3.lt g hg
theorem BD.low (h:BD lo p K S w):∀ g∈S,lo≤g:=by
 obtain ⟨S1,S2,S3,rfl,h1,h2,h3,d⟩:=h
 intro g hg
 rcases List.mem_append.1 hg with hg | hg
 ·exact h1.low g hg
 rcases List.mem_append.1 hg with hg | hg
 ·exact h2.low g hg
 ·exact h3.low g hg
theorem BD.base (h:BD lo p K S w) (hb:lo'≤lo):BD lo' p K S w:=by
 obtain ⟨S1,S2,S3,rfl,h1,h2,h3,d⟩:=h
 exact ⟨S1,S2,S3,rfl,h1.base hb,h2.base hb,h3.base hb,d⟩
theorem BD.far {cs:Array Value} (h:BD lo p K S w) (hk:Blk w q 120 cs):q∉S:=by
 obtain ⟨S1,S2,S3,rfl,⟨_,A1,c1,A2,c2,rfl,B1,O1,O2⟩,⟨_,A3,c3,rfl,B3,O3⟩,⟨_,A4,c4,rfl,B4,O4⟩,d⟩:=h
 intro hm
 simp only [List.mem_append,List.mem_cons] at hm
 rcases hm with (h | h | h)|(h | h)|(h | h)
 ·exact Blk.ne_ hk B1 (by decide) h
 ·exact own_ne_ty O1 hk (by decide) h
 ·exact own_ne_ty O2 hk (by decide) h
 ·exact Blk.ne_ hk B3 (by decide) h
 ·exact own_ne_ty O3 hk (by decide) h
 ·exact Blk.ne_ hk B4 (by decide) h
 ·exact own_ne_ty O4 hk (by decide) h
end
def bdO (lo:Nat) (p:Pt) (K:KV) (S:List Nat) (rw:Bool):Asr:=⟨S,rw,BD lo p K S,fun k h hs=>hs.upd k h,fun h=>h.lt⟩
section
variable {P:Program} {F:FuncId} {args:Array Value} {w:World} {lo:Nat} {p:Pt} {K:KV} {S:List Nat} {V:Value}
theorem BD.grp (h:BD lo p K S w) {G':GrV} (hcc:G'.c=K.G.c) (hc:∀ S1,GO lo p.g K.G S1 w→Calls P F args w fun e w'=>e=.returned V∧∃ S',GO lo p.g G' S' w'∧Upd S1 w w'∧∀ g∈S',g∈S1∨w.heap.size≤g) :
  Calls P F args w fun e w'=>∃ S',e=.returned V∧BD lo p { K with G:=G' } S' w'∧Upd S w w'∧∀ g∈S',g∈S∨w.heap.size≤g:=by
 obtain ⟨S1,S2,S3,rfl,h1,h2,h3,d1,d2,d3⟩:=h
 refine (hc S1 h1).mono ?_
 rintro e w' ⟨rfl,S',g1,g2,g3⟩
 have n2:∀ x∈S',x∉S2:=fun x hx hx2=>(g3 x hx).elim (fun h=>d1 x h hx2) (fun h=>by have:=h2.lt x hx2; omega)
 have n3:∀ x∈S',x∉S3:=fun x hx hx2=>(g3 x hx).elim (fun h=>d2 x h hx2) (fun h=>by have:=h3.lt x hx2; omega)
 refine ⟨S'++(S2++S3),rfl,⟨S',S2,S3,rfl,g1, ?_, ?_,n2,n3,d3⟩,g2.mono (fun k hk _=>List.mem_append.2 (.inl hk)),fun g hg=>?_⟩
 ·have:=h2.upd g2 (fun g hg hg1=>d1 g hg1 hg)
  simpa [room,hcc] using this
 ·have:=h3.upd g2 (fun g hg hg1=>d2 g hg1 hg)
  rw [← hcc] at this; exact this
 ·rcases List.mem_append.1 hg with hg | hg
  ·exact (g3 g hg).imp (fun h=>List.mem_append.2 (.inl h)) id
  ·exact .inl (List.mem_append.2 (.inr hg))
theorem BD.tab (h:BD lo p K S w) {L':List LeaseV} (hc:∀ S1,TO lo p.t K.G.c K.L S1 w→Calls P F args w fun e w'=>e=.returned V∧∃ S',TO lo p.t K.G.c L' S' w'∧Upd S1 w w'∧∀ g∈S',g∈S1∨w.heap.size≤g) :
  Calls P F args w fun e w'=>∃ S',e=.returned V∧BD lo p { K with L:=L' } S' w'∧Upd S w w'∧∀ g∈S',g∈S∨w.heap.size≤g:=by
 obtain ⟨S1,S2,S3,rfl,h1,h2,h3,d1,d2,d3⟩:=h
 refine (hc S3 h3).mono ?_
 rintro e w' ⟨rfl,S',g1,g2,g3⟩
 have n1:∀ x∈S1,x∉S':=fun x hx hx2=>(g3 x hx2).elim (fun h=>d2 x hx h) (fun h=>by have:=h1.lt x hx; omega)
 have n2:∀ x∈S2,x∉S':=fun x hx hx2=>(g3 x hx2).elim (fun h=>d3 x hx h) (fun h=>by have:=h2.lt x hx; omega)
 refine ⟨S1++(S2++S'),rfl,⟨S1,S2,S',rfl,h1.upd g2 (fun g hg hg1=>d2 g hg hg1),h2.upd g2 (fun g hg hg1=>d3 g hg hg1),g1,d1,n1,n2⟩,g2.mono (fun k hk _=>List.mem_append.2 (.inr (List.mem_append.2 (.inr hk)))),fun g hg=>?_⟩
 simp only [List.mem_append] at hg ⊢
 rcases hg with hg | hg | hg
 ·exact .inl (.inl hg)
 ·exact .inl (.inr (.inl hg))
 ·exact (g3 g hg).imp (fun h=>.inr (.inr h)) id
end
abbrev Nr:=Nat×Option Addr×Nat
abbrev NrA (n0:Nat):={x:Nr // n0≤x.1}
section
variable {P:Program} {F:FuncId} {args:Array Value} {w1:World} {n0 n:Nat}
theorem toN {α:Type} {E:Ek α} {ls:List α} (h:Calls P F args w1 fun e w'=>∃ A' c',e=.returned (.slice A' n c')∧E.At w1.heap.size A' n c' ls w'∧Since w1 w') (h0:n0≤w1.heap.size) :
  Calls P F args w1 fun e w'=>∃ x:NrA n0,e=.returned (.slice x.1.2.1 n x.1.2.2)∧(rwO E x.1.1 x.1.2.1 n x.1.2.2 ls true).st w'∧Since w1 w'∧∀ g∈(rwO E x.1.1 x.1.2.1 n x.1.2.2 ls true).F,w1.heap.size≤g:=by
 refine h.mono ?_
 rintro e w' ⟨A',c',rfl,hO,hs⟩
 exact ⟨⟨(w1.heap.size,A',c'),h0⟩,rfl,hO,hs,own_low hO⟩
abbrev NgA (n0:Nat):={x:Nat×Nat×Nat // n0≤x.1}
theorem toNCg {ls:List CarV} (hn:0 < n) (h:Calls P F args w1 fun e w'=>∃ A' c',e=.returned (.slice A' n c')∧CarsAt w1.heap.size A' n c' ls w'∧Since w1 w') (h0:n0≤w1.heap.size) :
  Calls P F args w1 fun e w'=>∃ x:NgA n0,e=.returned (.slice (some ⟨x.1.2.1,0,none⟩) n x.1.2.2)∧(carsO x.1.1 (some ⟨x.1.2.1,0,none⟩) n x.1.2.2 ls true).st w'∧Since w1 w'∧∀ g∈(carsO x.1.1 (some ⟨x.1.2.1,0,none⟩) n x.1.2.2 ls true).F,w1.heap.size≤g:=by
 refine h.mono ?_
 rintro e w' ⟨A',c',rfl,hO,hs⟩
 obtain ⟨g,rfl⟩:=own_addr hO hn
 exact ⟨⟨(w1.heap.size,g,c'),h0⟩,rfl,hO,hs,own_low hO⟩
theorem Hold.ob {X:Cx} {m:List Row} {ob:List Asr} {w:World} (h:Hold X m ob w) {A:Asr} (i:Nat) (hA:ob[i]?=some A):A.st w:=h.obj A (List.mem_of_getElem? hA)
end
section
variable {w:World} {lo:Nat} {p:Pt} {K:KV} {S:List Nat}
theorem BD.cars (h:BD lo p K S w) (hl:K.G.cars.length≤10000):Calls Tryz.prog 62 #[.pointer (some ⟨p.g,0,none⟩)] w fun e w'=>∃ A' c',e=.returned (.slice A' K.G.cars.length c')∧CarsAt w.heap.size A' K.G.cars.length c' K.G.cars w'∧Since w w':=by
 obtain ⟨S1,S2,S3,rfl,h1,h2,h3,d⟩:=h
 exact Gr.carsT lo p.g K.G S1 w h1 (by omega)
theorem BD.leases (h:BD lo p K S w) (hl:K.L.length≤10000):Calls Tryz.prog 63 #[.pointer (some ⟨p.t,0,none⟩)] w fun e w'=>∃ A' c',e=.returned (.slice A' K.L.length c')∧leaE.At w.heap.size A' K.L.length c' K.L w'∧Since w w':=by
 obtain ⟨S1,S2,S3,rfl,h1,h2,⟨_,A,c,rfl,B,O⟩,d⟩:=h
 exact Le.listT w B O hl
end
def newK (c:CfgV):KV:=⟨newG c,[],[]⟩
end Co
namespace En
open Go.RowKit Ba Mem
section
variable {X:Cx} {m:List Row} {ob:List Asr} {w w':World} {s:St}
end
end En
namespace En
open Go.RowKit Ba Mem
def nilO:Asr:=⟨[],true,fun _=>True,fun _ _ _=>trivial,fun _ g hg=>by cases hg⟩
def byteE:Ek Int:=⟨5,1,fun z=>[.int .u8 z],fun _=>rfl,fun a u hu=>by rw [List.mem_singleton] at hu; subst hu; rfl⟩
theorem rows_cells (zs:List Int):rowsOf byteE.c zs=Byt.cells zs:=by
 induction zs with
 | nil=>rfl
 | cons z r ih=>show (byteE.c z)++rowsOf byteE.c r=_; rw [ih]; rfl
theorem byte_own {w:World} {lo n c:Nat} {A:Option Addr} {zs:List Int}:byteE.At lo A n c zs w↔w.ownsRow lo 5 1 (.slice A n c) n (Byt.cells zs):=by unfold Ek.At; rw [rows_cells]; exact Iff.rfl
theorem u8_wrap (n:Int):IntKind.u8.wrap n=n % 256:=by simp [IntKind.wrap,IntKind.bits,IntKind.signed]
end En
namespace En
open Go.RowKit Ba Mem
theorem zip_map {α β:Type} (f:α→β) (xs:List α) (k:Nat):(((xs.zipIdx k).map fun x=>(x.2,x.1)).map fun (p:Nat×α)=>(p.1,f p.2))=((xs.map f).zipIdx k).map fun x=>(x.2,x.1):=by
 induction xs generalizing k with
 | nil=>rfl
 | cons x r ih=>simp only [List.zipIdx_cons,List.map_cons]; rw [ih]
theorem evs_of {m:List Row} {a:Act} {fr:List (Nat×SV)} (hf:FrOk m a.tmps fr):∀ {xs:List Operand} {vs:List SV},(xs.map fun x=>evO x fr)=vs.map some→xs.map a.eval=denL m vs
 | [],[],_=>rfl
 | [],_::_,h=>by cases h
 | _::_,[],h=>by cases h
 | x::xs,v::vs,h=>by
  simp only [List.map_cons,List.cons.injEq] at h
  rw [List.map_cons,(evO_of hf h.1).2,evs_of hf h.2]
  rfl
theorem one_flat {vs:List Value} (h:∀ v∈vs,v.cells=#[v]):vs.flatMap (fun v=>v.cells.toList)=vs:=by
 induction vs with
 | nil=>rfl
 | cons v r ih=>rw [List.flatMap_cons,h v (List.mem_cons_self ..),ih (fun u hu=>h u (List.mem_cons_of_mem _ hu))]; rfl
def bareS:SV→Bool
 | .i _ _=>true
 | .b _=>true
 | .v (.pointer _)=>true
 | .v (.iface _ _)=>true
 | _=>false
theorem bare_den {m:List Row}:∀ {vs:List SV},vs.all bareS=true→∀ v∈denL m vs,v.cells=#[v]
 | [],_,v,h=>by cases h
 | x::r,h,v,hv=>by
  simp only [List.all_cons,Bool.and_eq_true] at h
  rcases List.mem_cons.1 hv with rfl | hv
  ·cases x with
   | v y=>cases y <;> first | rfl | (exact absurd h.1 (by simp [bareS]))
   | _=>first | rfl | (exact absurd h.1 (by simp [bareS]))
  ·exact bare_den h.2 v hv
section
variable {X:Cx} {s:St} {o:Oper} {K:St→Prop} {t e:TypeId} {n:Nat} {parts:Array (Nat×Operand)}
theorem fill_n (hX:X.Ok) (xs:List Operand) (vs:List SV) (hp:parts.toList=(xs.zipIdx 0).map fun x=>(x.2,x.1)) (hx:(xs.map fun x=>evO x s.fr)=vs.map some) (hl:Nat.beq vs.length n=true) (h0:(Nat.ble 1 n && Nat.ble n 1000)=true) (hb:vs.all bareS=true)
  (ht:(match tyO t X.tab with | some y=>y.sl && Nat.beq y.el e | none=>false)=true) (hn:(match tyO e X.tab with | some y=>Nat.beq y.size 1 && !y.row | none=>false)=true) :
  ∃ (ie:TypeInfo) (z:Value),X.P.underlying t=some (.slice e)∧X.P.info? e=some ie∧ie.zero=some z∧¬ n*ie.size > 2 ^ 24∧¬ n*ie.size=0∧∀ a:Act,FrOk s.m a.tmps s.fr→Instr.fill (fun i=>some (i*ie.size,ie.size)) ((Array.range (n*ie.size)).map (z.cells[· % z.cells.size]!)) (parts.map fun (i,x)=>(i,a.eval x)).toList=some (denL s.m vs).toArray:=by
 have hl:=Nat.eq_of_beq_eq_true hl
 simp only [Bool.and_eq_true] at h0
 have h1:=Nat.le_of_ble_eq_true h0.1
 have h2:=Nat.le_of_ble_eq_true h0.2
 cases hy:tyO t X.tab with
 | none=>simp [hy] at ht
 | some y =>
  cases hz:tyO e X.tab with
  | none=>simp [hz] at hn
  | some z =>
   simp only [hy,hz,Bool.and_eq_true] at ht hn
   obtain ⟨d,i,T⟩:=(hX.tab _ _ hy).out
   obtain ⟨d',i',T'⟩:=(hX.tab _ _ hz).out
   have hel:=Nat.eq_of_beq_eq_true ht.2
   have hsz:=Nat.eq_of_beq_eq_true hn.1
   have h3:i'.size=1:=by rw [T'.size,hsz]
   refine ⟨i',_,by rw [T.un,T.sl ht.1,hel],T'.inf,T'.zero,by rw [h3]; omega,by rw [h3]; omega,fun a hf=>?_⟩
   have he:=evs_of hf hx
   have hbd:=bare_den (m:=s.m) hb
   have:=Go.Great.fill_whole (s:=i'.size) (by omega) (denL s.m vs) ((Array.range (n*i'.size)).map ((zeroV z).cells[· % (zeroV z).cells.size]!)) (by intro u hu; rw [hbd u hu,h3]; rfl) (by rw [denL_len,hl]; simp)
   rw [one_flat hbd,← he,← zip_map a.eval xs 0,← hp] at this
   rw [← he]
   simpa using this
theorem opbo (hX:X.Ok) {α:Type} (E:Ek α) (ls:List α) (xs:List Operand) (vs:List SV) (ho:o.op=.buildSlice t n parts) (hp:parts.toList=(xs.zipIdx 0).map fun x=>(x.2,x.1)) (hx:(xs.map fun x=>evO x s.fr)=vs.map some) (hd:denL s.m vs=rowsOf E.c ls) (hE:E.k=1)
  (h:∀ g:Nat,appO s.ob (rwO E X.w0.heap.size (some ⟨g,0,none⟩) n n ls true) fun ob=>put X.n o.dst (.v (.slice (some ⟨g,0,none⟩) n n)) ⟨s.fr,s.m,ob⟩ K) (hl:Nat.beq vs.length n=true:=by rfl) (h0:(Nat.ble 1 n && Nat.ble n 1000)=true:=by rfl) (hb:vs.all bareS=true:=by rfl)
  (ht:(match tyO t X.tab with | some y=>y.sl && Nat.beq y.el E.t | none=>false)=true:=by rfl) (hn:(match tyO E.t X.tab with | some y=>Nat.beq y.size 1 && !y.row | none=>false)=true:=by rfl) (hc:okL s.m.length vs=true:=by rfl):OpVC X o s K:=⟨fun a w Q hR=>by
 obtain ⟨ie,z,a1,a2,a3,a4,a5,a6⟩:=fill_n hX xs vs hp hx hl h0 hb ht hn
 have hl:=Nat.eq_of_beq_eq_true hl
 simp only [Bool.and_eq_true] at h0
 have h2:=Nat.le_of_ble_eq_true h0.2
 have hlen:(denL s.m vs).length=n:=by rw [denL_len]; exact hl
 have hst:(rwO E X.w0.heap.size (some ⟨w.heap.size,0,none⟩) n n ls true).st (w.alloc (.cells (denL s.m vs).toArray E.t)):=by
  refine ⟨by rw [← hd,hlen,hE]; omega,.inr ⟨w.heap.size,n,(denL s.m vs).toArray,rfl,hR.h.upd.size,Blk.new _ _ _,Nat.le_refl _,by unfold maxLen; omega,by rw [hE]; simp [hlen], ?_⟩⟩
  rw [← hd]
  exact List.take_of_length_le (by rw [hE]; simp [hlen])
 have hH:=hR.h.obj_new (B:=rwO E X.w0.heap.size (some ⟨w.heap.size,0,none⟩) n n ls true) hst ((Since.refl w).alloc _) (by intro g hg; simp only [rwO,blkOf,List.mem_singleton] at hg; omega)
 obtain ⟨s',r1,r2,r3,r4⟩:=put_of (a:=a) (s:=⟨s.fr,s.m,s.ob++[rwO E X.w0.heap.size (some ⟨w.heap.size,0,none⟩) n n ls true]⟩) (v:=.v (.slice (some ⟨w.heap.size,0,none⟩) n n)) hR.ds hR.sz hR.fr hH rfl (appO_of (h w.heap.size))
 refine wp_buildSlice t E.t n parts ho _ ie z a1 a2 a3 a4 a5 (a6 a hR.fr) ⟨s', ?_,by rw [r2]; exact Ext.refl _,r4⟩
 exact r1⟩
end
end En
namespace En
open Go.RowKit Ba Mem
def Ek.Rd {α:Type} (E:Ek α) (a:Option Addr) (n:Nat) (ls:Nat→α) (w:World):Prop :=
 n=0∨∃ b off,a=some ⟨b,off,none⟩∧b < w.heap.size∧∀ i,i < n→∀ j v,(E.c (ls i))[j]?=some v→w.cell? ⟨b,off+i*E.k+j,none⟩=some v
theorem upd_cell {T:List Nat} {w w':World} {b i:Nat} {v:Value} (k:Upd T w w') (hb:b < w.heap.size) (hT:b∉T) (h:w.cell? ⟨b,i,none⟩=some v):w'.cell? ⟨b,i,none⟩=some v:=by
 have:=k.block b hb hT
 unfold World.cell? at h ⊢
 rw [this]; exact h
def rdF (a:Option Addr) (n:Nat):List Nat:=match n with | 0=>[] | _+1=>blkOf a
def rdO {α:Type} (E:Ek α) (a:Option Addr) (n:Nat) (ls:Nat→α):Asr:=⟨rdF a n,false,E.Rd a n ls,fun k h hs=>by
 rcases hs with rfl | ⟨b,off,rfl,hb,hc⟩
 ·exact .inl rfl
 ·cases n with
  | zero=>exact .inl rfl
  | succ n=>exact .inr ⟨b,off,rfl,Nat.lt_of_lt_of_le hb k.size,fun i hi j v hj=>upd_cell k hb (h b (by simp [rdF,blkOf])) (hc i hi j v hj)⟩,fun h g hg=>by
 cases n with
 | zero=>cases hg
 | succ n =>
  rcases h with h | ⟨b,off,rfl,hb,hc⟩
  ·cases h
  ·have:g=b:=by simpa [rdF,blkOf] using hg
   omega⟩
theorem Ek.rd_addr {α:Type} {E:Ek α} {a:Option Addr} {n:Nat} {ls:Nat→α} {w:World} (h:E.Rd a n ls w):∃ b off,0 < n→a=some ⟨b,off,none⟩:=by
 rcases h with rfl | ⟨b,off,rfl,_⟩
 ·exact ⟨0,0,fun h=>by omega⟩
 ·exact ⟨b,off,fun _=>rfl⟩
theorem Ek.rd_rng {α:Type} {E:Ek α} {b off n k:Nat} {ls:Nat→α} {w:World} (h:E.Rd (some ⟨b,off,none⟩) n ls w) (hk:k < n):w.rangeAt b (off+k*E.k) (E.c (ls k)):=fun j v hj=>by
 rcases h with rfl | ⟨b',off',e,_,hc⟩
 ·omega
 ·cases e; exact hc k hk j v hj
end En
namespace En
open Go.RowKit Ba Mem
theorem fv_run {X:Cx} (hX:X.Ok) {m:List Row} {fr:List (Nat×SV)} {o:Oper} {t:TypeId} {x:Operand} {k:Nat} {ad:Addr} {y:Ty} {q:Nat×Nat×Bool} (ho:o.op=.fieldAddr t x k) (hx:evO x fr=some (.v (.pointer (some ad)))) (hy:tyO t X.tab=some y) (hq:y.flds[k]?=some q) (a:Act) (hf:FrOk m a.tmps fr) (w:World) :
  (execOp a.eval o).run X.P w=.ok (.value (.pointer (some (ad.add q.1)))) w:=by
 obtain ⟨d,i,T⟩:=(hX.tab _ _ hy).out
 obtain ⟨fs,rfl,hfc⟩:=T.st k q hq
 obtain ⟨f,i2,d2,f1,f2,f3,f4,f5,f6,f7,f8⟩:=(fld_of hfc).2 k q hq
 have f1':fs[k]?=some f:=by simpa using f1
 have h2:=(evO_of hf hx).2
 unfold execOp
 simp only [ho,h2,den,Instr.fieldAt,Instr.sureAddr,Sem.run_bind,run_underlying T.un,Result.andThen_ok,Sem.run_pure,f1',fieldPlace,sizeOf,typeInfo]
 simp only [run_program,f3,Result.andThen_ok,Sem.run_pure,f5,if_neg f6,f2]
theorem opfv {X:Cx} {s:St} (hX:X.Ok) {o:Oper} {K:St→Prop} {t:TypeId} {x:Operand} {k:Nat} {ad:Addr} {y:Ty} {q:Nat×Nat×Bool} (ho:o.op=.fieldAddr t x k) (hx:evO x s.fr=some (.v (.pointer (some ad)))) (hy:tyO t X.tab=some y) (hq:y.flds[k]?=some q) (h:put X.n o.dst (.v (.pointer (some (ad.add q.1)))) s K):OpVC X o s K :=
 opq (.v (.pointer (some (ad.add q.1)))) (fun a w hf _=>fv_run hX ho hx hy hq a hf w) h rfl
theorem pufv {X:Cx} {s:St} (hX:X.Ok) {o:Oper} {K:SV→Prop} {t:TypeId} {x:Operand} {k:Nat} {ad:Addr} {y:Ty} {q:Nat×Nat×Bool} (ho:o.op=.fieldAddr t x k) (hx:evO x s.fr=some (.v (.pointer (some ad)))) (hy:tyO t X.tab=some y) (hq:y.flds[k]?=some q) (h:K (.v (.pointer (some (ad.add q.1))))):PuVC X o s K :=
 ⟨⟨.v (.pointer (some (ad.add q.1))),rfl,fun a hf w=>fv_run hX ho hx hy hq a hf w,h⟩⟩
theorem wkd {X:Cx} {s s':St} (hfr:frW s s'.m s'.fr) (hm:s'.m=s.m.take s'.m.length:=by rfl) (hok:rowsOk s'.m.length s'.m=true:=by rfl) (hob:s'.ob=s.ob.take s'.ob.length:=by rfl):Wk X s s':=by
 refine ⟨fun a w hR=>?_⟩
 have h1:=(wk (X:=X) (s:=s) (s':=⟨s'.fr,s'.m,s.ob⟩) hfr hm hok rfl).out a w hR
 have hs:∀ B∈s'.ob,B∈s.ob:=fun B hB=>by rw [hob] at hB; exact List.mem_of_mem_take hB
 have H:=h1.h
 exact ⟨h1.ds,h1.sz,h1.fr,H.upd,H.row,H.wf,H.ne,fun B hB=>H.obj B (hs B hB),fun B hB=>H.far B (hs B hB),fun B hB=>H.own B (hs B hB),by rw [hob]; exact List.Pairwise.sublist (List.take_sublist _ _) H.dis⟩
section
variable {X:Cx} {s:St} {o:Oper} {t:TypeId}
end
section
variable {X:Cx} {m:List Row} {ob:List Asr} {w w':World} {s:St}
theorem Ext.dead {k:Nat} {r:Row} (h:m[k]?=some r):Ext m (m.set k { r with live:=false }):=fun i q hq=>by
 by_cases e:k=i
 ·subst e; rw [h] at hq; cases hq
  exact ⟨{ r with live:=false },by rw [List.getElem?_set_self (List.getElem?_eq_some_iff.1 h).1],rfl,rfl⟩
 ·exact ⟨q,by rw [List.getElem?_set_ne e]; exact hq,rfl,rfl⟩
theorem Hold.toObj (hH:Hold X m ob w) {k:Nat} {C:Asr} {r:Row} (hr:m[k]?=some r) (hl:r.live=true) (hrw:r.rw=true) (hF:C.F=[r.g]) (hC:C.st w):Hold X (m.set k { r with live:=false }) (ob++[C]) w:=by
 have hE:=Ext.dead hr
 have live:∀ (j:Nat) (q:Row),(m.set k { r with live:=false })[j]?=some q→q.live=true→j≠k∧m[j]?=some q:=fun j q hq hql=>by
  rcases getElem?_set_or hq with ⟨rfl,rfl⟩ | ⟨hne,hq⟩
  ·cases hql
  ·exact ⟨Ne.symm hne,hq⟩
 have mem:∀ D,D∈ob++[C]→D=C∨D∈ob:=fun D hD=>by
  rcases List.mem_append.1 hD with h | h
  ·exact .inr h
  ·exact .inl (List.mem_singleton.1 h)
 refine ⟨hH.upd,fun a q hq hql=>?_,fun a q hq hql=>?_,fun a b q q' ha hb hq hq' hne=>?_,fun D hD=>?_,fun D hD a q hq hql hg=>?_,fun D hD hDw g hg=>?_, ?_⟩
 ·obtain ⟨_,hq⟩:=live a q hq hql
  rw [rowA_ext hE (hH.wf a q hq hql).1]; exact hH.row a q hq hql
 ·obtain ⟨_,hq⟩:=live a q hq hql
  rw [List.length_set]; exact hH.wf a q hq hql
 ·obtain ⟨_,ha⟩:=live a q ha hq
  obtain ⟨_,hb⟩:=live b q' hb hq'
  exact hH.ne a b q q' ha hb hq hq' hne
 ·rcases mem D hD with rfl | hD
  ·exact hC
  ·exact hH.obj D hD
 ·obtain ⟨hak,hq⟩:=live a q hq hql
  rcases mem D hD with rfl | hD
  ·rw [hF,List.mem_singleton] at hg
   exact hH.ne a k q r hq hr hql hl hak hg
  ·exact hH.far D hD a q hq hql hg
 ·rcases mem D hD with rfl | hD
  ·rw [hF,List.mem_singleton] at hg; subst hg
   exact (hH.wf k r hr hl).2.2 hrw
  ·exact hH.own D hD hDw g hg
 ·refine List.pairwise_append.2 ⟨hH.dis,List.pairwise_singleton ..,fun D hD E hE _ g hg hgE=>?_⟩
  rw [List.mem_singleton] at hE; subst hE
  rw [hF,List.mem_singleton] at hgE; subst hgE
  exact hH.far D hD k r hr hl hg
theorem Hold.told {A B:Asr} {post:List Asr} (h:Hold X m (A::post) w) (hst:A.st w→B.st w) (hF:∀ g∈B.F,g∈A.F) (hrw:B.rw=A.rw):Hold X m (B::post) w:=by
 have hp:=List.pairwise_cons.1 h.dis
 refine ⟨h.upd,h.row,h.wf,h.ne,fun C hC=>?_,fun C hC j r hj hl hg=>?_,fun C hC hr g hg=>?_,List.pairwise_cons.2 ⟨fun C hC hr g hg=>hp.1 C hC (by rw [← hrw]; exact hr) g (hF g hg),hp.2⟩⟩
 ·rcases List.mem_cons.1 hC with rfl | hC
  ·exact hst (h.obj A (List.mem_cons_self ..))
  ·exact h.obj C (List.mem_cons_of_mem _ hC)
 ·rcases List.mem_cons.1 hC with rfl | hC
  ·exact h.far A (List.mem_cons_self ..) j r hj hl (hF _ hg)
  ·exact h.far C (List.mem_cons_of_mem _ hC) j r hj hl hg
 ·rcases List.mem_cons.1 hC with rfl | hC
  ·exact h.own A (List.mem_cons_self ..) (by rw [← hrw]; exact hr) g (hF g hg)
  ·exact h.own C (List.mem_cons_of_mem _ hC) hr g hg
end
section
variable {X:Cx} {s:St} {o:Oper}
theorem nv_run {m:List Row} {fr:List (Nat×SV)} {x:Operand} {ad:Addr} (ho:o.op=.nilCheck x) (hx:evO x fr=some (.v (.pointer (some ad)))) (a:Act) (hf:FrOk m a.tmps fr) (w:World):(execOp a.eval o).run X.P w=.ok (.value (.pointer (some ad))) w:=by
 have h2:=(evO_of hf hx).2
 unfold execOp
 simp only [ho,h2,den]
 first | rfl | simp [Sem.run_bind,Sem.run_pure]
theorem opnv {K:St→Prop} {x:Operand} {ad:Addr} (ho:o.op=.nilCheck x) (hx:evO x s.fr=some (.v (.pointer (some ad)))) (h:put X.n o.dst (.v (.pointer (some ad))) s K):OpVC X o s K :=
 opq (.v (.pointer (some ad))) (fun a w hf _=>nv_run ho hx a hf w) h rfl
theorem punv {K:SV→Prop} {x:Operand} {ad:Addr} (ho:o.op=.nilCheck x) (hx:evO x s.fr=some (.v (.pointer (some ad)))) (h:K (.v (.pointer (some ad)))):PuVC X o s K :=
 ⟨⟨.v (.pointer (some ad)),rfl,fun a hf w=>nv_run ho hx a hf w,h⟩⟩
end
section
variable {X:Cx} {s:St}
end
theorem hob {X:Cx} {m:List Row} {ob:List Asr} {w:World} (h:Hold X m ob w) {A:Asr} (i:Nat) (hA:ob[i]?=some A):A.st w:=h.obj A (List.mem_of_getElem? hA)
end En
namespace En
open Go.RowKit Ba Mem
def PV (X:Cx) (o:Oper) (s:St) (v:SV):Prop:=okV s.m.length v=true∧∀ a:Act,FrOk s.m a.tmps s.fr→∀ w,(execOp a.eval o).run X.P w=.ok (.value (den s.m v)) w
section
variable {X:Cx} {s:St} {o:Oper}
theorem opP {v:SV} {K:St→Prop} (h:PV X o s v) (k:put X.n o.dst v s K):OpVC X o s K:=opq v (fun a w hf _=>h.2 a hf w) k h.1
theorem puP {v:SV} {K:SV→Prop} (h:PV X o s v) (k:K v):PuVC X o s K:=⟨⟨v,h.1,h.2,k⟩⟩
abbrev tx (xs:List UInt8):SV:=.v (.string ⟨xs.toArray⟩)
theorem tx_size (xs:List UInt8):(⟨xs.toArray⟩:ByteArray).size=xs.length:=by simp [ByteArray.size]
theorem pvLen {t:TypeId} {x:Operand} {xs:List UInt8} (ho:o.op=.call { callee:=.builtin .len,args:=#[x],argTypes:=#[t] }) (hx:evO x s.fr=some (tx xs)) (ht:X.P.underlying t=some .string):PV X o s (.i .i64 (xs.length:Int)) :=
 ⟨rfl,fun a hf w=>by
  have e1:=(evO_of hf hx).2
  have e2:=run_len_string (P:=X.P) w t o.type ⟨xs.toArray⟩ ht
  rw [tx_size] at e2
  unfold execOp
  simp only [ho]
  simp [resolve,invoke,e1,den,builtin,e2,Result.andThen,goInt]⟩
theorem pvIdx {t:TypeId} {x ix:Operand} {k:IntKind} {I:Int} {xs:List UInt8} {j:Nat} {c:UInt8} (ho:o.op=.index t x ix) (hx:evO x s.fr=some (tx xs)) (hi:evO ix s.fr=some (.i k I)) (hI:I=(j:Int)) (hc:xs[j]?=some c) (ht:X.P.underlying t=some .string):PV X o s (.i .u8 (c.toNat:Int)) :=
 ⟨rfl,fun a hf w=>by
  have e1:=(evO_of hf hx).2
  have e2:=(evO_of hf hi).2
  have e3:=run_index_string (P:=X.P) w t ⟨xs.toArray⟩ k I ht
  obtain ⟨hl,hce⟩:=List.getElem?_eq_some_iff.1 hc
  subst hI
  rw [dif_pos ⟨by omega,by rw [tx_size]; omega⟩] at e3
  have e4:(⟨xs.toArray⟩:ByteArray)[((j:Int)).toNat]'(by rw [tx_size]; omega)=c:=by
   rw [← hce]
   show (⟨xs.toArray⟩:ByteArray).data[((j:Int)).toNat]'_=_
   simp
  rw [e4] at e3
  unfold execOp
  simp only [ho,e1,e2,den]
  simp [e3,Result.andThen]⟩
theorem pvSl {t:TypeId} {x lo hi:Operand} {k k':IntKind} {I J:Int} {xs:List UInt8} (i j:Nat) (ho:o.op=.slice t x (some lo) (some hi) none) (hx:evO x s.fr=some (tx xs)) (h1:evO lo s.fr=some (.i k I)) (h2:evO hi s.fr=some (.i k' J)) (hb:(I=(i:Int)∧J=(j:Int))∧i≤j∧j≤xs.length) (ht:X.P.underlying t=some .string):PV X o s (tx ((xs.drop i).take (j - i))) :=
 ⟨rfl,fun a hf w=>by
  have e1:=(evO_of hf hx).2
  have e2:=(evO_of hf h1).2
  have e3:=(evO_of hf h2).2
  obtain ⟨⟨rfl,rfl⟩,hb1,hb2⟩:=hb
  have e4:=run_slice_string (P:=X.P) w t ⟨xs.toArray⟩ k k' i j ht (by omega) (by omega) (by rw [tx_size]; omega)
  rw [ByteArray.extract_mk] at e4
  unfold execOp
  simp only [ho,e1,e2,e3,den,Option.map_some,Option.map_none]
  have e5:=run_sliceAt_string (P:=X.P) (w:=w) t (.string ⟨xs.toArray⟩) (some (.int k i)) (some (.int k' j)) none ht
  simp [e5,e4,Result.andThen]⟩
theorem pvSlL {t:TypeId} {x lo:Operand} {k:IntKind} {I:Int} {xs:List UInt8} (i:Nat) (ho:o.op=.slice t x (some lo) none none) (hx:evO x s.fr=some (tx xs)) (h1:evO lo s.fr=some (.i k I)) (hb:I=(i:Int)∧i≤xs.length) (ht:X.P.underlying t=some .string):PV X o s (tx (xs.drop i)) :=
 ⟨rfl,fun a hf w=>by
  have e1:=(evO_of hf hx).2
  have e2:=(evO_of hf h1).2
  obtain ⟨rfl,hb1⟩:=hb
  have e4:=run_slice_string_from_if (P:=X.P) w t ⟨xs.toArray⟩ k i ht
  rw [if_pos ⟨by omega,by rw [tx_size]; omega⟩,ByteArray.extract_mk,tx_size] at e4
  have e6:(xs.drop i).take (xs.length - i)=xs.drop i:=List.take_of_length_le (by rw [List.length_drop]; omega)
  have e5:=run_sliceAt_string (P:=X.P) (w:=w) t (.string ⟨xs.toArray⟩) (some (.int k i)) none none ht
  unfold execOp
  simp only [ho,e1,e2,den,Option.map_some,Option.map_none]
  simp only [Int.toNat_natCast,e6] at e4
  simp [e5,e4,Result.andThen]⟩
theorem pvSlH {t:TypeId} {x hi:Operand} {k:IntKind} {J:Int} {xs:List UInt8} (j:Nat) (ho:o.op=.slice t x none (some hi) none) (hx:evO x s.fr=some (tx xs)) (h1:evO hi s.fr=some (.i k J)) (hb:J=(j:Int)∧j≤xs.length) (ht:X.P.underlying t=some .string):PV X o s (tx (xs.take j)) :=
 ⟨rfl,fun a hf w=>by
  have e1:=(evO_of hf hx).2
  have e2:=(evO_of hf h1).2
  obtain ⟨rfl,hb1⟩:=hb
  have e4:=run_slice_string_to_if (P:=X.P) w t ⟨xs.toArray⟩ k j ht
  rw [if_pos ⟨by omega,by rw [tx_size]; omega⟩,ByteArray.extract_mk] at e4
  have e5:=run_sliceAt_string (P:=X.P) (w:=w) t (.string ⟨xs.toArray⟩) none (some (.int k j)) none ht
  unfold execOp
  simp only [ho,e1,e2,den,Option.map_some,Option.map_none]
  simp only [Int.toNat_natCast,List.drop_zero,Nat.sub_zero] at e4
  simp [e5,e4,Result.andThen]⟩
theorem pvCat {t t2:TypeId} {x y:Operand} {xs ys:List UInt8} (ho:o.op=.binOp .add t x y t2) (hx:evO x s.fr=some (tx xs)) (hy:evO y s.fr=some (tx ys)) (h1:xs.length≤8388608∧ys.length≤8388608):PV X o s (tx (xs++ys)) :=
 ⟨rfl,fun a hf w=>by
  have e1:=(evO_of hf hx).2
  have e2:=(evO_of hf hy).2
  unfold execOp
  simp only [ho,e1,e2,den]
  simp [eqGuard,binOp,run_string_add_lists (P:=X.P) w xs ys (by omega) (by omega),Result.andThen]⟩
theorem pvMk {t:TypeId} {x:Operand} {v:SV} (ho:o.op=.makeInterface t x) (hx:evO x s.fr=some v) (hc:X.P.concrete t=true):PV X o s (.v (.iface t (den s.m v))) :=
 ⟨rfl,fun a hf w=>by
  have e1:=(evO_of hf hx).2
  have e2:=run_makeInterface (P:=X.P) w t (den s.m v) hc
  unfold execOp
  simp only [ho,e1]
  simp [e2,Result.andThen,den]⟩
theorem pvTa {x:Operand} {xT aT t:TypeId} {c:Bool} {v:Value} (r:SV) (ho:o.op=.typeAssert x xT aT c) (hx:evO x s.fr=some (.v (.iface t v))) (hr:∀ w,(Instr.typeAssert (.iface t v) xT aT c).run X.P w=.ok (den s.m r) w) (hv:okV s.m.length r=true:=by rfl):PV X o s r :=
 ⟨hv,fun a hf w=>by
  have e1:=(evO_of hf hx).2
  unfold execOp
  simp only [ho,e1,den]
  simp [hr,Result.andThen]⟩
def itO (g:Nat) (xs:List UInt8) (pos:Nat):Asr:=⟨[g],true,fun w=>w.heap[g]?=some (.stringIter ⟨xs.toArray⟩ pos),fun u hd h=>(u.block _ (Array.getElem?_eq_some_iff.1 h).1 (hd _ (List.mem_singleton.2 rfl))).trans h,fun h g hg=>by rw [List.mem_singleton.1 hg]; exact (Array.getElem?_eq_some_iff.1 h).1⟩
theorem wp_v2 {P:Program} {a:Act} {w w2:World} {K:Act→World→Prop} {Q:Exit→Act→World→Prop} (v:Value) (he:(execOp a.eval o).run P w=.ok (.value v) w2) (h:K (a.put o.dst v) w2):o.wp P a w K Q:=by
 unfold Oper.wp
 rw [he]
 exact h
theorem opra {t:TypeId} {x:Operand} {xs:List UInt8} {K:St→Prop} (ho:o.op=.range t x) (hx:evO x s.fr=some (tx xs)) (ht:X.P.underlying t=some .string) (h:∀ g:Nat,appO s.ob (itO g xs 0) fun ob=>put X.n o.dst (.v (.pointer (some ⟨g,0,none⟩))) ⟨s.fr,s.m,ob⟩ K):OpVC X o s K:=⟨fun a w Q hR=>by
 have e1:=(evO_of hR.fr hx).2
 have e2:=run_range_string (P:=X.P) w t ⟨xs.toArray⟩ ht
 have hs:Since w (w.iter ⟨xs.toArray⟩ 0):=Since.alloc (Since.refl w) _
 have hH:=hR.h.obj_new (B:=itO w.heap.size xs 0) (w.iter_heap _ _) hs (by intro g hg; rw [List.mem_singleton.1 hg]; exact Nat.le_refl _)
 obtain ⟨s',r1,r2,r3,r4⟩:=put_of (a:=a) (s:=⟨s.fr,s.m,s.ob++[itO w.heap.size xs 0]⟩) (v:=.v (.pointer (some ⟨w.heap.size,0,none⟩))) hR.ds hR.sz hR.fr hH rfl (appO_of (h w.heap.size))
 refine wp_v2 _ ?_ ⟨s',r1,by rw [r2]; exact Ext.refl _,r4⟩
 unfold execOp
 simp only [ho,e1,den]
 simp [e2,Result.andThen]⟩
theorem it_upd {w:World} {g pos:Nat} {b:ByteArray}:Upd [g] w (w.iterAt g b pos):=⟨rfl,rfl,rfl,by simp [World.iterAt],fun k hk hn=>by
 have:g≠k:=fun e=>hn (by rw [e]; exact List.mem_singleton.2 rfl)
 simp [World.iterAt,this]⟩
theorem opnx (i:Nat) {it:Operand} {g pos:Nat} {xs:List UInt8} {K:St→Prop} (ho:o.op=.next it true) (hx:evO it s.fr=some (.v (.pointer (some ⟨g,0,none⟩)))) (hA:s.ob[i]?=some (itO g xs pos)) (hp:pos < xs.length) (h:setO i (itO g xs (pos+(Utf8.decode ⟨xs.toArray⟩ pos).2)) s.ob fun ob=>put X.n o.dst (.t [.b true,.i .i64 (pos:Int),.i .i32 ((Utf8.decode ⟨xs.toArray⟩ pos).1:Int)]) ⟨s.fr,s.m,ob⟩ K):OpVC X o s K:=⟨fun a w Q hR=>by
 have e1:=(evO_of hR.fr hx).2
 have hs:w.heap[g]?=some (.stringIter ⟨xs.toArray⟩ pos):=hR.h.obj _ (List.mem_of_getElem? hA)
 have e2:=Lib.run_next_any_at (P:=X.P) w g ⟨xs.toArray⟩ pos o.type hs (by rw [tx_size]; exact hp)
 have hH:=hR.h.obj_set (B:=itO g xs (pos+(Utf8.decode ⟨xs.toArray⟩ pos).2)) hA rfl (Lib.iterAt_heap w g _ _ _ hs) it_upd (fun k hk=>.inl hk)
 obtain ⟨s',r1,r2,r3,r4⟩:=put_of (a:=a) (s:=⟨s.fr,s.m,s.ob.set i (itO g xs (pos+(Utf8.decode ⟨xs.toArray⟩ pos).2))⟩) (v:=.t [.b true,.i .i64 (pos:Int),.i .i32 ((Utf8.decode ⟨xs.toArray⟩ pos).1:Int)]) hR.ds hR.sz hR.fr hH rfl (setO_of h)
 refine wp_v2 _ ?_ ⟨s',r1,by rw [r2]; exact Ext.refl _,r4⟩
 unfold execOp
 simp only [ho,e1,den]
 simp [e2,Result.andThen,denL,den]⟩
theorem opne (i:Nat) {it:Operand} {g pos:Nat} {xs:List UInt8} {K:St→Prop} (ho:o.op=.next it true) (hx:evO it s.fr=some (.v (.pointer (some ⟨g,0,none⟩)))) (hA:s.ob[i]?=some (itO g xs pos)) (hp:¬ pos < xs.length) (h:put X.n o.dst (.t [.b false]) s K):OpVC X o s K :=
 opq (.t [.b false]) (fun a w hf hH=>by
  have e1:=(evO_of hf hx).2
  have hs:w.heap[g]?=some (.stringIter ⟨xs.toArray⟩ pos):=hH.obj _ (List.mem_of_getElem? hA)
  have e2:=Lib.run_next_end_at (P:=X.P) w g ⟨xs.toArray⟩ pos o.type hs (by rw [tx_size]; exact hp)
  unfold execOp
  simp only [ho,e1,den]
  simp [e2,Result.andThen,denL,den]) h rfl
end
theorem dec_lo {xs:List UInt8} {pos:Nat} {c:UInt8} (hc:xs[pos]?=some c) (h:c.toNat < 128):Utf8.decode ⟨xs.toArray⟩ pos=(c.toNat,1):=by
 obtain ⟨hl,hce⟩:=List.getElem?_eq_some_iff.1 hc
 have e:(⟨xs.toArray⟩:ByteArray)[pos]'(by rw [tx_size]; exact hl)=c:=by
  rw [← hce]
  show (⟨xs.toArray⟩:ByteArray).data[pos]'_=_
  simp
 rw [decode_ascii _ pos (by rw [tx_size]; exact hl) (by rw [e]; exact h),e]
theorem dec_hi {xs:List UInt8} {pos:Nat} {c:UInt8} (hc:xs[pos]?=some c) (h:128≤c.toNat):128≤(Utf8.decode ⟨xs.toArray⟩ pos).1:=by
 obtain ⟨hl,hce⟩:=List.getElem?_eq_some_iff.1 hc
 have e:(⟨xs.toArray⟩:ByteArray)[pos]'(by rw [tx_size]; exact hl)=c:=by
  rw [← hce]
  show (⟨xs.toArray⟩:ByteArray).data[pos]'_=_
  simp
 exact (decode_high _ pos (by rw [tx_size]; exact hl) (by rw [e]; exact h)).1
end En
namespace En
open Go.RowKit Ba Mem
def mgO (A C:Asr):Asr:=⟨A.F++C.F,true,fun w=>A.st w∧C.st w,fun u hd h=>⟨A.up u (fun x hx=>hd x (List.mem_append.2 (.inl hx))) h.1,C.up u (fun x hx=>hd x (List.mem_append.2 (.inr hx))) h.2⟩,fun h x hx=>by
 rcases List.mem_append.1 hx with hx | hx
 ·exact A.lt h.1 x hx
 ·exact C.lt h.2 x hx⟩
section
variable {X:Cx} {m:List Row} {ob:List Asr} {w w':World} {s:St}
theorem Hold.merge (hH:Hold X m ob w) {i j:Nat} {A C:Asr} (hA:ob[i]?=some A) (hC:ob[j]?=some C) (hij:i≠j) (hAw:A.rw=true) (hCw:C.rw=true) :
  Hold X m ((ob.set i (mgO A C)).set j nilO) w∧(∀ x∈C.F,x∉A.F):=by
 have mA:=List.mem_of_getElem? hA
 have mC:=List.mem_of_getElem? hC
 have dAC:∀ x∈C.F,x∉A.F:=pair_at (R:=DisR) (fun _ _ h=>h.symm) hH.dis hC hA (Ne.symm hij) (.inr hAw)
 have mem:∀ D,D∈(ob.set i (mgO A C)).set j nilO→D=nilO∨D=mgO A C∨∃ l,l≠i∧l≠j∧ob[l]?=some D:=fun D hD=>by
  rcases mem_set_or hD with rfl | ⟨l,hlj,hD⟩
  ·exact .inl rfl
  ·rcases getElem?_set_or hD with ⟨rfl,rfl⟩ | ⟨hli,hD⟩
   ·exact .inr (.inl rfl)
   ·exact .inr (.inr ⟨l,Ne.symm hli,hlj,hD⟩)
 refine ⟨⟨hH.upd,hH.row,hH.wf,hH.ne,fun D hD=>?_,fun D hD a q hq hql hg=>?_,fun D hD hDw g hg=>?_, ?_⟩,dAC⟩
 ·rcases mem D hD with rfl | rfl | ⟨l,_,_,hD⟩
  ·trivial
  ·exact ⟨hH.obj A mA,hH.obj C mC⟩
  ·exact hH.obj D (List.mem_of_getElem? hD)
 ·rcases mem D hD with rfl | rfl | ⟨l,_,_,hD⟩
  ·cases hg
  ·rcases List.mem_append.1 hg with hg | hg
   ·exact hH.far A mA a q hq hql hg
   ·exact hH.far C mC a q hq hql hg
  ·exact hH.far D (List.mem_of_getElem? hD) a q hq hql hg
 ·rcases mem D hD with rfl | rfl | ⟨l,_,_,hD⟩
  ·cases hg
  ·rcases List.mem_append.1 hg with hg | hg
   ·exact hH.own A mA hAw g hg
   ·exact hH.own C mC hCw g hg
  ·exact hH.own D (List.mem_of_getElem? hD) hDw g hg
 ·have nil:∀ D:Asr,DisR D nilO:=fun D _ g _ h=>by cases h
  have far:∀ (l:Nat) (D:Asr),l≠i→l≠j→ob[l]?=some D→DisR D (mgO A C):=fun l D hli hlj hD _ g hg hgx=>by
   rcases List.mem_append.1 hgx with hx | hx
   ·exact pair_at (R:=DisR) (fun _ _ h=>h.symm) hH.dis hD hA hli (.inr hAw) g hg hx
   ·exact pair_at (R:=DisR) (fun _ _ h=>h.symm) hH.dis hD hC hlj (.inr hCw) g hg hx
  have at_:∀ (l:Nat) (D:Asr),((ob.set i (mgO A C)).set j nilO)[l]?=some D→D=nilO∨(l=i∧D=mgO A C)∨(l≠i∧l≠j∧ob[l]?=some D):=fun l D hD=>by
   rcases getElem?_set_or hD with ⟨rfl,rfl⟩ | ⟨hlj,hD⟩
   ·exact .inl rfl
   ·rcases getElem?_set_or hD with ⟨rfl,rfl⟩ | ⟨hli,hD⟩
    ·exact .inr (.inl ⟨rfl,rfl⟩)
    ·exact .inr (.inr ⟨Ne.symm hli,Ne.symm hlj,hD⟩)
  refine pair_of fun a b D E hne hD hE'=>?_
  rcases at_ a D hD with rfl | ⟨rfl,rfl⟩ | ⟨h1,h1',kD⟩ <;> rcases at_ b E hE' with rfl | ⟨rfl,rfl⟩ | ⟨h4,h4',kE⟩
  ·exact nil _
  ·exact (nil _).symm
  ·exact (nil _).symm
  ·exact nil _
  ·exact absurd rfl hne
  ·exact (far b E h4 h4' kE).symm
  ·exact nil _
  ·exact far a D h1 h1' kD
  ·exact pair_at (R:=DisR) (fun _ _ h=>h.symm) hH.dis kD kE hne
inductive PW where
 | nu (z:Int)
 | da (A:Option Addr) (n c:Nat) (zs:List Int)
def PW.v:PW→Value
 | .nu z=>.int .i64 z
 | .da A n c _=>.slice A n c
def PW.F:PW→List Nat
 | .nu _=>[]
 | .da A _ _ _=>blkOf A
def PW.st (lo:Nat):PW→World→Prop
 | .nu _,_=>True
 | .da A n c zs,w=>(rwO byteE lo A n c zs true).st w
theorem PW.one (x:PW):x.v.oneCell'=true:=by cases x <;> rfl
def plF (b:Nat) (vs:List PW):List Nat:=b::vs.flatMap PW.F
def plA (vs:List PW) (rest:List Value):Array Value:=(vs.map PW.v++rest).toArray
def PlAt (lo b:Nat) (T:TypeId) (vs:List PW) (rest:List Value) (w:World):Prop:=Blk w b T (plA vs rest)∧∀ x∈vs,x.st lo w∧b∉x.F
theorem pl_mem {b g:Nat} {vs:List PW}:g∈plF b vs↔g=b∨∃ x∈vs,g∈x.F:=by
 unfold plF
 rw [List.mem_cons,List.mem_flatMap]
theorem PW.up {lo:Nat} {x:PW} {T:List Nat} (u:Upd T w w') (hd:∀ g∈x.F,g∉T) (h:x.st lo w):x.st lo w':=by
 cases x with
 | nu z=>trivial
 | da A n c zs=>exact (rwO byteE lo A n c zs true).up u hd h
theorem PW.lt {lo:Nat} {x:PW} (h:x.st lo w):∀ g∈x.F,g < w.heap.size:=by
 cases x with
 | nu z=>intro g hg; cases hg
 | da A n c zs=>exact (rwO byteE lo A n c zs true).lt h
def plO (lo b:Nat) (T:TypeId) (vs:List PW) (rest:List Value):Asr:=⟨plF b vs,true,PlAt lo b T vs rest,fun u hd h=>⟨u.blk h.1 (hd b (pl_mem.2 (.inl rfl))),fun x hx=>⟨PW.up u (fun g hg=>hd g (pl_mem.2 (.inr ⟨x,hx,hg⟩))) (h.2 x hx).1,(h.2 x hx).2⟩⟩,fun h g hg=>by
 rcases pl_mem.1 hg with rfl | ⟨x,hx,hg⟩
 ·exact h.1.lt
 ·exact PW.lt (h.2 x hx).1 g hg⟩
theorem plA_set (vs:List PW) (r0:Value) (rest:List Value) (x:PW):(plA vs (r0::rest)).setIfInBounds vs.length x.v=plA (vs++[x]) rest:=by
 unfold plA
 apply Array.toList_inj.1
 simp
theorem plA_lt (vs:List PW) (r0:Value) (rest:List Value):vs.length < (plA vs (r0::rest)).size:=by
 unfold plA; simp
theorem PlAt.add {lo b:Nat} {T:TypeId} {vs:List PW} {r0:Value} {rest:List Value} {x:PW} (h:PlAt lo b T vs (r0::rest) w) (hx:x.st lo w) (hb:b∉x.F) (hw:w'=w.setRow b ((plA vs (r0::rest)).setIfInBounds vs.length x.v)):PlAt lo b T (vs++[x]) rest w'∧Upd [b] w w':=by
 have u:Upd [b] w w':=by rw [hw]; exact (Upd.refl _ w).setRow (.inl (by simp)) _
 refine ⟨⟨by rw [hw,plA_set vs r0 rest x]; exact Blk.row h.1 _,fun v hv=>?_⟩,u⟩
 have key:∀ v:PW,v.st lo w→b∉v.F→v.st lo w':=fun v h1 h2=>PW.up u (fun g hg hgb=>h2 (by rw [List.mem_singleton] at hgb; rw [← hgb]; exact hg)) h1
 rcases List.mem_append.1 hv with hv | hv
 ·exact ⟨key v (h.2 v hv).1 (h.2 v hv).2,(h.2 v hv).2⟩
 ·rw [List.mem_singleton.1 hv]; exact ⟨key x hx hb,hb⟩
theorem pl_add {b g:Nat} {vs:List PW} {x:PW} (h:g∈plF b (vs++[x])):g∈plF b vs∨g∈x.F:=by
 rcases pl_mem.1 h with rfl | ⟨v,hv,hg⟩
 ·exact .inl (pl_mem.2 (.inl rfl))
 ·rcases List.mem_append.1 hv with hv | hv
  ·exact .inl (pl_mem.2 (.inr ⟨v,hv,hg⟩))
  ·rw [List.mem_singleton.1 hv] at hg; exact .inr hg
variable {o:Oper} {K:St→Prop} {ty:TypeId} {x y:Operand} {lo b q:Nat} {T:TypeId} {vs:List PW} {r0:Value} {rest:List Value}
theorem opsPn (i:Nat) (z:Int) (ho:o.op=.store ty x y) (hx:evO x s.fr=some (.v (.pointer (some ⟨b,q,none⟩)))) (hq:q=vs.length) (hy:evO y s.fr=some (.i .i64 z)) (hA:s.ob[i]?=some (plO lo b T vs (r0::rest))) (hs:(X.P.info? ty).map (·.size)=some 1)
  (h:setO i (plO lo b T (vs++[PW.nu z]) rest) s.ob fun ob=>put X.n o.dst (.v undef) ⟨s.fr,s.m,ob⟩ K):OpVC X o s K:=⟨fun a w Q hR=>by
 subst hq
 have st:=hR.h.obj _ (List.mem_of_getElem? hA)
 refine wp_st_cell ty x y ho _ (.int .i64 z) (by rw [(evO_of hR.fr hx).2]; rfl) (by rw [(evO_of hR.fr hy).2]; rfl) st.1 (plA_lt _ _ _) rfl rfl hs (fun w' hw=>?_)
 obtain ⟨hp,u⟩:=PlAt.add (x:=.nu z) st trivial (by intro h; cases h) hw
 have hH:=hR.h.obj_set (B:=plO lo b T (vs++[PW.nu z]) rest) hA rfl hp (u.mono (fun g hg _=>by rw [List.mem_singleton] at hg; subst hg; exact pl_mem.2 (.inl rfl))) (fun g hg=>.inl (by
  rcases pl_add hg with hg | hg
  ·exact hg
  ·cases hg))
 obtain ⟨s',r1,r2,r3,r4⟩:=put_of (a:=a) (s:=⟨s.fr,s.m,s.ob.set i (plO lo b T (vs++[PW.nu z]) rest)⟩) (v:=.v undef) hR.ds hR.sz hR.fr hH rfl (setO_of h)
 exact ⟨s',r1,by rw [r2]; exact Ext.refl _,r4⟩⟩
theorem opsPd (i j:Nat) {A:Option Addr} {n c:Nat} {zs:List Int} (ho:o.op=.store ty x y) (hx:evO x s.fr=some (.v (.pointer (some ⟨b,q,none⟩)))) (hq:q=vs.length) (hy:evO y s.fr=some (.v (.slice A n c))) (hA:s.ob[i]?=some (plO lo b T vs (r0::rest))) (hC:s.ob[j]?=some (rwO byteE lo A n c zs true)) (hij:i≠j) (hs:(X.P.info? ty).map (·.size)=some 1)
  (h:setO i (plO lo b T (vs++[PW.da A n c zs]) rest) s.ob fun ob=>setO j nilO ob fun ob=>put X.n o.dst (.v undef) ⟨s.fr,s.m,ob⟩ K):OpVC X o s K:=⟨fun a w Q hR=>by
 subst hq
 have st:=hR.h.obj _ (List.mem_of_getElem? hA)
 have sc:=hR.h.obj _ (List.mem_of_getElem? hC)
 obtain ⟨hM,hd⟩:=hR.h.merge hA hC hij rfl rfl
 refine wp_st_cell ty x y ho _ (.slice A n c) (by rw [(evO_of hR.fr hx).2]; rfl) (by rw [(evO_of hR.fr hy).2]; rfl) st.1 (plA_lt _ _ _) rfl rfl hs (fun w' hw=>?_)
 obtain ⟨hp,u⟩:=PlAt.add (x:=.da A n c zs) st sc (fun hb=>hd b hb (pl_mem.2 (.inl rfl))) hw
 have hij2:((s.ob.set i (mgO (plO lo b T vs (r0::rest)) (rwO byteE lo A n c zs true))).set j nilO)[i]?=some (mgO (plO lo b T vs (r0::rest)) (rwO byteE lo A n c zs true)):=by
  rw [List.getElem?_set_ne (Ne.symm hij),List.getElem?_set_self (List.getElem?_eq_some_iff.1 hA).1]
 have hH:=hM.obj_set (B:=plO lo b T (vs++[PW.da A n c zs]) rest) hij2 rfl hp (u.mono (fun g hg _=>by rw [List.mem_singleton] at hg; subst hg; exact List.mem_append.2 (.inl (pl_mem.2 (.inl rfl))))) (fun g hg=>.inl (by
  rcases pl_add hg with hg | hg
  ·exact List.mem_append.2 (.inl hg)
  ·exact List.mem_append.2 (.inr hg)))
 have hset:((s.ob.set i (mgO (plO lo b T vs (r0::rest)) (rwO byteE lo A n c zs true))).set j nilO).set i (plO lo b T (vs++[PW.da A n c zs]) rest)=(s.ob.set i (plO lo b T (vs++[PW.da A n c zs]) rest)).set j nilO:=by
  rw [List.set_comm _ _ (Ne.symm hij),List.set_set]
 rw [hset] at hH
 obtain ⟨s',r1,r2,r3,r4⟩:=put_of (a:=a) (s:=⟨s.fr,s.m,(s.ob.set i (plO lo b T (vs++[PW.da A n c zs]) rest)).set j nilO⟩) (v:=.v undef) hR.ds hR.sz hR.fr hH rfl (setO_of (setO_of h))
 exact ⟨s',r1,by rw [r2]; exact Ext.refl _,r4⟩⟩
end
end En
namespace En
open Go.RowKit Ba Mem
open Byt (BV isB)
section
variable {X:Cx} {s:St}
theorem opapo (i j:Nat) {A C:Asr} {o:Oper} {K:St→Prop} {xs ys:Operand} {t e:TypeId} {lo size n c0 m c n2 bytes:Nat} {A0 A1:Option Addr} {z:Value} {vals cells zs:List Value} (B:Option Addr→Nat→Asr)
  (ho:o.op=.call { callee:=.builtin .append,args:=#[xs,ys],argTypes:=#[t,t] }) (hxs:evO xs s.fr=some (.v (.slice A0 n c0))) (hys:evO ys s.fr=some (.v (.slice A1 m c)))
  (hA:s.ob[i]?=some A) (hrw:A.rw=true) (hF:A.F=blkOf A0) (hst:∀ w,A.st w→w.ownsRow lo e size (.slice A0 n c0) n vals) (hB:∀ A' c' w,w.ownsRow lo e size (.slice A' n2 c') n2 zs→(B A' c').st w) (hBF:∀ A' c',(B A' c').F=blkOf A')
  (hC:s.ob[j]?=some C) (hrd:∀ w,C.st w→Reads w w.heap.size size A1 m cells)
  (ht:X.P.underlying t=some (.slice e)) (hinf:(X.P.info? e).map (fun i=>(i.zero,i.size,i.bytes))=some (some z,size,bytes)) (hzs:z.cells.size=size) (hsz:0 < size) (hby:bytes≤1000) (h1:∀ u∈cells,u.oneCell'=true)
  (hnm:n+m≤1000000) (hbase:∀ w,Hold X s.m s.ob w→lo≤w.heap.size) (hn2:n+m=n2) (hzs2:vals++cells=zs)
  (h:∀ A' c',setO i (B A' c') s.ob fun ob=>put X.n o.dst (.v (.slice A' n2 c')) ⟨s.fr,s.m,ob⟩ K):OpVC X o s K:=⟨fun a w Q hR=>by
 have sC:=hR.h.obj C (List.mem_of_getElem? hC)
 refine wp_append_row xs ys t ho lo e z size bytes ht hinf hzs hsz hby A0 n c0 vals (by rw [(evO_of hR.fr hxs).2]; rfl) (hst w (hR.h.obj A (List.mem_of_getElem? hA))) w.heap.size A1 m c cells (by rw [(evO_of hR.fr hys).2]; rfl) (hrd w sC) h1 hnm (hbase w hR.h) n2 zs hn2 hzs2 ?_
 intro A' c' w' hown hupd hfar
 have hH:=hR.h.obj_set hA hrw (hB A' c' w' hown) (by rw [hF]; exact hupd) (by rw [hF,hBF]; exact hfar)
 obtain ⟨s',r1,r2,r3,r4⟩:=put_of (a:=a) (s:=⟨s.fr,s.m,s.ob.set i (B A' c')⟩) (v:=.v (.slice A' n2 c')) hR.ds hR.sz hR.fr hH rfl (setO_of (h A' c'))
 exact ⟨s',r1,by rw [r2]; exact Ext.refl _,r4⟩⟩
end
theorem opbi {X:Cx} {s:St} (hX:X.Ok) {o:Oper} {K:St→Prop} {t e:TypeId} {x:Operand} (v:SV) (ho:o.op=.buildSlice t 1 #[(0,x)]) (hx:evO x s.fr=some v)
  (h:nw s e [v] fun j s'=>put X.n o.dst (.s j 0 1 1) s' K)
  (ht:(match tyO t X.tab with | some y=>y.sl && Nat.beq y.el e | none=>false)=true:=by rfl) (hn:(match tyO e X.tab with | some y=>Nat.beq y.size 1 && !y.row | none=>false)=true:=by rfl) (h1:∀ m,(den m v).cells=#[den m v]:=by intro m; rfl) (hc:okL s.m.length [v]=true:=by rfl):OpVC X o s K:=by
 cases hy:tyO t X.tab with
 | none=>simp [hy] at ht
 | some y =>
  cases hz:tyO e X.tab with
  | none=>simp [hz] at hn
  | some z =>
   simp only [hy,hz,Bool.and_eq_true] at ht hn
   obtain ⟨d,i,T⟩:=(hX.tab _ _ hy).out
   obtain ⟨d',i',T'⟩:=(hX.tab _ _ hz).out
   have hel:=Nat.eq_of_beq_eq_true ht.2
   have hsz:=Nat.eq_of_beq_eq_true hn.1
   have hu:X.P.underlying t=some (.slice e):=by rw [T.un,T.sl ht.1,hel]
   refine opbs [v] ho hu T'.inf T'.zero (by rw [T'.size]; omega) (by rw [T'.size]; omega) (fun a hf=>?_) h hc
   have he:=(evO_of hf hx).2
   have:=Go.Great.fill_whole (s:=i'.size) (by rw [T'.size]; omega) [den s.m v] ((Array.range (1*i'.size)).map ((zeroV z).cells[· % (zeroV z).cells.size]!)) (by intro u hu; rw [List.mem_singleton] at hu; subst hu; rw [h1,T'.size,hsz]; rfl) (by simp)
   simpa [he,denL,h1] using this
end En
namespace Gw
open Go.RowKit Ba Mem En Go.Proofs.YtnoehplnmdajnaaGreatDoor.Ty
open Byt (BV isB)
open Co (Hold.ob)
set_option maxRecDepth 100000
theorem bv_up {T:List Nat} {w w':World} {A:Option Addr} {n:Nat} {zs:List Int} (u:Upd T w w') (h:BV w A n zs) (hd:∀ g∈rdF A n,g∉T):BV w' A n zs:=by
 obtain ⟨h1,h2,h3,h4⟩:=h
 refine ⟨h1,h2,h3, ?_⟩
 rcases h4 with h4 | ⟨b,off,rfl,hb,hc⟩
 ·exact .inl h4
 ·cases n with
  | zero=>exact .inl rfl
  | succ n=>exact .inr ⟨b,off,rfl,Nat.lt_of_lt_of_le hb u.size,fun j hj=>upd_cell u hb (hd b (by simp [rdF,blkOf])) (hc j hj)⟩
theorem bv_lt {w:World} {A:Option Addr} {n:Nat} {zs:List Int} (h:BV w A n zs):∀ g∈rdF A n,g < w.heap.size:=by
 intro g hg
 obtain ⟨h1,h2,h3,h4⟩:=h
 cases n with
 | zero=>cases hg
 | succ n =>
  rcases h4 with h4 | ⟨b,off,rfl,hb,hc⟩
  ·cases h4
  ·have:g=b:=by simpa [rdF,blkOf] using hg
   omega
def bvO (A:Option Addr) (n:Nat) (zs:List Int):Asr:=⟨rdF A n,false,fun w=>BV w A n zs,fun u hd h=>bv_up u h hd,fun h=>bv_lt h⟩
theorem hold_bv {A:Option Addr} {n nt:Nat} {d:List Int} {w:World} (h:BV w A n d):Hold ⟨Tryz.prog,tab,[],w,nt,[]⟩ [] [bvO A n d] w :=
 Hold.addObj (Hold.nil _ tab [] _ w) (bvO A n d) h (by intro k; cases k) (by intro r hr; cases hr) (by intro A hA; cases hA)
theorem bv_rng {w:World} {g off n i:Nat} {zs:List Int} {v:Int} (h:BV w (some ⟨g,off,none⟩) n zs) (hi:i < n) (hv:zs.getD i 0=v):w.rangeAt g (off+i) [.int .u8 v]:=fun j u hj=>by
 obtain ⟨b,o,e,_,hc⟩:=h.addr (by omega)
 cases e
 cases j with
 | zero =>
  simp at hj
  subst hj
  rw [← hv]
  exact hc i hi
 | succ j=>simp at hj
theorem opcs {X:Cx} {s:St} {o:Oper} {K:St→Prop} {t d:TypeId} {x:Operand} {A:Option Addr} {n c:Nat} {zs:List Int} (ho:o.op=.convert t d x) (hx:evO x s.fr=some (.v (.slice A n c))) (hz:∀ w,Hold X s.m s.ob w→BV w A n zs) (h1:X.P.underlying t=some (.slice 5)) (h2:X.P.underlying 5=some (.int .u8)) (h3:X.P.underlying d=some .string) (h:put X.n o.dst (.v (.string (strOfNums zs))) s K):OpVC X o s K :=
 opq (.v (.string (strOfNums zs))) (fun a w hf hH=>exec_str t 5 d x (hz w hH) ho (by rw [(evO_of hf hx).2]; rfl) h1 h2 h3) h rfl
def n64 (i:Int):Prop := -9223372036854775808≤i∧i≤9223372036854775807
section
variable {X:Cx} {m:List Row} {ob:List Asr} {w w':World} {s:St} {o:Oper} {K:St→Prop}
theorem opsa {t t2:TypeId} {x y:Operand} {xs ys:List UInt8} (ho:o.op=.binOp .add t x y t2) (hx:evO x s.fr=some (.v (.string ⟨xs.toArray⟩))) (hy:evO y s.fr=some (.v (.string ⟨ys.toArray⟩))) (h1:(xs.length:Int)≤8388608) (h2:(ys.length:Int)≤8388608) (h:put X.n o.dst (.v (.string ⟨(xs++ys).toArray⟩)) s K):OpVC X o s K :=
 opq (.v (.string ⟨(xs++ys).toArray⟩)) (fun a w hf _=>by
  have e1:=(evO_of hf hx).2
  have e2:=(evO_of hf hy).2
  unfold execOp
  simp only [ho,e1,e2,den]
  simp [eqGuard,binOp,run_string_add_lists (P:=X.P) w xs ys h1 h2,Result.andThen]) h rfl
end
end Gw
namespace Gw
open Go.RowKit Ba Mem En Go.Proofs.YtnoehplnmdajnaaGreatDoor.Ty
open Byt (BV isB)
open Co (Hold.ob)
set_option maxRecDepth 100000
def restD (u:Nat):List UInt8:=if u=0 then [] else Lib.decDigits u
theorem rest_step {u:Nat} (h:0 < u):restD u=restD (u / 10)++[UInt8.ofNat (48+u % 10)]:=by
 unfold restD
 rw [if_neg (by omega)]
 by_cases h1:u < 10
 ·rw [Lib.decDigits_one h1,if_pos (by omega),show u % 10=u by omega]; rfl
 ·rw [if_neg (by omega),Lib.decDigits,dif_neg h1]
theorem dec_rest {u:Nat} (h:0 < u):Lib.decDigits u=restD u:=by unfold restD; rw [if_neg (by omega)]
theorem itoa_0:Lib.itoa 0=[48]:=by unfold Lib.itoa; rw [if_neg (by decide)]; exact Lib.decDigits_one (by decide)
theorem itoa_p {n:Int} (h:0 < n):Lib.itoa n=restD n.toNat:=by unfold Lib.itoa; rw [if_neg (by omega),dec_rest (by omega)]
theorem itoa_n {n:Int} (h:n < 0):Lib.itoa n=45::restD n.natAbs:=by unfold Lib.itoa; rw [if_pos h,dec_rest (by omega)]
theorem one_str (k:Nat) (h:k < 256):strOfNums [(k:Int)]=⟨[UInt8.ofNat k].toArray⟩:=by
 unfold strOfNums
 simp
theorem rest_len {v u:Nat} {tl:List UInt8} (h:restD v++tl=restD u) (hu:(restD u).length≤21):tl.length≤21:=by
 have:=congrArg List.length h
 rw [List.length_append] at this
 omega
section
variable {v:Nat}
theorem tm_p:IntKind.i64.wrap (48+(v:Int).tmod 10)=((48+v % 10:Nat):Int):=by
 have e:(v:Int).tmod 10=((v % 10:Nat):Int):=rfl
 rw [e,show (48:Int)+((v % 10:Nat):Int)=((48+v % 10:Nat):Int) by omega]; exact wr64 _ (by omega) (by omega)
theorem td_p (h:v≤9223372036854775807):IntKind.i64.wrap ((v:Int).tdiv 10)=((v / 10:Nat):Int):=by
 have e:(v:Int).tdiv 10=((v / 10:Nat):Int):=rfl
 rw [e]; exact wr64 _ (by omega) (by omega)
theorem tm_n:IntKind.i64.wrap (48 - (-(v:Int)).tmod 10)=((48+v % 10:Nat):Int):=by
 have e:(-(v:Int)).tmod 10 = -((v % 10:Nat):Int):=by rw [Int.neg_tmod]; rfl
 rw [e,show (48:Int) - -((v % 10:Nat):Int)=((48+v % 10:Nat):Int) by omega]; exact wr64 _ (by omega) (by omega)
theorem td_n (h:v≤9223372036854775808):IntKind.i64.wrap ((-(v:Int)).tdiv 10) = -((v / 10:Nat):Int):=by
 have e:(-(v:Int)).tdiv 10 = -((v / 10:Nat):Int):=by rw [Int.neg_tdiv]; rfl
 rw [e]; exact wr64 _ (by omega) (by omega)
theorem dg_p:IntKind.u8.wrap ((48+v % 10:Nat):Int)=((48+v % 10:Nat):Int):=by rw [u8_wrap]; omega
theorem dg_b:∀ z∈[((48+v % 10:Nat):Int)],isB z:=fun z hz=>by rw [List.mem_singleton.1 hz]; unfold isB; omega
end
theorem opcv {X:Cx} {s:St} {o:Oper} {K:St→Prop} {t d:TypeId} {x:Operand} {A:Option Addr} {n c:Nat} {zs:List Int} (bs:List UInt8) (ho:o.op=.convert t d x) (hx:evO x s.fr=some (.v (.slice A n c))) (hz:∀ w,Hold X s.m s.ob w→BV w A n zs) (h1:X.P.underlying t=some (.slice 5)) (h2:X.P.underlying 5=some (.int .u8)) (h3:X.P.underlying d=some .string) (hs:strOfNums zs=⟨bs.toArray⟩) (h:put X.n o.dst (.v (.string ⟨bs.toArray⟩)) s K):OpVC X o s K :=
 opcs (zs:=zs) ho hx hz h1 h2 h3 (by rw [hs]; exact h)
attribute [local irreducible] Go.Calls restD
theorem decZ (w:World):Calls Tryz.prog 9 #[.int .i64 0] w fun e w'=>e=.returned (.string ⟨#[48]⟩)∧Since w w':=by
 refine ent tab_ok [.i .i64 0] Tryz.func9 Tryz.ntmps9 rfl rfl ?_
 repeat' ((conv=>whnf); first | refine sgo ⟨tab_ok⟩ ?_|refine br_not ?_|refine br_t rfl ?_|refine br_f rfl ?_|refine br_t (by assumption) ?_|refine br_f (by assumption) ?_|refine br_t (decide_eq_true (by assumption)) ?_|refine br_f (decide_eq_false (by assumption)) ?_|refine br_t (beq_iff_eq.2 (by assumption)) ?_|refine br_f (beq_eq_false_iff_ne.2 (by assumption)) ?_|intro b | refine drA ⟨tab_ok⟩ [] ?_|refine kpt ?_|refine br_t (decide_eq_true (by omega)) ?_|refine br_f (decide_eq_false (by omega)) ?_|refine fin_s ?_|refine fin_r ?_ ?_|refine fin_e ?_ ?_)
 all_goals rfl
set_option maxHeartbeats 4000000 in
theorem decP (u:Nat) (h0:0 < u) (h1:u≤9223372036854775807) (hl:(restD u).length≤21) (w:World):Calls Tryz.prog 9 #[.int .i64 (u:Int)] w fun e w'=>e=.returned (.string ⟨(restD u).toArray⟩)∧Since w w':=by
 have hne:((u:Int) == 0)=false:=beq_eq_false_iff_ne.2 (by omega)
 refine ent tab_ok [.i .i64 (u:Int)] Tryz.func9 Tryz.ntmps9 rfl rfl ?_
 repeat' ((conv=>whnf); first | refine sgo ⟨tab_ok⟩ ?_|refine br_not ?_|refine br_t rfl ?_|refine br_f rfl ?_|refine br_t (by assumption) ?_|refine br_f (by assumption) ?_|refine br_t (decide_eq_true (by assumption)) ?_|refine br_f (decide_eq_false (by assumption)) ?_|refine br_t (beq_iff_eq.2 (by assumption)) ?_|refine br_f (beq_eq_false_iff_ne.2 (by assumption)) ?_|intro b | refine drA ⟨tab_ok⟩ [] ?_|refine kpt ?_|refine br_t (decide_eq_true (by omega)) ?_|refine br_f (decide_eq_false (by omega)) ?_|refine br_f hne ?_|refine fin_s ?_|refine fin_r ?_ ?_|refine fin_e ?_ ?_)
 conv=>whnf
 refine lp ⟨tab_ok⟩ (ι:={x:Nat×List UInt8 // restD x.1++x.2=restD u∧x.1≤u}) (fun x=>match x with | ⟨(v,tl),_⟩=>⟨[(0,.i .i64 (v:Int)),(3,.v (.string ⟨tl.toArray⟩))],[],[]⟩) (fun x=>x.1.1) ⟨(u,[]),by simp,Nat.le_refl _⟩ (wk ?_) ?_
 ·repeat' (first | exact trivial | rfl | ((conv=>whnf); refine And.intro ?_ ?_))
 rintro ⟨⟨v,tl⟩,he,hv⟩
 have he:restD v++tl=restD u:=he
 have hv:v≤u:=hv
 have htl:=rest_len he hl
 by_cases hz:v=0
 ·subst hz
  have e0:tl=restD u:=by
   rw [← he]
   unfold restD
   rw [if_pos rfl]; rfl
  repeat' ((conv=>whnf); first | refine sgo ⟨tab_ok⟩ ?_|refine br_not ?_|refine br_t rfl ?_|refine br_f rfl ?_|refine br_t (by assumption) ?_|refine br_f (by assumption) ?_|refine br_t (decide_eq_true (by assumption)) ?_|refine br_f (decide_eq_false (by assumption)) ?_|refine br_t (beq_iff_eq.2 (by assumption)) ?_|refine br_f (beq_eq_false_iff_ne.2 (by assumption)) ?_|intro b | refine drA ⟨tab_ok⟩ [] ?_|refine kpt ?_|refine br_t (decide_eq_true (by omega)) ?_|refine br_f (decide_eq_false (by omega)) ?_|refine fin_s ?_|refine fin_r ?_ ?_|refine fin_e ?_ ?_)
  all_goals (rw [e0]; rfl)
 ·have he2:restD (v / 10)++([UInt8.ofNat (48+v % 10)]++tl)=restD u:=by rw [← he,rest_step (u:=v) (by omega),List.append_assoc]
  repeat' ((conv=>whnf); first | refine sgo ⟨tab_ok⟩ ?_|refine br_not ?_|refine br_t rfl ?_|refine br_f rfl ?_|refine br_t (by assumption) ?_|refine br_f (by assumption) ?_|refine br_t (decide_eq_true (by assumption)) ?_|refine br_f (decide_eq_false (by assumption)) ?_|refine br_t (beq_iff_eq.2 (by assumption)) ?_|refine br_f (beq_eq_false_iff_ne.2 (by assumption)) ?_|intro b | refine drA ⟨tab_ok⟩ [] ?_|refine kpt ?_|refine br_t (decide_eq_true (by omega)) ?_|refine br_f (decide_eq_false (by omega)) ?_|refine cd (by first | decide | omega) ?_|refine wr (tm_p (v:=v)) ?_|refine wr (td_p (v:=v) (by omega)) ?_|refine wr (dg_p (v:=v)) ?_|refine wr_i ?_|refine opbo ⟨tab_ok⟩ byteE [((48+v % 10:Nat):Int)] [_] [.i .u8 ((48+v % 10:Nat):Int)] (by rfl) (by rfl) (by rfl) rfl rfl (fun g0=>?_)|refine opcv (A:=some ⟨g0,0,none⟩) (n:=1) (zs:=[((48+v % 10:Nat):Int)]) [UInt8.ofNat (48+v % 10)] (by rfl) (by rfl) (fun w1 hH=>Byt.BV.of_own (byte_own.1 (Hold.ob hH (A:=rwO byteE w.heap.size (some ⟨g0,0,none⟩) 1 1 [((48+v % 10:Nat):Int)] true) 0 rfl)) dg_b) (Tryz.underlying38) (Tryz.underlying5) (Tryz.underlying9) (one_str _ (by omega)) ?_|refine opsa (xs:=[UInt8.ofNat (48+v % 10)]) (ys:=tl) (by rfl) (by rfl) (by rfl) (by show (1:Int)≤_; omega) (by omega) ?_|refine En.back ⟨(v / 10,[UInt8.ofNat (48+v % 10)]++tl),he2,by show v / 10≤u; omega⟩ (wkd ?_) ?_|refine fin_s ?_|refine fin_r ?_ ?_|refine fin_e ?_ ?_)
  all_goals first | (show v / 10 < v; omega)|skip
  all_goals (repeat' (first | exact trivial | rfl | ((conv=>whnf); refine And.intro ?_ ?_)))
set_option maxHeartbeats 4000000 in
theorem decN (u:Nat) (h0:0 < u) (h1:u≤9223372036854775808) (hl:(restD u).length≤21) (w:World):Calls Tryz.prog 9 #[.int .i64 (-(u:Int))] w fun e w'=>e=.returned (.string ⟨(45::restD u).toArray⟩)∧Since w w':=by
 have hne:((-(u:Int)) == 0)=false:=beq_eq_false_iff_ne.2 (by omega)
 obtain ⟨v,hvu⟩:∃ v,v=u:=⟨_,rfl⟩
 subst hvu
 have he0:restD (v / 10)++([UInt8.ofNat (48+v % 10)]++[])=restD v:=by rw [rest_step (u:=v) (by omega)]; simp
 refine ent tab_ok [.i .i64 (-(v:Int))] Tryz.func9 Tryz.ntmps9 rfl rfl ?_
 repeat' ((conv=>whnf); first | refine sgo ⟨tab_ok⟩ ?_|refine br_not ?_|refine br_t rfl ?_|refine br_f rfl ?_|refine br_t (by assumption) ?_|refine br_f (by assumption) ?_|refine br_t (decide_eq_true (by assumption)) ?_|refine br_f (decide_eq_false (by assumption)) ?_|refine br_t (beq_iff_eq.2 (by assumption)) ?_|refine br_f (beq_eq_false_iff_ne.2 (by assumption)) ?_|intro b | refine drA ⟨tab_ok⟩ [] ?_|refine kpt ?_|refine br_t (decide_eq_true (by omega)) ?_|refine br_f (decide_eq_false (by omega)) ?_|refine cd (by first | decide | omega) ?_|refine br_f hne ?_|refine wr (tm_n (v:=v)) ?_|refine wr (td_n (v:=v) (by omega)) ?_|refine wr (dg_p (v:=v)) ?_|refine wr_i ?_|refine opbo ⟨tab_ok⟩ byteE [((48+v % 10:Nat):Int)] [_] [.i .u8 ((48+v % 10:Nat):Int)] (by rfl) (by rfl) (by rfl) rfl rfl (fun g0=>?_)|refine opcv (A:=some ⟨g0,0,none⟩) (n:=1) (zs:=[((48+v % 10:Nat):Int)]) [UInt8.ofNat (48+v % 10)] (by rfl) (by rfl) (fun w1 hH=>Byt.BV.of_own (byte_own.1 (Hold.ob hH (A:=rwO byteE w.heap.size (some ⟨g0,0,none⟩) 1 1 [((48+v % 10:Nat):Int)] true) 0 rfl)) dg_b) (Tryz.underlying38) (Tryz.underlying5) (Tryz.underlying9) (one_str _ (by omega)) ?_|refine fin_s ?_|refine fin_r ?_ ?_|refine fin_e ?_ ?_)
 conv=>whnf
 refine lp ⟨tab_ok⟩ (ι:={x:Nat×List UInt8 // restD x.1++x.2=restD v∧x.1≤v}) (fun x=>match x with | ⟨(y,tl),_⟩=>⟨[(0,.i .i64 (-(y:Int))),(3,.v (.string ⟨tl.toArray⟩))],[],[]⟩) (fun x=>x.1.1) ⟨(v / 10,[UInt8.ofNat (48+v % 10)]++[]),he0,by show v / 10≤v; omega⟩ (wkd ?_) ?_
 ·repeat' (first | exact trivial | rfl | ((conv=>whnf); refine And.intro ?_ ?_))
 rintro ⟨⟨y,tl⟩,he,hv⟩
 have he:restD y++tl=restD v:=he
 have hv:y≤v:=hv
 have htl:=rest_len he hl
 by_cases hz:y=0
 ·subst hz
  have e0:tl=restD v:=by
   rw [← he]
   unfold restD
   rw [if_pos rfl]; rfl
  repeat' ((conv=>whnf); first | refine sgo ⟨tab_ok⟩ ?_|refine br_not ?_|refine br_t rfl ?_|refine br_f rfl ?_|refine br_t (by assumption) ?_|refine br_f (by assumption) ?_|refine br_t (decide_eq_true (by assumption)) ?_|refine br_f (decide_eq_false (by assumption)) ?_|refine br_t (beq_iff_eq.2 (by assumption)) ?_|refine br_f (beq_eq_false_iff_ne.2 (by assumption)) ?_|intro b | refine drA ⟨tab_ok⟩ [] ?_|refine kpt ?_|refine br_t (decide_eq_true (by omega)) ?_|refine br_f (decide_eq_false (by omega)) ?_|refine opsa (xs:=[45]) (ys:=tl) (by rfl) (by rfl) (by rfl) (by decide) (by omega) ?_|refine fin_s ?_|refine fin_r ?_ ?_|refine fin_e ?_ ?_)
  all_goals (rw [e0]; rfl)
 ·have he2:restD (y / 10)++([UInt8.ofNat (48+y % 10)]++tl)=restD v:=by rw [← he,rest_step (u:=y) (by omega),List.append_assoc]
  repeat' ((conv=>whnf); first | refine sgo ⟨tab_ok⟩ ?_|refine br_not ?_|refine br_t rfl ?_|refine br_f rfl ?_|refine br_t (by assumption) ?_|refine br_f (by assumption) ?_|refine br_t (decide_eq_true (by assumption)) ?_|refine br_f (decide_eq_false (by assumption)) ?_|refine br_t (beq_iff_eq.2 (by assumption)) ?_|refine br_f (beq_eq_false_iff_ne.2 (by assumption)) ?_|intro b | refine drA ⟨tab_ok⟩ [] ?_|refine kpt ?_|refine br_t (decide_eq_true (by omega)) ?_|refine br_f (decide_eq_false (by omega)) ?_|refine cd (by first | decide | omega) ?_|refine wr (tm_n (v:=y)) ?_|refine wr (td_n (v:=y) (by omega)) ?_|refine wr (dg_p (v:=y)) ?_|refine wr_i ?_|refine opbo ⟨tab_ok⟩ byteE [((48+y % 10:Nat):Int)] [_] [.i .u8 ((48+y % 10:Nat):Int)] (by rfl) (by rfl) (by rfl) rfl rfl (fun g0=>?_)|refine opcv (A:=some ⟨g0,0,none⟩) (n:=1) (zs:=[((48+y % 10:Nat):Int)]) [UInt8.ofNat (48+y % 10)] (by rfl) (by rfl) (fun w1 hH=>Byt.BV.of_own (byte_own.1 (Hold.ob hH (A:=rwO byteE w.heap.size (some ⟨g0,0,none⟩) 1 1 [((48+y % 10:Nat):Int)] true) 0 rfl)) dg_b) (Tryz.underlying38) (Tryz.underlying5) (Tryz.underlying9) (one_str _ (by omega)) ?_|refine opsa (xs:=[UInt8.ofNat (48+y % 10)]) (ys:=tl) (by rfl) (by rfl) (by rfl) (by show (1:Int)≤_; omega) (by omega) ?_|refine En.back ⟨(y / 10,[UInt8.ofNat (48+y % 10)]++tl),he2,by show y / 10≤v; omega⟩ (wkd ?_) ?_|refine fin_s ?_|refine fin_r ?_ ?_|refine fin_e ?_ ?_)
  all_goals first | (show y / 10 < y; omega)|skip
  all_goals (repeat' (first | exact trivial | rfl | ((conv=>whnf); refine And.intro ?_ ?_)))
theorem decT (n:Int) (h:n64 n) (w:World):Calls Tryz.prog 9 #[.int .i64 n] w fun e w'=>e=.returned (.string ⟨(Lib.itoa n).toArray⟩)∧Since w w':=by
 unfold n64 at h
 have hl:=Lib.itoa_length_le n h.1 h.2
 rcases Int.lt_trichotomy n 0 with h0 | h0 | h0
 ·have e:n = -((n.natAbs:Nat):Int):=by omega
  rw [itoa_n h0] at hl ⊢
  have:=decN n.natAbs (by omega) (by omega) (by simp only [List.length_cons] at hl; omega) w
  rw [← e] at this
  exact this
 ·subst h0
  rw [itoa_0]
  exact decZ w
 ·have e:n=((n.toNat:Nat):Int):=by omega
  rw [itoa_p h0] at hl ⊢
  have:=decP n.toNat (by omega) (by omega) hl w
  rw [← e] at this
  exact this
end Gw
namespace En
open Go.RowKit Ba Mem
structure QuVC (X:Cx) (o:Oper) (s:St) (K:SV→Prop):Prop where
 out:∃ v,okV s.m.length v=true∧(∀ a:Act,FrOk s.m a.tmps s.fr→∀ w,Hold X s.m s.ob w→(execOp a.eval o).run X.P w=.ok (.value (den s.m v)) w)∧K v
def exQ (X:Cx) (ops:List Oper):Pl→St→(St→Prop)→Prop
 | .done,s,K=>K s
 | .tk i r,s,K=>match ops[i]? with
  | none=>False
  | some o=>wantK ops o.guard s.fr
    (pe X.tab o.op s.fr (fun v=>put X.n o.dst v s fun s=>exQ X ops r s K) (QuVC X o s fun v=>put X.n o.dst v s fun s=>exQ X ops r s K))
    (put X.n o.dst (.v undef) s fun s=>exQ X ops r s K)
 | _,_,_=>False
section
variable {X:Cx} {s:St} {o:Oper}
theorem quP {K:SV→Prop} (h:PuVC X o s K):QuVC X o s K :=
 have ⟨v,h1,h2,h3⟩:=h.out
 ⟨⟨v,h1,fun a hf w _=>h2 a hf w,h3⟩⟩
theorem exQ_of {K:St→Prop} (hX:X.Ok) {ops:Array Oper} {m0:List Row} {ob0:List Asr} {Q:Exit→Act→World→Prop} (hs:Region.noSelect ops=true) (hQ:∀ a w s,Rel X s a w→K s→Q .normal a w) (hP:∀ c a w,¬ Q (.panic c) a w) :
  ∀ {pl:Pl} {n:Nat} {L:Array Bool} {s:St} {a:Act} {w:World},chk ops n L pl=true→Clo ops L→Rel X s a w→s.m=m0→s.ob=ob0→exQ X ops.toList pl s K→AnyL X.P ops Q (fun _ w=>Hold X m0 ob0 w) n L a w
 | .done,n,L,s,a,w,hc,hcl,hR,hm,hb,h=>by
  cases n with
  | zero=>simp only [chk] at hc; exact ⟨eq_of_beq hc,hQ a w s hR h⟩
  | succ n=>simp only [chk] at hc; exact ⟨fun _=>hQ a w s hR h,by rw [eq_of_beq hc]; simp⟩
 | .tk i r,0,L,s,a,w,hc,_,_,_,_,h=>by simp [chk] at hc
 | .ef i r,n,L,s,a,w,_,_,_,_,_,h=>h.elim
 | .fk i j r q,n,L,s,a,w,_,_,_,_,_,h=>h.elim
 | .f3 i j k r q t,n,L,s,a,w,_,_,_,_,_,h=>h.elim
 | .tk i r,n+1,L,s,a,w,hc,hcl,hR,hm,hb,h=>by
  simp only [chk,Bool.and_eq_true] at hc
  obtain ⟨⟨c1,c2⟩,c3⟩:=hc
  have c2:i∈Region.ready .any ops L:=by simpa using c2
  unfold exQ at h
  have hidx:ops.toList[i]?=ops[i]?:=by simp
  rw [hidx] at h
  cases ho:ops[i]? with
  | none=>rw [ho] at h; exact h.elim
  | some o =>
   simp only [ho] at h
   subst hm hb
   have fin:∀ (v:SV),okV s.m.length v=true→YieldsIf X.P ops (fun w=>Hold X s.m s.ob w) o (den s.m v) a→(put X.n o.dst v s fun s=>exQ X ops.toList r s K)→AnyL X.P ops Q (fun _ w=>Hold X s.m s.ob w) (n+1) L a w:=fun v hv hy h=>by
    obtain ⟨s',r1,r2,r3,r4⟩:=put_of hR.ds hR.sz hR.fr hR.h hv h
    have hn:=exQ_of hX hs hQ hP c3 (hcl.set c2) r1 r2 r3 r4
    exact AnyL.first (P:=X.P) (S:=fun _ w=>Hold X s.m s.ob w) (T:=fun w=>Hold X s.m s.ob w) ho hs hP (fun L w _ _ h=>h) (fun L w h=>h) (fun L w h=>h) hcl c1 c2 hy hR.h hn
   rcases want_of hR.fr h with ⟨hw,h⟩ | ⟨hw,h⟩
   ·rcases pe_of (o:=o) (a:=a) (m:=s.m) hX.tab hR.fr rfl h with h | ⟨v,h1,h2,h3⟩
    ·obtain ⟨v,h1,h2,h3⟩:=h.out
     exact fin v h1 (.inl ⟨hw,fun w' hH=>h2 a hR.fr w' hH⟩) h3
    ·exact fin v h1 (.inl ⟨hw,fun w' _=>h2 w'⟩) h3
   ·exact fin (.v undef) rfl (.inr ⟨hw,rfl⟩) h
theorem quxc {K:SV→Prop} {t:TypeId} {x:Operand} {g off:Nat} {ad:Addr} (v:SV) (hr:∀ w,Hold X s.m s.ob w→w.rangeAt g off [den s.m v]) (hX:X.Ok) (ho:o.op=.load t x) (hx:evO x s.fr=some (.v (.pointer (some ad)))) (had:ad=⟨g,off,none⟩) (h:K v)
  (hn:(match tyO t X.tab with | some y=>!y.row | none=>false)=true:=by rfl) (hv:okV s.m.length v=true:=by rfl):QuVC X o s K:=by
 subst had
 refine ⟨⟨v,hv,fun a hf w hH=>?_,h⟩⟩
 cases hy:tyO t X.tab with
 | none=>simp [hy] at hn
 | some y =>
  simp only [hy,Bool.not_eq_true'] at hn
  obtain ⟨d,i,T⟩:=(hX.tab _ _ hy).out
  have he:=(evO_of hf hx).2
  have hc:w.cell? ⟨g,off,none⟩=some (den s.m v):=hr w hH 0 _ rfl
  have hrow:=T.row
  rw [hn] at hrow
  have hagg:(isAgg t).run X.P w=.ok false w:=by
   unfold isAgg
   rw [Sem.run_bind,run_underlying T.un w]
   cases d <;> simp_all [TypeDesc.isRow]
  unfold execOp
  simp only [ho,he,den,Instr.loadAt,Instr.sureAddr,Sem.run_bind,Sem.run_pure,Result.andThen_ok]
  simp [loadVar,Sem.run_bind,hagg,hc]
theorem drQ (hX:X.Ok) {id:Nat} {ops:Array Oper} {K:Exit→St→Prop}
  (h:exQ X ops.toList (planOf [] ops.toList) s (K .normal)) (hm:X.P.follows .mixedOrders=true:=by kernel_rfl)
  (hc:(Region.noSelect ops && chk ops ops.size (Array.replicate ops.size false) (planOf [] ops.toList))=true:=by kernel_rfl):Sm X (.region id ops true) s K:=by
 refine ⟨?_⟩
 intro a w hR
 simp only [Bool.and_eq_true] at hc
 have hR':Rel X s a w.drew:=⟨hR.ds,hR.sz,hR.fr,hR.h.drew⟩
 have hcl:Clo ops (Array.replicate ops.size false):=fun k o ho hk=>by
  have hlt:=(Array.getElem?_eq_some_iff.1 ho).1
  simp [hlt] at hk
 have hA:=exQ_of (K:=K .normal) (Q:=Qof X K) hX hc.1 (fun a w s hR h=>(⟨s,hR,h⟩:Qof X K .normal a w)) (fun c a w h=>h) hc.2 hcl hR' rfl rfl h
 exact wp_region_any hm hA.out
end
end En
namespace Sx
open Go.Lib (atoiAll parseUint10 parseMag itoa decDigits nDigits decDigits_one decDigits_length)
def dgs (acc:Nat):List UInt8→Option Nat
 | []=>some acc
 | c::r=>if 48≤c.toNat∧c.toNat≤57 then dgs (acc*10+(c.toNat - 48)) r else none
theorem dgs_ge:∀ (l:List UInt8) (acc u:Nat),dgs acc l=some u→acc≤u
 | [],acc,u,h=>by injection h with h; omega
 | c::r,acc,u,h=>by
  unfold dgs at h
  split at h
  ·have:=dgs_ge r _ u h; omega
  ·cases h
theorem dgs_app:∀ (l:List UInt8) (acc:Nat) (c:UInt8),dgs acc (l++[c])=(dgs acc l).bind fun u=>dgs u [c]
 | [],acc,c=>rfl
 | x::r,acc,c=>by
  show dgs acc (x::(r++[c]))=(dgs acc (x::r)).bind _
  unfold dgs
  split
  ·exact dgs_app r _ c
  ·rfl
theorem dgs_parse:∀ (l:List UInt8) (acc u:Nat),u < 18446744073709551616→dgs acc l=some u→parseUint10 acc l=.ok u
 | [],acc,u,_,h=>by injection h with h; subst h; rfl
 | c::r,acc,u,hu,h=>by
  unfold dgs at h
  split at h
  ·rename_i hc
   have h1:=dgs_ge r _ u h
   unfold parseUint10
   rw [if_pos hc,if_neg (by omega),if_neg (by omega)]
   exact dgs_parse r _ u hu h
  ·cases h
theorem of48 {d:Nat} (h:d < 10):(UInt8.ofNat (48+d)).toNat=48+d:=by
 rw [UInt8.toNat_ofNat']; omega
theorem dgs_dec (u:Nat):dgs 0 (decDigits u)=some u:=by
 induction u using Nat.strongRecOn with
 | _ u ih =>
  by_cases h:u < 10
  ·rw [decDigits_one h]
   unfold dgs
   rw [of48 h,if_pos (by omega)]
   unfold dgs
   congr 1; omega
  ·rw [decDigits,dif_neg h,dgs_app,ih (u / 10) (by omega)]
   show dgs (u / 10) [UInt8.ofNat (48+u % 10)]=_
   unfold dgs
   rw [of48 (Nat.mod_lt _ (by decide)),if_pos (by omega)]
   unfold dgs
   congr 1; omega
theorem dec_ne (u:Nat):decDigits u≠[]:=by
 intro h
 have h1:=decDigits_length u
 rw [h] at h1
 have:=Lib.nDigits_pos u
 simp at h1; omega
theorem dec_head (u:Nat) (h:0 < u):(decDigits u).head?≠some 48:=by
 induction u using Nat.strongRecOn with
 | _ u ih =>
  by_cases h1:u < 10
  ·rw [decDigits_one h1]
   intro e
   injection e with e
   have:=congrArg UInt8.toNat e
   rw [of48 h1] at this
   have h48:(48:UInt8).toNat=48:=rfl
   omega
  ·rw [decDigits,dif_neg h1,List.head?_append]
   have:=ih (u / 10) (by omega) (by omega)
   cases e:(decDigits (u / 10)).head? with
   | none=>rw [List.head?_eq_none_iff] at e; exact absurd e (dec_ne _)
   | some c=>rw [e] at this; exact this
theorem dec_of:∀ (n:Nat) (l:List UInt8) (u:Nat),l.length≤n→l≠[]→(l.head?=some 48→l=[48])→dgs 0 l=some u→decDigits u=l
 | 0,l,u,hn,h0,_,_=>absurd (List.length_eq_zero_iff.1 (by omega)) h0
 | n+1,l,u,hn,h0,h48,h=>by
  obtain ⟨r,c,rfl⟩:∃ r c,l=r++[c]:=⟨l.dropLast,l.getLast h0,(List.dropLast_concat_getLast h0).symm⟩
  rw [dgs_app] at h
  cases hr:dgs 0 r with
  | none=>rw [hr] at h; cases h
  | some v =>
   rw [hr] at h
   have h:dgs v [c]=some u:=h
   unfold dgs at h
   split at h
   ·rename_i hc
    have h:dgs (v*10+(c.toNat - 48)) []=some u:=h
    unfold dgs at h
    injection h with h
    have ec:UInt8.ofNat (48+(c.toNat - 48))=c:=by
     apply UInt8.toNat_inj.1
     rw [of48 (by omega)]; omega
    by_cases hr0:r=[]
    ·subst hr0
     injection hr with hr
     subst hr
     have hu:u < 10:=by omega
     rw [decDigits_one hu,show u=c.toNat - 48 by omega,ec]
     rfl
    ·have hh:r.head?=(r++[c]).head?:=by rw [List.head?_append]; cases e:r.head? with | none=>rw [List.head?_eq_none_iff] at e; exact absurd e hr0 | some x=>rfl
     have hz:r.head?≠some 48:=fun e=>by
      have:=h48 (by rw [← hh]; exact e)
      have:=congrArg List.length this
      simp at this
      exact hr0 this
     have hxd:=dec_of n r v (by simp at hn; omega) hr0 (fun e=>absurd e hz) hr
     have hv:0 < v:=by
      rcases Nat.eq_zero_or_pos v with rfl | h1
      ·rw [decDigits_one (by decide)] at hxd
       rw [← hxd] at hz
       exact absurd rfl hz
      ·exact h1
     rw [decDigits,dif_neg (by omega),show u / 10=v by omega,hxd,show u % 10=c.toNat - 48 by omega,ec]
   ·cases h
def numV (s:List UInt8):Option Int:=match atoiAll s with
 | .ok n=>if itoa n=s then some n else none
 | _=>none
def mostN (neg:Bool):Nat:=if neg=true then 9223372036854775808 else 9223372036854775807
def negB (s:List UInt8):Bool:=s.head? == some 45
def tailB (s:List UInt8):List UInt8:=if negB s=true then s.drop 1 else s
def numR (s:List UInt8):Option Int :=
 if tailB s=[]∨19 < (tailB s).length∨((tailB s).head?=some 48∧s≠[48]) then none
 else match dgs 0 (tailB s) with
  | none=>none
  | some u=>if mostN (negB s) < u then none else some (if negB s=true then -(u:Int) else (u:Int))
theorem dec_len {u:Nat} (h:u≤9223372036854775808):(decDigits u).length≤19:=by
 rw [decDigits_length]
 rcases Nat.lt_or_ge 19 (nDigits u) with h1 | h1
 ·exfalso
  have key:∀ (k u:Nat),10 ^ (k+1) > u→nDigits u≤k+1:=by
   intro k
   induction k with
   | zero=>intro u hu; rw [Lib.nDigits_small (by omega)]; omega
   | succ k ih =>
    intro u hu
    by_cases hs:u < 10
    ·rw [Lib.nDigits_small hs]; omega
    ·rw [Lib.nDigits_big hs]
     have:=ih (u / 10) (by rw [Nat.pow_succ] at hu; omega)
     omega
  have:=key 18 u (by omega)
  omega
 ·exact h1
theorem dec_not45 (u:Nat):(decDigits u).head?≠some 45:=by
 intro h
 have h1:=dgs_dec u
 cases e:decDigits u with
 | nil=>exact dec_ne u e
 | cons c r =>
  rw [e] at h h1
  injection h with h
  subst h
  unfold dgs at h1
  rw [if_neg (by decide)] at h1
  cases h1
theorem numR_itoa {n:Int} (h0 : -9223372036854775808≤n) (h1:n≤9223372036854775807):numR (itoa n)=some n:=by
 unfold itoa
 by_cases hn:n < 0
 ·rw [if_pos hn]
  have hb:negB (45::decDigits n.natAbs)=true:=rfl
  have ht:tailB (45::decDigits n.natAbs)=decDigits n.natAbs:=by unfold tailB; rw [if_pos hb]; rfl
  unfold numR
  rw [ht,hb,dgs_dec,if_neg]
  ·simp only [mostN,if_true]
   rw [if_neg (by omega)]
   congr 1; omega
  ·rintro (h | h | h)
   ·exact dec_ne _ h
   ·have:=dec_len (u:=n.natAbs) (by omega); omega
   ·exact dec_head n.natAbs (by omega) h.1
 ·rw [if_neg hn]
  have hb:negB (decDigits n.toNat)=false:=by
   unfold negB
   exact beq_eq_false_iff_ne.2 (dec_not45 _)
  have ht:tailB (decDigits n.toNat)=decDigits n.toNat:=by unfold tailB; rw [hb]; rfl
  unfold numR
  rw [ht,hb,dgs_dec,if_neg]
  ·simp only [mostN,Bool.false_eq_true,if_false]
   rw [if_neg (by omega)]
   congr 1; omega
  ·rintro (h | h | h)
   ·exact dec_ne _ h
   ·have:=dec_len (u:=n.toNat) (by omega); omega
   ·rcases Nat.eq_zero_or_pos n.toNat with h3 | h3
    ·exact h.2 (by rw [h3,decDigits_one (by decide)]; rfl)
    ·exact dec_head _ h3 h.1
theorem numR_is {s:List UInt8} {n:Int} (h:numR s=some n):s=itoa n ∧ -9223372036854775808≤n∧n≤9223372036854775807:=by
  unfold numR at h
  split at h
  · cases h
  rename_i hc
  have hc1:tailB s≠[]:=fun e=>hc (.inl e)
  have hc3:¬ ((tailB s).head?=some 48∧s≠[48]):=fun e=>hc (.inr (.inr e))
  cases hxd:dgs 0 (tailB s) with
  | none=>rw [hxd] at h; cases h
  | some u =>
    rw [hxd] at h
    simp only [] at h
    split at h
    · cases h
    rename_i hm
    injection h with h
    cases hb:negB s with
    | true =>
      have ht:tailB s=s.drop 1:=by unfold tailB; rw [if_pos hb]
      have hs:s=45::s.drop 1:=by
        unfold negB at hb
        cases s with
        | nil=>cases hb
        | cons c r => have : c = 45 := by simpa using hb
                      subst this; rfl
      have hdec:=dec_of _ (tailB s) u (Nat.le_refl _) hc1 (fun e=>absurd ⟨e,fun e2=>by rw [e2] at hb; cases hb⟩ hc3) hxd
      have hu:0 < u:=by
        rcases Nat.eq_zero_or_pos u with h3 | h3
        · rw [h3,decDigits_one (by decide)] at hdec
          exact absurd ⟨by rw [← hdec]; rfl,fun e2=>by rw [e2] at hb; cases hb⟩ hc3
        · exact h3
      rw [hb] at h hm
      simp only [if_true,mostN] at h hm
      refine ⟨?_,by omega,by omega⟩
      rw [← h,Lib.itoa_neg u (by omega),hdec,ht]; exact hs
    | false =>
      have ht:tailB s=s:=by unfold tailB; rw [hb]; rfl
      rw [ht] at hc1 hc3 hxd
      have hdec:=dec_of _ s u (Nat.le_refl _) hc1 (fun e=>Classical.byContradiction fun e2=>hc3 ⟨e,e2⟩) hxd
      rw [hb] at h hm
      simp only [Bool.false_eq_true,if_false,mostN] at h hm
      refine ⟨?_,by omega,by omega⟩
      rw [← h,Lib.itoa_nonneg u,hdec]
theorem atoi_itoa {n:Int} (h0 : -9223372036854775808≤n) (h1:n≤9223372036854775807):atoiAll (itoa n)=.ok n:=by
 unfold itoa
 by_cases hn:n < 0
 ·rw [if_pos hn]
  unfold atoiAll
  simp only []
  rw [if_pos (.inr (by decide))]
  unfold parseMag
  rw [if_neg (dec_ne _),dgs_parse _ 0 n.natAbs (by omega) (dgs_dec _)]
  simp only []
  rw [if_neg (fun h=>h.1 (by decide)),if_neg (fun h=>by omega),if_pos (by decide)]
  congr 1; omega
 ·rw [if_neg hn]
  cases e:decDigits n.toNat with
  | nil=>exact absurd e (dec_ne _)
  | cons c r =>
   have hxd:=dgs_dec n.toNat
   rw [e] at hxd
   have hc:48≤c.toNat∧c.toNat≤57:=by
    unfold dgs at hxd
    split at hxd
    ·assumption
    ·cases hxd
   unfold atoiAll
   simp only []
   rw [if_neg (by omega)]
   unfold parseMag
   rw [if_neg (by simp),dgs_parse _ 0 n.toNat (by omega) hxd]
   simp only []
   rw [if_neg (by omega),if_neg (by omega),if_neg (by omega)]
   congr 1; omega
theorem numV_itoa {n:Int} (h0 : -9223372036854775808≤n) (h1:n≤9223372036854775807):numV (itoa n)=some n:=by
 unfold numV; rw [atoi_itoa h0 h1]; simp
theorem atoi_bd {s:List UInt8} {n:Int} (h:atoiAll s=.ok n) : -9223372036854775808≤n∧n≤9223372036854775807:=by
 unfold atoiAll at h
 cases s with
 | nil=>cases h
 | cons c r =>
  simp only [] at h
  cases hp:parseMag (if c.toNat=43∨c.toNat=45 then r else c::r) with
  | ok u =>
   rw [hp] at h
   simp only [] at h
   split at h
   ·cases h
   ·split at h
    ·cases h
    ·rename_i h2 h3
     injection h with h
     by_cases h45:c.toNat=45
     ·rw [if_pos h45] at h; omega
     ·rw [if_neg h45] at h; omega
  | _ => rw [hp] at h; cases h
theorem num_same (s:List UInt8):numV s=numR s:=by
 cases h:numR s with
 | some n =>
  obtain ⟨h1,h2,h3⟩:=numR_is h
  rw [h1]; exact numV_itoa h2 h3
 | none =>
  unfold numV
  cases e:atoiAll s with
  | ok n =>
   simp only []
   by_cases hi:itoa n=s
   ·have:=numR_itoa (atoi_bd e).1 (atoi_bd e).2
    rw [hi,h] at this; cases this
   ·rw [if_neg hi]
  | _ => rfl
theorem itoa_chars (n:Int):∀ c∈itoa n,c=45∨(48≤c.toNat∧c.toNat≤57):=by
 have dd:∀ u:Nat,∀ c∈decDigits u,48≤c.toNat∧c.toNat≤57:=by
  intro u
  have key:∀ (l:List UInt8) (acc v:Nat),dgs acc l=some v→∀ c∈l,48≤c.toNat∧c.toNat≤57:=by
   intro l
   induction l with
   | nil=>intro _ _ _ c hc; cases hc
   | cons x r ih =>
    intro acc v h c hc
    unfold dgs at h
    split at h
    ·rename_i hx
     rcases List.mem_cons.1 hc with rfl | hc
     ·exact hx
     ·exact ih _ _ h c hc
    ·cases h
  exact key _ 0 u (dgs_dec u)
 unfold itoa
 split
 ·intro c hc
  rcases List.mem_cons.1 hc with rfl | hc
  ·exact .inl rfl
  ·exact .inr (dd _ c hc)
 ·intro c hc
  exact .inr (dd _ c hc)
end Sx
namespace Sx
open Go.Lib (itoa)
def spl:List UInt8→List (List UInt8)
 | []=>[[]]
 | c::r=>if c=32 then []::spl r else match spl r with
  | []=>[[c]]
  | w::ws=>(c::w)::ws
theorem spl_c (c:UInt8) (r:List UInt8):spl (c::r)=if c=32 then []::spl r else match spl r with
  | []=>[[c]]
  | w::ws=>(c::w)::ws:=rfl
theorem spl_blank (w r:List UInt8) (h:∀ c∈w,c≠32):spl (w++32::r)=w::spl r:=by
 induction w with
 | nil=>show spl (32::r)=_; rw [spl_c,if_pos rfl]
 | cons c w ih =>
  show spl (c::(w++32::r))=_
  rw [spl_c,if_neg (h c (List.mem_cons_self ..)),ih (fun c hc=>h c (List.mem_cons_of_mem _ hc))]
theorem spl_one (w:List UInt8) (h:∀ c∈w,c≠32):spl w=[w]:=by
 induction w with
 | nil=>rfl
 | cons c w ih =>
  rw [spl_c,if_neg (h c (List.mem_cons_self ..)),ih (fun c hc=>h c (List.mem_cons_of_mem _ hc))]
def hx (c:UInt8):Option Nat:=if 48≤c.toNat∧c.toNat≤57 then some (c.toNat - 48) else if 97≤c.toNat∧c.toNat≤102 then some (c.toNat - 87) else none
def hxd (d:Nat):UInt8:=if d < 10 then UInt8.ofNat (48+d) else UInt8.ofNat (87+d)
theorem hx_lt {c:UInt8} {d:Nat} (h:hx c=some d):d < 16:=by
 unfold hx at h
 split at h
 ·injection h with h; omega
 ·split at h
  ·injection h with h; omega
  ·cases h
theorem hx_hd:∀ d:Fin 16,hx (hxd d.val)=some d.val:=by decide
theorem hx_hd' {d:Nat} (h:d < 16):hx (hxd d)=some d:=hx_hd ⟨d,h⟩
theorem hd_no:∀ d:Fin 16,hxd d.val≠32∧hxd d.val≠10:=by decide
def hexL (bs:List Nat):List UInt8:=bs.flatMap fun b=>[hxd (b / 16),hxd (b % 16)]
def hexV:List UInt8→Option (List Nat)
 | []=>some []
 | [_]=>none
 | a::b::r=>match hx a,hx b with
  | some x,some y=>(hexV r).map fun l=>(x*16+y)::l
  | _,_=>none
theorem hexV_hexL:∀ (bs:List Nat),(∀ b∈bs,b < 256)→hexV (hexL bs)=some bs
 | [],_=>rfl
 | b::r,h=>by
  have hb:=h b (List.mem_cons_self ..)
  show hexV (hxd (b / 16)::hxd (b % 16)::hexL r)=_
  unfold hexV
  rw [hx_hd' (by omega),hx_hd' (Nat.mod_lt _ (by decide)),hexV_hexL r (fun b hb=>h b (List.mem_cons_of_mem _ hb))]
  simp only [Option.map_some]
  congr 2; omega
theorem hexL_no (bs:List Nat) (h:∀ b∈bs,b < 256):∀ c∈hexL bs,c≠32∧c≠10:=by
 intro c hc
 obtain ⟨b,hb,hc⟩:=List.mem_flatMap.1 hc
 have:=h b hb
 simp only [List.mem_cons,List.not_mem_nil,or_false] at hc
 rcases hc with rfl | rfl
 ·exact hd_no ⟨b / 16,by omega⟩
 ·exact hd_no ⟨b % 16,Nat.mod_lt _ (by decide)⟩
theorem hexL_len (bs:List Nat):(hexL bs).length=2*bs.length:=by
 unfold hexL
 induction bs with
 | nil=>rfl
 | cons b r ih=>rw [List.flatMap_cons,List.length_append,ih]; simp; omega
def datV (w:List UInt8):Option (List Nat):=match w with
 | []=>none
 | c::r=>if c=120 then hexV r else none
structure SP where
 k:Int
 a:Int
 b:Int
 d:List Nat
structure SPok (x:SP):Prop where
 k : -9223372036854775808≤x.k∧x.k≤9223372036854775807
 a : -9223372036854775808≤x.a∧x.a≤9223372036854775807
 b : -9223372036854775808≤x.b∧x.b≤9223372036854775807
 d:∀ z∈x.d,z < 256
def lineP (x:SP):List UInt8:=itoa x.k++32::(itoa x.a++32::(itoa x.b++32::120::hexL x.d))
def printP (l:List SP):List UInt8:=l.flatMap fun x=>lineP x++[10]
def lineW:List (List UInt8)→Option SP
 | [p,q,r,t]=>match numV p,numV q,numV r,datV t with
  | some k,some a,some b,some d=>some ⟨k,a,b,d⟩
  | _,_,_,_=>none
 | _=>none
theorem lineW_4 (p q r t:List UInt8):lineW [p,q,r,t]=match numV p,numV q,numV r,datV t with
  | some k,some a,some b,some d=>some ⟨k,a,b,d⟩
  | _,_,_,_=>none:=rfl
theorem datV_x (r:List UInt8):datV (120::r)=hexV r:=rfl
def lineV (s:List UInt8):Option SP:=lineW (spl s)
theorem itoa_no (n:Int):∀ c∈itoa n,c≠32∧c≠10:=by
 intro c hc
 rcases itoa_chars n c hc with rfl | h
 ·decide
 ·refine ⟨fun e=>?_,fun e=>?_⟩ <;> (subst e; revert h; decide)
theorem spl_line {x:SP} (h:SPok x):spl (lineP x)=[itoa x.k,itoa x.a,itoa x.b,120::hexL x.d]:=by
 unfold lineP
 rw [spl_blank _ _ (fun c hc=>(itoa_no _ c hc).1),spl_blank _ _ (fun c hc=>(itoa_no _ c hc).1),spl_blank _ _ (fun c hc=>(itoa_no _ c hc).1),spl_one]
 intro c hc
 rcases List.mem_cons.1 hc with rfl | hc
 ·decide
 ·exact (hexL_no _ h.d c hc).1
theorem line_line {x:SP} (h:SPok x):lineV (lineP x)=some x:=by
 unfold lineV
 rw [spl_line h]
 rw [lineW_4,numV_itoa h.k.1 h.k.2,numV_itoa h.a.1 h.a.2,numV_itoa h.b.1 h.b.2,datV_x,hexV_hexL _ h.d]
theorem line_no {x:SP} (h:SPok x):∀ c∈lineP x,c≠10:=by
 intro c hc
 unfold lineP at hc
 simp only [List.mem_append,List.mem_cons] at hc
 rcases hc with hc | rfl | hc | rfl | hc | rfl | rfl | hc
 ·exact (itoa_no _ c hc).2
 ·decide
 ·exact (itoa_no _ c hc).2
 ·decide
 ·exact (itoa_no _ c hc).2
 ·decide
 ·decide
 ·exact (hexL_no _ h.d c hc).2
def nl (s:List UInt8):Option Nat:=s.findIdx? (· == 10)
def rdT (n:Nat) (acc:List SP) (s:List UInt8):List SP×Nat :=
 if hs:s=[] then (acc,0) else match h:nl s with
 | none=>([],n+1)
 | some i=>match lineV (s.take i) with
  | none=>([],n+1)
  | some x=>rdT (n+1) (acc++[x]) (s.drop (i+1))
termination_by s.length
decreasing_by
 have hi:=(List.findIdx?_eq_some_iff_getElem.1 h).1
 rw [List.length_drop]; omega
theorem rdT_nil (n:Nat) (acc:List SP):rdT n acc []=(acc,0):=by rw [rdT,dif_pos rfl]
theorem rdT_none {n:Nat} {acc:List SP} {s:List UInt8} (hs:s≠[]) (h:nl s=none):rdT n acc s=([],n+1):=by
 rw [rdT,dif_neg hs]
 split
 ·rfl
 ·rename_i i hi; rw [h] at hi; cases hi
theorem rdT_bad {n i:Nat} {acc:List SP} {s:List UInt8} (h:nl s=some i) (hl:lineV (s.take i)=none):rdT n acc s=([],n+1):=by
 rw [rdT,dif_neg (fun e=>by rw [e] at h; cases h)]
 split
 ·rfl
 ·rename_i j hj
  rw [h] at hj; injection hj with hj; subst hj
  rw [hl]
theorem rdT_ok {n i:Nat} {acc:List SP} {s:List UInt8} {x:SP} (h:nl s=some i) (hl:lineV (s.take i)=some x):rdT n acc s=rdT (n+1) (acc++[x]) (s.drop (i+1)):=by
 rw [rdT,dif_neg (fun e=>by rw [e] at h; cases h)]
 split
 ·rename_i hj; rw [h] at hj; cases hj
 ·rename_i j hj
  rw [h] at hj; injection hj with hj; subst hj
  rw [hl]
theorem nl_at (l r:List UInt8) (h:∀ c∈l,c≠10):nl (l++10::r)=some l.length:=by
 refine List.findIdx?_eq_some_iff_getElem.2 ⟨by simp,by simp,fun j hj=>?_⟩
 rw [List.getElem_append_left hj]
 simpa using h _ (List.getElem_mem hj)
theorem nl_no (l:List UInt8) (h:∀ c∈l,c≠10):nl l=none :=
 List.findIdx?_eq_none_iff.2 fun c hc=>by simpa using h c hc
theorem rdT_line {n:Nat} {acc:List SP} {l r:List UInt8} (h:∀ c∈l,c≠10):rdT n acc (l++10::r)=match lineV l with
  | none=>([],n+1)
  | some x=>rdT (n+1) (acc++[x]) r:=by
 have h1:=nl_at l r h
 have h2:(l++10::r).take l.length=l:=List.take_left' rfl
 have h3:(l++10::r).drop (l.length+1)=r:=by rw [show l++10::r=(l++[10])++r by simp]; exact List.drop_left' (by simp)
 cases e:lineV l with
 | none=>exact rdT_bad h1 (by rw [h2]; exact e)
 | some x=>rw [rdT_ok h1 (x:=x) (by rw [h2]; exact e),h3]
theorem rdT_print:∀ (l:List SP) (n:Nat) (acc:List SP) (r:List UInt8),(∀ x∈l,SPok x)→rdT n acc (printP l++r)=rdT (n+l.length) (acc++l) r
 | [],n,acc,r,_=>by simp [printP]
 | x::l,n,acc,r,h=>by
  have hx:=h x (List.mem_cons_self ..)
  have e:printP (x::l)++r=lineP x++10::(printP l++r):=by simp [printP]
  rw [e,rdT_line (line_no hx),line_line hx]
  simp only []
  rw [rdT_print l (n+1) (acc++[x]) r (fun y hy=>h y (List.mem_cons_of_mem _ hy))]
  simp [Nat.add_assoc,Nat.add_comm 1]
def numsV:List (List UInt8)→Option (List Int)
 | []=>some []
 | w::r=>match numV w,numsV r with
  | some n,some l=>some (n::l)
  | _,_=>none
def setV (s:List UInt8):Option (List Int):=if s.getLast?=some 10 then (if (spl s.dropLast).length=18 then numsV (spl s.dropLast) else none) else none
def numsL:List Int→List UInt8
 | []=>[]
 | [n]=>itoa n
 | n::m::r=>itoa n++32::numsL (m::r)
def setL (l:List Int):List UInt8:=numsL l++[10]
theorem spl_nums:∀ (l:List Int),l≠[]→spl (numsL l)=l.map itoa
 | [],h=>absurd rfl h
 | [n],_=>spl_one _ (fun c hc=>(itoa_no _ c hc).1)
 | n::m::r,_=>by
  show spl (itoa n++32::numsL (m::r))=_
  rw [spl_blank _ _ (fun c hc=>(itoa_no _ c hc).1),spl_nums (m::r) (by simp)]
  rfl
theorem numsV_itoa:∀ (l:List Int),(∀ n∈l,-9223372036854775808≤n∧n≤9223372036854775807)→numsV (l.map itoa)=some l
 | [],_=>rfl
 | n::r,h=>by
  have hn:=h n (List.mem_cons_self ..)
  show numsV (itoa n::r.map itoa)=_
  unfold numsV
  rw [numV_itoa hn.1 hn.2,numsV_itoa r (fun m hm=>h m (List.mem_cons_of_mem _ hm))]
theorem set_setL {l:List Int} (h18:l.length=18) (h:∀ n∈l,-9223372036854775808≤n∧n≤9223372036854775807):setV (setL l)=some l:=by
 have hne:l≠[]:=fun e=>by rw [e] at h18; cases h18
 unfold setV setL
 rw [if_pos (by simp),List.dropLast_concat,spl_nums l hne,if_pos (by rw [List.length_map]; exact h18)]
 exact numsV_itoa l h
end Sx
namespace Sx
open Go.Lib (itoa index indexByte)
theorem ib_nl (c:UInt8):∀ s:List UInt8,indexByte s c=match s.findIdx? (· == c) with
    | none => -1
    | some i=>(i:Int)
  | []=>rfl
  | b::r=>by
    rw [indexByte,List.findIdx?_cons]
    by_cases h:(b == c)=true
    · rw [if_pos h,if_pos h]; rfl
    · rw [if_neg h,if_neg h,ib_nl c r]
      cases r.findIdx? (· == c) with
      | none=>rfl
      | some i =>
        show (if (i:Int) == -1 then (-1:Int) else (i:Int)+1)=((i+1:Nat):Int)
        rw [if_neg (by intro e; have:=eq_of_beq e; omega)]; omega
theorem ib_none {c:UInt8} {s:List UInt8} (h:s.findIdx? (· == c)=none):indexByte s c = -1:=by rw [ib_nl,h]
theorem ib_some {c:UInt8} {s:List UInt8} {i:Nat} (h:s.findIdx? (· == c)=some i):indexByte s c=(i:Int):=by rw [ib_nl,h]
theorem cut_at {c:UInt8} {s:List UInt8} {i:Nat} (h:s.findIdx? (· == c)=some i):i < s.length∧s=s.take i++c::s.drop (i+1)∧∀ x∈s.take i,x≠c:=by
  obtain ⟨h1,h2,h3⟩:=List.findIdx?_eq_some_iff_getElem.1 h
  refine ⟨h1, ?_, ?_⟩
  · have e:s[i]=c:=by simpa using h2
    rw [← e]
    conv=>lhs; rw [← List.take_append_drop i s]
    rw [List.drop_eq_getElem_cons h1]
  · intro x hx e
    obtain ⟨j,hj,hx⟩:=List.mem_iff_getElem.1 hx
    rw [List.length_take] at hj
    rw [List.getElem_take] at hx
    exact h3 j (by omega) (by rw [hx,e]; simp)
theorem split_spl:∀ (n:Nat) (s:List UInt8),s.length≤n→Lib.split s [32]=spl s∧Lib.count s [32]+1=(spl s).length
  | n,s,hn=>by
    unfold Lib.split
    cases h:s.findIdx? (· == (32:UInt8)) with
    | none =>
      have e:index s [32] = -1:=by rw [Lib.index_one,ib_none h]
      rw [Lib.count_miss e,spl_one s (fun c hc e=>by have:=List.findIdx?_eq_none_iff.1 h c hc; simp [e] at this)]
      exact ⟨rfl,rfl⟩
    | some i =>
      obtain ⟨h1,h2,h3⟩:=cut_at h
      have e:index s [32]=(i:Int):=by rw [Lib.index_one,ib_some h]
      obtain ⟨i1,i2⟩:=split_spl (n - 1) (s.drop (i+1)) (by rw [List.length_drop]; omega)
      have ec:Lib.count s [32]=Lib.count (s.drop (i+1)) [32]+1:=by rw [Lib.count_hit (by simp) e]; show 1+Lib.count (s.drop (i+1)) [32]=_; omega
      have es:spl s=s.take i::spl (s.drop (i+1)):=by conv=>lhs; rw [h2,spl_blank _ _ h3]
      rw [ec,es]
      refine ⟨?_,by rw [List.length_cons,← i2]⟩
      unfold Lib.splitK
      rw [e,if_neg (by intro e; have:=eq_of_beq e; omega)]
      show s.take (i+0)::Lib.splitK [32] 0 _ (s.drop (i+1))=_
      rw [← i1]; rfl
termination_by n s=>s.length
theorem sp32:(⟨#[32]⟩:ByteArray).data.toList=[32]:=rfl
theorem splitB_len (s:List UInt8):Lib.countB ⟨s.toArray⟩ ⟨#[32]⟩+1=(spl s).length:=by
 unfold Lib.countB
 rw [sp32]
 exact (split_spl _ s (Nat.le_refl _)).2
theorem of_data {l:List ByteArray} {m:List (List UInt8)} (h:l.map (·.data.toList)=m):l=m.map fun w=>⟨w.toArray⟩:=by
 subst h
 rw [List.map_map]
 conv=>lhs; rw [← List.map_id l]
 refine List.map_congr_left fun b _=>?_
 simp
theorem splitB_spl (s:List UInt8):Lib.splitB ⟨#[32]⟩ 0 (Lib.countB ⟨s.toArray⟩ ⟨#[32]⟩) ⟨s.toArray⟩=(spl s).map fun w=>⟨w.toArray⟩:=by
 refine of_data ?_
 rw [Lib.splitB_data]
 unfold Lib.countB
 rw [sp32]
 exact (split_spl _ s (Nat.le_refl _)).1
theorem spl_total (s:List UInt8):(spl s).length≤s.length+1:=by
 induction s with
 | nil=>simp [spl]
 | cons c r ih =>
  rw [spl_c]
  split
  ·simp; omega
  ·split
   ·simp
   ·rename_i h; rw [h] at ih; simp at ih ⊢; omega
end Sx
namespace Sx
open Go.Lib (itoa)
def prs:List Nat→List Nat
 | []=>[]
 | [a]=>[a]
 | a::b::r=>(a*16+b)::prs r
theorem prs_len:∀ ds:List Nat,(prs ds).length=(ds.length+1) / 2
 | []=>rfl
 | [a]=>by show 1=(0+1+1) / 2; omega
 | a::b::r=>by
  show (prs r).length+1=(r.length+2+1) / 2
  rw [prs_len r]; omega
def fillH (k:Nat) (ds:List Nat):List Int:=(prs ds).map Int.ofNat++List.replicate (k - (prs ds).length) 0
theorem fill_len {k:Nat} {ds:List Nat} (h:ds.length≤2*k):(fillH k ds).length=k:=by
 unfold fillH
 rw [List.length_append,List.length_map,List.length_replicate,prs_len]; omega
theorem fill_nil (k:Nat):fillH k []=List.replicate k 0:=rfl
theorem fill_two {k:Nat} {a b:Nat} {r:List Nat}:fillH (k+1) (a::b::r)=((a*16+b:Nat):Int)::fillH k r:=by
 unfold fillH
 show (((a*16+b)::prs r).map Int.ofNat)++List.replicate (k+1 - ((prs r).length+1)) 0=_
 rw [Nat.add_sub_add_right]; rfl
theorem fill_add:∀ (k:Nat) (ds:List Nat) (d:Nat),ds.length < 2*k→(fillH k ds).set (ds.length / 2) ((fillH k ds).getD (ds.length / 2) 0*16+(d:Int))=fillH k (ds++[d])
 | 0,ds,d,h=>by omega
 | k+1,[],d,h=>by
  show (0::List.replicate k 0).set 0 ((0:Int)*16+d)=((d:Int)::List.replicate k 0)
  simp
 | k+1,[a],d,h=>by
  have e1:fillH (k+1) [a]=(a:Int)::List.replicate k 0:=by unfold fillH prs; simp
  have e2:fillH (k+1) ([a]++[d])=((a*16+d:Nat):Int)::List.replicate k 0:=by
   show fillH (k+1) [a,d]=_
   rw [fill_two,fill_nil]
  rw [e1,e2]
  rw [show [a].length / 2=0 by simp]
  simp
 | k+1,a::b::r,d,h=>by
  have e:(a::b::r).length / 2=r.length / 2+1:=by simp only [List.length_cons]; omega
  show (fillH (k+1) (a::b::r)).set _ _=fillH (k+1) (a::b::(r++[d]))
  rw [fill_two,fill_two,e,← fill_add k r d (by simp only [List.length_cons] at h; omega)]
  rfl
def digs:List UInt8→Option (List Nat)
 | []=>some []
 | c::r=>match hx c with
  | none=>none
  | some d=>(digs r).map fun l=>d::l
theorem digs_c (c:UInt8) (r:List UInt8):digs (c::r)=match hx c with
  | none=>none
  | some d=>(digs r).map fun l=>d::l:=rfl
theorem hexV_digs:∀ s:List UInt8,hexV s=if s.length % 2=0 then (digs s).map prs else none
 | []=>rfl
 | [c]=>rfl
 | a::b::r=>by
  have e:(a::b::r).length % 2=r.length % 2:=by simp only [List.length_cons]; omega
  rw [e]
  unfold hexV
  rw [hexV_digs r,digs_c a,digs_c b]
  cases hx a with
  | none=>simp
  | some x =>
   cases hx b with
   | none=>simp
   | some y =>
    by_cases h:r.length % 2=0
    ·rw [if_pos h,if_pos h]
     cases digs r with
     | none=>rfl
     | some l=>rfl
    ·rw [if_neg h,if_neg h]; rfl
theorem digs_add:∀ {s:List UInt8} {l:List Nat} {c:UInt8},digs s=some l→digs (s++[c])=(hx c).map fun d=>l++[d]
 | [],l,c,h=>by
  injection h with h; subst h
  show digs [c]=_
  rw [digs_c]
  cases hx c <;> rfl
 | a::r,l,c,h=>by
  rw [digs_c] at h
  cases e:hx a with
  | none=>rw [e] at h; cases h
  | some d =>
   rw [e] at h
   simp only [] at h
   cases e2:digs r with
   | none=>rw [e2] at h; cases h
   | some l' =>
    rw [e2] at h
    injection h with h; subst h
    show digs (a::(r++[c]))=_
    conv=>lhs; unfold digs
    rw [e]
    simp only []
    rw [digs_add e2]
    cases hx c <;> rfl
theorem digs_bad:∀ {s r:List UInt8} {c:UInt8},hx c=none→digs (s++c::r)=none
 | [],r,c,h=>by
  show digs (c::r)=_
  rw [digs_c,h]
 | a::s,r,c,h=>by
  show digs (a::(s++c::r))=_
  rw [digs_c,digs_bad h]
  cases hx a <;> rfl
theorem digs_lt:∀ {s:List UInt8} {l:List Nat},digs s=some l→∀ d∈l,d < 16
 | [],l,h=>by injection h with h; subst h; intro d hxd; cases hxd
 | c::r,l,h=>by
  rw [digs_c] at h
  cases e:hx c with
  | none=>rw [e] at h; cases h
  | some d =>
   rw [e] at h
   simp only [] at h
   cases e2:digs r with
   | none=>rw [e2] at h; cases h
   | some l' =>
    rw [e2] at h
    injection h with h; subst h
    intro x hx'
    rcases List.mem_cons.1 hx' with rfl | hx'
    ·exact hx_lt e
    ·exact digs_lt e2 x hx'
theorem rdT_two (a b:List SP) (ha:∀ x∈a,SPok x) (hb:∀ x∈b,SPok x):rdT 0 [] (printP a++printP b)=(a++b,0):=by
 rw [rdT_print a 0 [] _ ha]
 have:=rdT_print b (0+a.length) ([]++a) [] hb
 rw [List.append_nil] at this
 rw [this,rdT_nil,List.nil_append]
theorem rdT_one (a:List SP) (ha:∀ x∈a,SPok x):rdT 0 [] (printP a)=(a,0):=by
 have:=rdT_two a [] ha (by intro x hx; cases hx)
 simpa [printP] using this
end Sx
namespace Sx
open Go.Lib (itoa decDigits)
end Sx
namespace Sx
open Go.Lib (itoa)
theorem drop_at {s:List UInt8} {i:Nat} {c:UInt8} (h:s[i]?=some c):s.drop i=c::s.drop (i+1):=by
 obtain ⟨hl,e⟩:=List.getElem?_eq_some_iff.1 h
 rw [List.drop_eq_getElem_cons hl,e]
theorem cut_mid {s:List UInt8} {a i:Nat} {c:UInt8} (ha:a≤i) (h:s[i]?=some c):s.drop a=(s.take i).drop a++c::s.drop (i+1):=by
 have h1:s.take i++s.drop i=s:=List.take_append_drop i s
 have hl:i < s.length:=(List.getElem?_eq_some_iff.1 h).1
 conv=>lhs; rw [← h1]
 rw [List.drop_append_of_le_length (by rw [List.length_take]; omega),drop_at h]
def NoB (b:UInt8) (s:List UInt8) (a i:Nat):Prop:=∀ c∈(s.take i).drop a,c≠b
theorem NoB.nil {b:UInt8} {s:List UInt8} {a:Nat}:NoB b s a a:=fun c hc=>by
 rw [List.drop_eq_nil_of_le (by rw [List.length_take]; omega)] at hc; cases hc
theorem NoB.next {b c:UInt8} {s:List UInt8} {a i:Nat} (h:NoB b s a i) (ha:a≤i) (hc:s[i]?=some c) (hb:c≠b):NoB b s a (i+1):=fun x hx=>by
 have hl:i < s.length:=(List.getElem?_eq_some_iff.1 hc).1
 rw [List.take_add_one,hc,List.drop_append_of_le_length (by rw [List.length_take]; omega)] at hx
 rcases List.mem_append.1 hx with hx | hx
 ·exact h x hx
 ·rw [List.mem_singleton.1 hx]; exact hb
theorem take_len (s:List UInt8):s.take s.length=s:=List.take_length
theorem cut_b {s:List UInt8} {a i:Nat} (ha:a≤i) (hn:NoB 32 s a i) (h:s[i]?=some 32):spl (s.drop a)=(s.take i).drop a::spl (s.drop (i+1)):=by
 rw [cut_mid ha h,spl_blank _ _ hn]
theorem cut_e {s:List UInt8} {a:Nat} (hn:NoB 32 s a s.length):spl (s.drop a)=[s.drop a]:=by
 unfold NoB at hn
 rw [take_len] at hn
 exact spl_one _ hn
theorem rd_bad {s:List UInt8} {a i n:Nat} {acc:List SP} (ha:a≤i) (hn:NoB 10 s a i) (h:s[i]?=some 10) (hl:lineV ((s.take i).drop a)=none):rdT n acc (s.drop a)=([],n+1):=by
 rw [cut_mid ha h,rdT_line hn,hl]
theorem rd_ok {s:List UInt8} {a i n:Nat} {acc:List SP} {x:SP} (ha:a≤i) (hn:NoB 10 s a i) (h:s[i]?=some 10) (hl:lineV ((s.take i).drop a)=some x):rdT n acc (s.drop a)=rdT (n+1) (acc++[x]) (s.drop (i+1)):=by
 rw [cut_mid ha h,rdT_line hn,hl]
theorem rd_left {s:List UInt8} {a n:Nat} {acc:List SP} (hn:NoB 10 s a s.length) (h:a < s.length):rdT n acc (s.drop a)=([],n+1):=by
 unfold NoB at hn
 rw [take_len] at hn
 exact rdT_none (fun e=>by have:=congrArg List.length e; rw [List.length_drop] at this; simp at this; omega) (nl_no _ hn)
theorem rd_all {s:List UInt8} {a n:Nat} {acc:List SP} (h:s.length≤a):rdT n acc (s.drop a)=(acc,0):=by
 rw [List.drop_eq_nil_of_le h,rdT_nil]
theorem dgs_step {s:List UInt8} {i n:Nat} {c:UInt8} (h:s[i]?=some c):dgs n (s.drop i)=if 48≤c.toNat∧c.toNat≤57 then dgs (n*10+(c.toNat - 48)) (s.drop (i+1)) else none:=by
 rw [drop_at h]; rfl
theorem dgs_end {s:List UInt8} {i n:Nat} (h:s.length≤i):dgs n (s.drop i)=some n:=by
 rw [List.drop_eq_nil_of_le h]; rfl
theorem pow_step {n k d:Nat} (h:n < 10 ^ k) (hxd:d≤9):n*10+d < 10 ^ (k+1):=by
 rw [Nat.pow_succ]; omega
def dig16:List UInt8:=[48,49,50,51,52,53,54,55,56,57,97,98,99,100,101,102]
theorem hx_at:∀ (k:Fin 16) (c:Fin 256),dig16[k.val]?=some (UInt8.ofNat c.val)→hx (UInt8.ofNat c.val)=some k.val:=by decide +kernel
theorem hx_at' {k:Nat} {c:UInt8} (h:dig16[k]?=some c):hx c=some k:=by
 have hk:k < 16:=(List.getElem?_eq_some_iff.1 h).1
 have hc:=c.toNat_lt
 have:=hx_at ⟨k,hk⟩ ⟨c.toNat,hc⟩
 simp only [UInt8.ofNat_toNat] at this
 exact this h
theorem hx_some {c:UInt8} {k:Nat} (h:hx c=some k):dig16[k]?=some c:=by
 have:=(by decide +kernel:∀ (c:Fin 256) (k:Fin 16),hx (UInt8.ofNat c.val)=some k.val→dig16[k.val]?=some (UInt8.ofNat c.val)) ⟨c.toNat,c.toNat_lt⟩ ⟨k,hx_lt h⟩
 simp only [UInt8.ofNat_toNat] at this
 exact this h
theorem hx_none {c:UInt8} (h:∀ k,k < 16→dig16[k]?≠some c):hx c=none:=by
 cases e:hx c with
 | none=>rfl
 | some k=>exact absurd (hx_some e) (h k (hx_lt e))
theorem hd_dig:∀ k:Fin 16,dig16[k.val]?=some (hxd k.val):=by decide
theorem hd_dig' {k:Nat} (h:k < 16):dig16[k]?=some (hxd k):=hd_dig ⟨k,h⟩
theorem hexV_two (a b:UInt8) (r:List UInt8):hexV (a::b::r)=match hx a,hx b with
  | some x,some y=>(hexV r).map fun l=>(x*16+y)::l
  | _,_=>none:=rfl
theorem hex_step {s:List UInt8} {i x y:Nat} {a b:UInt8} (ha:s[i]?=some a) (hb:s[i+1]?=some b) (hx1:hx a=some x) (hy1:hx b=some y):hexV (s.drop i)=(hexV (s.drop (i+2))).map fun l=>(x*16+y)::l:=by
 rw [drop_at ha,drop_at hb,hexV_two,hx1,hy1]
theorem hex_bad {s:List UInt8} {i:Nat} {a b:UInt8} (ha:s[i]?=some a) (hb:s[i+1]?=some b) (h:hx a=none∨hx b=none):hexV (s.drop i)=none:=by
 rw [drop_at ha,drop_at hb,hexV_two]
 rcases h with h | h
 ·rw [h]
 ·rw [h]; cases hx a <;> rfl
theorem hex_end {s:List UInt8} {i:Nat} (h:s.length≤i):hexV (s.drop i)=some []:=by
 rw [List.drop_eq_nil_of_le h]; rfl
theorem hexL_add (l:List Nat) (b:Nat):hexL (l++[b])=hexL l++[hxd (b / 16),hxd (b % 16)]:=by
 unfold hexL; simp
theorem numsV_c (w:List UInt8) (r:List (List UInt8)):numsV (w::r)=match numV w,numsV r with
  | some n,some l=>some (n::l)
  | _,_=>none:=rfl
theorem numsV_step {ws:List (List UInt8)} {i:Nat} {w:List UInt8} (h:ws[i]?=some w):numsV (ws.drop i)=match numV w with
  | some n=>(numsV (ws.drop (i+1))).map fun l=>n::l
  | none=>none:=by
 obtain ⟨hl,e⟩:=List.getElem?_eq_some_iff.1 h
 rw [List.drop_eq_getElem_cons hl,e,numsV_c]
 cases numV w with
 | none=>rfl
 | some n=>cases numsV (ws.drop (i+1)) <;> rfl
theorem numsL_add (l:List Int) (n:Int):numsL (l++[n])=(if l=[] then [] else numsL l++[32])++itoa n:=by
 induction l with
 | nil=>rfl
 | cons a r ih =>
  rw [if_neg (by simp)]
  cases r with
  | nil=>simp [numsL]
  | cons b r =>
   show itoa a++32::numsL (b::r++[n])=(itoa a++32::numsL (b::r))++[32]++itoa n
   rw [ih,if_neg (by simp)]
   simp
end Sx
namespace Sx
def cutN (s:List UInt8):Nat:=match nl s with
 | none=>s.length
 | some i=>i+1
theorem nl_lt {s:List UInt8} {i:Nat} (h:nl s=some i):i < s.length:=(List.findIdx?_eq_some_iff_getElem.1 h).1
theorem cutN_pos {s:List UInt8} (h:s≠[]):0 < cutN s:=by
 unfold cutN
 cases nl s with
 | none=>exact List.length_pos_iff.2 h
 | some i=>exact Nat.succ_pos i
theorem cutN_le (s:List UInt8):cutN s≤s.length:=by
 unfold cutN
 cases h:nl s with
 | none=>exact Nat.le_refl _
 | some i=>exact nl_lt h
def lnE (s:List UInt8):List (List UInt8):=if h:s=[] then [] else s.take (cutN s)::lnE (s.drop (cutN s))
termination_by s.length
decreasing_by
 have:=cutN_pos h
 have:0 < s.length:=List.length_pos_iff.2 h
 rw [List.length_drop]; omega
theorem lnE_nil:lnE []=[]:=by rw [lnE,dif_pos rfl]
theorem lnE_cons {s:List UInt8} (h:s≠[]):lnE s=s.take (cutN s)::lnE (s.drop (cutN s)):=by rw [lnE,dif_neg h]
def lineQ (l:List UInt8):Option SP:=if l.getLast?=some 10 then lineV l.dropLast else none
def goE:Nat→List SP→List (List UInt8)→List SP×Nat
 | _,acc,[]=>(acc,0)
 | n,acc,l::r=>match lineQ l with
  | none=>([],n+1)
  | some x=>goE (n+1) (acc++[x]) r
theorem goE_c (n:Nat) (acc:List SP) (l:List UInt8) (r:List (List UInt8)):goE n acc (l::r)=match lineQ l with
  | none=>([],n+1)
  | some x=>goE (n+1) (acc++[x]) r:=rfl
theorem rd_goE:∀ (k:Nat) (s:List UInt8) (n:Nat) (acc:List SP),s.length≤k→rdT n acc s=goE n acc (lnE s)
 | k,[],n,acc,_=>by rw [rdT_nil,lnE_nil]; rfl
 | 0,c::s,n,acc,h=>by simp at h
 | k+1,c::s,n,acc,h=>by
  have hne:c::s≠[]:=by simp
  rw [lnE_cons hne,goE_c]
  have hcl:=cutN_pos hne
  cases e:nl (c::s) with
  | none =>
   have e1:cutN (c::s)=(c::s).length:=by unfold cutN; rw [e]
   have hno:∀ x∈c::s,x≠10:=fun x hx=>by
    have:=List.findIdx?_eq_none_iff.1 e x hx
    simpa using this
   have e2:lineQ ((c::s).take (cutN (c::s)))=none:=by
    rw [e1,take_len]
    unfold lineQ
    refine if_neg fun h=>?_
    exact hno 10 (List.mem_of_getLast? h) rfl
   rw [e2,rdT_none hne e]
  | some i =>
   have e1:cutN (c::s)=i+1:=by unfold cutN; rw [e]
   obtain ⟨h1,h2,h3⟩:=cut_at (c:=10) e
   have e4:(c::s).take (i+1)=(c::s).take i++[10]:=by
    rw [List.take_add_one]
    have:(c::s)[i]?=some 10:=by
     obtain ⟨p1,p2,_⟩:=List.findIdx?_eq_some_iff_getElem.1 e
     rw [List.getElem?_eq_getElem p1]
     simpa using p2
    rw [this]; rfl
   have e2:lineQ ((c::s).take (cutN (c::s)))=lineV ((c::s).take i):=by
    rw [e1,e4]
    unfold lineQ
    rw [if_pos (by simp),List.dropLast_concat]
   rw [e2]
   cases e3:lineV ((c::s).take i) with
   | none=>rw [rdT_bad e e3]
   | some x =>
    rw [rdT_ok e e3,e1]
    exact rd_goE k _ _ _ (by rw [List.length_drop]; omega)
theorem rd_is (s:List UInt8):rdT 0 [] s=goE 0 [] (lnE s):=rd_goE _ s 0 [] (Nat.le_refl _)
theorem lnE_sum:∀ (k:Nat) (s:List UInt8),s.length≤k→(lnE s).length≤s.length∧∀ l∈lnE s,l.length≤s.length
 | k,[],_=>by rw [lnE_nil]; exact ⟨Nat.le_refl _,by intro l hl; cases hl⟩
 | 0,c::s,h=>by simp at h
 | k+1,c::s,h=>by
  have hne:c::s≠[]:=by simp
  have hcl:=cutN_pos hne
  have hle:=cutN_le (c::s)
  obtain ⟨i1,i2⟩:=lnE_sum k ((c::s).drop (cutN (c::s))) (by rw [List.length_drop]; omega)
  rw [List.length_drop] at i1 i2
  rw [lnE_cons hne]
  refine ⟨by rw [List.length_cons]; omega,fun l hl=>?_⟩
  rcases List.mem_cons.1 hl with rfl | hl
  ·rw [List.length_take]; omega
  ·have:=i2 l hl; omega
end Sx
namespace Sx
theorem suf_is (s:List UInt8):Lib.hasSuffix s [10]=decide (s.getLast?=some 10):=by
 unfold Lib.hasSuffix
 rw [Bool.eq_iff_iff,List.isSuffixOf_iff_suffix,decide_eq_true_iff]
 constructor
 ·rintro ⟨t,rfl⟩; simp
 ·intro h
  obtain ⟨ys,rfl⟩:=List.getLast?_eq_some_iff.1 h
  exact ⟨ys,rfl⟩
theorem suf_yes {s:List UInt8} (h:s.getLast?=some 10):Lib.trimSuffix s [10]=s.dropLast:=by
 unfold Lib.trimSuffix
 rw [suf_is,if_pos (by rw [decide_eq_true_iff]; exact h)]
 show s.take (s.length - 1)=_
 rw [List.dropLast_eq_take]
theorem pre_is (s:List UInt8):Lib.hasPrefix s [120]=decide (s.head?=some 120):=by
 unfold Lib.hasPrefix
 cases s with
 | nil=>rfl
 | cons c r =>
  by_cases h:c=120
  ·subst h; simp [List.isPrefixOf]
  ·have h':(120 == c)=false:=beq_eq_false_iff_ne.2 (Ne.symm h)
   simp [List.isPrefixOf,h',h]
theorem pre_yes {s:List UInt8} (h:s.head?=some 120):Lib.trimPrefix s [120]=s.drop 1:=by
 unfold Lib.trimPrefix
 rw [pre_is,if_pos (by rw [decide_eq_true_iff]; exact h)]; rfl
theorem datV_is (w:List UInt8):datV w=if w.head?=some 120 then hexV (w.drop 1) else none:=by
 cases w with
 | nil=>rfl
 | cons c r =>
  unfold datV
  by_cases h:c=120
  ·subst h; rfl
  ·simp [h]
inductive Wd where
 | n (z:Int)
 | d (l:List Nat)
def wdV (k:Bool) (w:List UInt8):Option Wd:=match k with
 | true=>(numV w).map .n
 | false=>(datV w).map .d
def wdsV:List Bool→List (List UInt8)→Option (List Wd)
 | k::ks,w::ws=>match wdV k w,wdsV ks ws with
  | some x,some l=>some (x::l)
  | _,_=>none
 | _,_=>some []
theorem wdsV_c (k:Bool) (ks:List Bool) (w:List UInt8) (ws:List (List UInt8)):wdsV (k::ks) (w::ws)=match wdV k w,wdsV ks ws with
  | some x,some l=>some (x::l)
  | _,_=>none:=rfl
theorem wdsV_n (ks:List Bool):wdsV ks []=some []:=by cases ks <;> rfl
theorem wdsV_step {ks:List Bool} {ws:List (List UInt8)} {i:Nat} {k:Bool} {w:List UInt8} (hk:ks[i]?=some k) (hw:ws[i]?=some w):wdsV (ks.drop i) (ws.drop i)=match wdV k w with
  | some x=>(wdsV (ks.drop (i+1)) (ws.drop (i+1))).map fun l=>x::l
  | none=>none:=by
 obtain ⟨hl,e⟩:=List.getElem?_eq_some_iff.1 hk
 obtain ⟨hl2,e2⟩:=List.getElem?_eq_some_iff.1 hw
 rw [List.drop_eq_getElem_cons hl,List.drop_eq_getElem_cons hl2,e,e2,wdsV_c]
 cases wdV k w with
 | none=>rfl
 | some x=>cases wdsV (ks.drop (i+1)) (ws.drop (i+1)) <;> rfl
theorem wds_more {ks:List Bool} {ws:List (List UInt8)} {i:Nat} {k:Bool} {w:List UInt8} {xs:List Wd} {x:Wd} (hk:ks[i]?=some k) (hw:ws[i]?=some w) (h:wdsV ks ws=(wdsV (ks.drop i) (ws.drop i)).map fun l=>xs++l) (hx:wdV k w=some x):wdsV ks ws=(wdsV (ks.drop (i+1)) (ws.drop (i+1))).map fun l=>(xs++[x])++l:=by
 rw [h,wdsV_step hk hw,hx]
 cases wdsV (ks.drop (i+1)) (ws.drop (i+1)) with
 | none=>rfl
 | some l=>simp
theorem wds_bad {ks:List Bool} {ws:List (List UInt8)} {i:Nat} {k:Bool} {w:List UInt8} {xs:List Wd} (hk:ks[i]?=some k) (hw:ws[i]?=some w) (h:wdsV ks ws=(wdsV (ks.drop i) (ws.drop i)).map fun l=>xs++l) (hx:wdV k w=none):wdsV ks ws=none:=by
 rw [h,wdsV_step hk hw,hx]; rfl
theorem wds_end {ks:List Bool} {ws:List (List UInt8)} {xs:List Wd} (h:wdsV ks ws=(wdsV (ks.drop ks.length) (ws.drop ks.length)).map fun l=>xs++l):wdsV ks ws=some xs:=by
 rw [h,List.drop_length]
 show (wdsV [] _).map _=_
 have:∀ l,wdsV [] l=some []:=fun l=>by cases l <;> rfl
 rw [this]; simp
def readV (ks:List Bool) (s:List UInt8):Option (List Wd):=if s.getLast?=some 10∧(spl s.dropLast).length=ks.length then wdsV ks (spl s.dropLast) else none
def kS:List Bool:=[true,true,true,false]
def GoodS (xs:Option (List Wd)) (y:Option SP):Prop:=match xs with
 | none=>y=none
 | some xs=>∃ x:SP,xs=[.n x.k,.n x.a,.n x.b,.d x.d]∧y=some x
theorem goodS:∀ ws:List (List UInt8),GoodS (if ws.length=4 then wdsV kS ws else none) (lineW ws)
 | []=>rfl
 | [_]=>rfl
 | [_,_]=>rfl
 | [_,_,_]=>rfl
 | _::_::_::_::_::_=>by
  rw [if_neg (by simp)]; rfl
 | [p,q,r,t]=>by
  rw [if_pos (by simp),lineW_4]
  unfold kS
  rw [wdsV_c,wdsV_c,wdsV_c,wdsV_c,wdsV_n]
  unfold wdV
  cases numV p with
  | none=>rfl
  | some k=>cases numV q with
   | none=>rfl
   | some a=>cases numV r with
    | none=>rfl
    | some b=>cases datV t with
     | none=>rfl
     | some d=>exact ⟨⟨k,a,b,d⟩,rfl,rfl⟩
theorem readS (s:List UInt8):GoodS (readV kS s) (lineQ s):=by
 unfold readV lineQ lineV
 by_cases h:s.getLast?=some 10
 ·rw [if_pos h]
  have:=goodS (spl s.dropLast)
  by_cases h2:(spl s.dropLast).length=4
  ·rw [if_pos h2] at this
   rw [if_pos ⟨h,h2⟩]; exact this
  ·rw [if_neg h2] at this
   rw [if_neg (fun h3=>h2 h3.2)]; exact this
 ·rw [if_neg h,if_neg (fun h2=>h h2.1)]; rfl
def kC:List Bool:=List.replicate 18 true
theorem wds_nums:∀ (n:Nat) (ws:List (List UInt8)),ws.length=n→wdsV (List.replicate n true) ws=(numsV ws).map fun l=>l.map Wd.n
 | 0,[],_=>rfl
 | 0,_::_,h=>by simp at h
 | n+1,[],h=>by simp at h
 | n+1,w::ws,h=>by
  show wdsV (true::List.replicate n true) (w::ws)=_
  rw [wdsV_c,wds_nums n ws (by simpa using h),numsV_c]
  unfold wdV
  cases numV w with
  | none=>rfl
  | some z=>cases numsV ws <;> rfl
theorem readC (s:List UInt8):readV kC s=(setV s).map fun l=>l.map Wd.n:=by
 unfold readV setV kC
 rw [List.length_replicate]
 by_cases h:s.getLast?=some 10
 ·by_cases h2:(spl s.dropLast).length=18
  ·rw [if_pos ⟨h,h2⟩,if_pos h,if_pos h2]
   exact wds_nums 18 _ h2
  ·rw [if_neg (fun h3=>h2 h3.2),if_pos h,if_neg h2]; rfl
 ·rw [if_neg (fun h3=>h h3.1),if_neg h]; rfl
end Sx
end Go.Proofs.YtnoehplnmdajnaaGreatDoor
