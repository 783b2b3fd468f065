/-
  Wanted: part 1.
  No condition.
-/
import Derived.WalkKit
import Derived.WalkLawsBesides
import Derived.IntWalk
import Derived.Below
import Derived.Lib.Hide
import Derived.Outline
import Derived.BigQuiet
import Derived.Deep.QuietTactic
import Derived.Deep.RegionHeld3
import Derived.OpenShut
import Derived.Deep.DeepCutAuto
import Derived.Laws.OwnMore
import Derived.Deep.AppendLies
import Derived.Deep.Draws
import Derived.Laws.Rows
import Derived.Maps.AppendAt
import Derived.RegionTactic
import Derived.OwnWalk
import Derived.Laws.CopyOwn
import Derived.Deep.MidRow
import Derived.OrdersHeld
import Derived.Deep.RegionHeld
import Derived.Deep.Cut
import Derived.Laws.BytesArg
import Derived.ChangeKeysEq
import Derived.Shelf.Abstract
set_option linter.all false
namespace Go.Proofs.YtnoehplnmdajnaaGreatDoor
namespace Ba
open Go.RowKit
def Since (W W':World):Prop:=Below W.heap.size W W'
theorem Since.refl (W:World):Since W W:=Below.refl _ _
theorem Since.drew {W w:World} (h:Since W w):Since W w.drew:=Below.drew h
theorem Since.trans {a b c:World} (h:Since a b) (k:Since b c):Since a c:=Below.trans (show Below a.heap.size a b from h) (Below.mono k (show Below a.heap.size a b from h).size)
theorem Since.alloc {W w:World} (h:Since W w) (o:Obj):Since W (w.alloc o):=Below.alloc h (show Below W.heap.size W w from h).size o
theorem Since.size {W w:World} (h:Since W w):W.heap.size≤w.heap.size:=(show Below W.heap.size W w from h).size
theorem Since.below {W w:World} (h:Since W w):Below W.heap.size W w:=h
end Ba
namespace Ba
open Go.RowKit
end Ba
namespace Mem
open Go.RowKit
theorem block_of_add (a:Addr) (n:Nat):(a.add n).block=a.block:=by unfold Addr.add; split <;> rfl
def Reads (w:World) (B size:Nat) (A:Option Addr) (n:Nat) (xs:List Value):Prop :=
 xs.length=n*size∧(0 < n→∃ ad,A=some ad∧ad.block < B∧∀ j u,xs[j]?=some u→w.cell? (ad.add j)=some u)
section
variable {w w':World} {B B' size n:Nat} {A:Option Addr} {xs:List Value}
theorem Reads.keep (h:Reads w B size A n xs) (hk:∀ p:Addr,p.block < B→w'.cell? p=w.cell? p):Reads w' B size A n xs :=
 ⟨h.1,fun hn=>by
  obtain ⟨ad,e,hb,hc⟩:=h.2 hn
  exact ⟨ad,e,hb,fun j u hu=>(hk _ (by rw [block_of_add]; exact hb)).trans (hc j u hu)⟩⟩
theorem Reads.below (h:Reads w B size A n xs) (hb:Below B w w'):Reads w' B size A n xs:=h.keep fun _ hp=>hb.cell hp
theorem Reads.of_own {base:Nat} {e:TypeId} {c:Nat} (h:w.ownsRow base e size (.slice A n c) n xs):Reads w w.heap.size size A n xs:=by
 refine ⟨h.1,fun hn=>?_⟩
 obtain ⟨g,cap,hv,_,hlt⟩:=h.form hn
 have hA:A=some ⟨g,0,none⟩:=by injection hv
 subst hA
 exact ⟨_,rfl,hlt,h.cells (g:=g) rfl⟩
end
def Blk (w:World) (g:Nat) (t:TypeId) (cs:Array Value):Prop:=w.heap[g]?=some (.cells cs t (0,0))
section
variable {w w':World} {g:Nat} {t:TypeId} {cs:Array Value}
theorem Blk.lt (h:Blk w g t cs):g < w.heap.size:=by
 rcases Nat.lt_or_ge g w.heap.size with hlt | hge
 ·exact hlt
 ·unfold Blk at h; rw [Array.getElem?_eq_none hge] at h; cases h
theorem Blk.cell (h:Blk w g t cs) (i:Nat):w.cell? ⟨g,i,none⟩=cs[i]?:=cell_of_row w g i cs t (0,0) h
theorem Blk.frozen (h:Blk w g t cs) (i:Nat):w.frozen? ⟨g,i,none⟩=false:=by
 unfold Blk at h
 simp [World.frozen?,h]
theorem Blk.new (w:World) (t:TypeId) (cs:Array Value):Blk (w.alloc (.cells cs t)) w.heap.size t cs:=heap_alloc_new w _
theorem Blk.drew (h:Blk w g t cs):Blk w.drew g t cs:=h
theorem Blk.below {B:Nat} (h:Blk w g t cs) (hb:Below B w w') (hg:g < B):Blk w' g t cs:=(hb.block g hg).trans h
theorem Blk.ne_ {g':Nat} {t':TypeId} {cs':Array Value} (h:Blk w g t cs) (h':Blk w g' t' cs') (hne:t≠t'):g≠g':=by
 rintro rfl
 unfold Blk at h h'
 rw [h] at h'
 injection h' with h'
 injection h' with _ ht
 exact hne ht
end
section
variable {P:Program} (w:World)
theorem run_append_of_nil (base:Nat) (t ty e:TypeId) (i:TypeInfo) (size:Nat) (ht:P.underlying t=some (.slice e)) (hi:P.info? e=some i)
  (v:Value) (n:Nat) (xs:List Value) (hown:w.ownsRow base e size v n xs) (c:Nat):(Builtin.append_ #[t,t] ty #[v,.slice none 0 c]).run P w=.ok v w:=by
 rcases hown.2 with ⟨rfl,rfl⟩ | ⟨g,cap,cur,rfl,_,_,hnc,_⟩
 ·simp [Builtin.append_,run_underlying ht,sizeOf,typeInfo,hi,Builtin.lenOf,Builtin.firstCells]
 ·simp [Builtin.append_,run_underlying ht,sizeOf,typeInfo,hi,Builtin.lenOf,Builtin.firstCells,hnc,storeCells]
theorem run_append_any (base:Nat) (t ty e:TypeId) (i:TypeInfo) (z:Value) (size bytes:Nat) (ht:P.underlying t=some (.slice e)) (hi:P.info? e=some i) (hz:i.zero=some z)
  (hsize:i.size=size) (hby:i.bytes=bytes) (hzs:z.cells.size=size) (hsz:0 < size)
  (v:Value) (n:Nat) (xs:List Value) (hown:w.ownsRow base e size v n xs)
  (B:Nat) (A:Option Addr) (m c:Nat) (news:List Value) (hr:Reads w B size A m news) (h1:∀ u∈news,u.oneCell'=true)
  (h63:n+m≤maxLen) (hbytes:(n+m)*bytes≤140737488355328) (hbase:base≤w.heap.size) :
  ∃ v' w',(Builtin.append_ #[t,t] ty #[v,.slice A m c]).run P w=.ok v' w'∧w'.ownsRow base e size v' (n+m) (xs++news)∧w.grownBy w' v.ownBlock ∧
   (v'.ownBlock=v.ownBlock∨v'.ownBlock=some w.heap.size):=by
 rcases A with _|ad
 ·have hm:m=0:=by
   rcases Nat.eq_zero_or_pos m with h0 | h0
   ·exact h0
   ·obtain ⟨ad,h,_⟩:=hr.2 h0
    cases h
  subst hm
  have hn:news=[]:=List.eq_nil_of_length_eq_zero (by simpa using hr.1)
  subst hn
  exact ⟨v,w,run_append_of_nil w base t ty e i size ht hi v n xs hown c,by simpa using hown,World.grownBy.refl w _,.inl rfl⟩
 ·have hcells:∀ j u,news[j]?=some u→w.cell? (ad.add j)=some u:=by
   intro j u hu
   rcases Nat.eq_zero_or_pos m with h0 | h0
   ·subst h0
    have hn:news=[]:=List.eq_nil_of_length_eq_zero (by simpa using hr.1)
    subst hn
    simp at hu
   ·obtain ⟨ad',h,_,hc⟩:=hr.2 h0
    injection h with h
    subst h
    exact hc j u hu
  obtain ⟨v',w',hrun,h2,h3,_,h5⟩:=run_append_own_at (P:=P) w base t ty e i z size bytes ht hi hz hsize hby hzs hsz v n xs hown ad m c news hr.1 hcells h1 h63 hbytes hbase
  exact ⟨v',w',hrun,h2,h3,h5⟩
theorem wp_append_any {o:Oper} {a:Act} {K:Act→World→Prop} {Q:Exit→Act→World→Prop} (s x:Operand) (t:TypeId)
  (ho:o.op=.call { callee:=.builtin .append,args:=#[s,x],argTypes:=#[t,t] })
  (base:Nat) (e:TypeId) (i:TypeInfo) (z:Value) (size bytes:Nat) (ht:P.underlying t=some (.slice e)) (hi:P.info? e=some i) (hz:i.zero=some z)
  (hsize:i.size=size) (hby:i.bytes=bytes) (hzs:z.cells.size=size) (hsz:0 < size)
  (v:Value) (n:Nat) (xs:List Value) (hs:a.eval s=v) (hown:w.ownsRow base e size v n xs)
  (B:Nat) (A:Option Addr) (m c:Nat) (news:List Value) (hx:a.eval x=.slice A m c) (hr:Reads w B size A m news) (h1:∀ u∈news,u.oneCell'=true)
  (h63:n+m≤maxLen) (hbytes:(n+m)*bytes≤140737488355328) (hbase:base≤w.heap.size)
  (h:∀ v' w',w'.ownsRow base e size v' (n+m) (xs++news)→w.grownBy w' v.ownBlock→(v'.ownBlock=v.ownBlock∨v'.ownBlock=some w.heap.size)→K (a.put o.dst v') w'):o.wp P a w K Q:=by
 obtain ⟨v',w',hrun,h2,h3,h4⟩:=run_append_any (P:=P) w base t o.type e i z size bytes ht hi hz hsize hby hzs hsz v n xs hown B A m c news hr h1 h63 hbytes hbase
 unfold Oper.wp execOp
 simp only [ho,resolve,invoke,builtin,Sem.run_bind,Sem.run_pure,Result.andThen_ok,List.map_toArray,List.map_cons,List.map_nil,hs,hx,hrun]
 exact h v' w' h2 h3 h4
end
end Mem
namespace Ba
open Go.RowKit Mem
theorem keep_blk {W W':World} {g:Nat} {t:TypeId} {cs:Array Value} (k:Since W W') (h:Blk W g t cs):Blk W' g t cs:=h.below k h.lt
theorem wpList_q {P:Program} {ops:Array Oper} {rest:List Oper} {o:Oper} {a:Act} {w:World} {Q:Exit→Act→World→Prop} (hw:Region.wanted o (yielded ops a.tmps)=true) (v:Value) (he:(execOp a.eval o).run P w=.ok (.value v) w)
  (h:wpList P ops Q rest (a.put o.dst v) w):wpList P ops Q (o::rest) a w :=
 wpList_step fun K hK=>by
  rw [if_pos hw]
  unfold Oper.wp
  rw [he]
  exact hK _ _ h
theorem Since.setRow {W w:World} (h:Since W w) {g:Nat} (hg:W.heap.size≤g) (cs:Array Value):Since W (w.setRow g cs):=below_setRow (show Below W.heap.size W w from h) hg cs
theorem Blk.row {w:World} {g:Nat} {t:TypeId} {cs:Array Value} (h:Blk w g t cs) (cs':Array Value):Blk (w.setRow g cs') g t cs':=setRow_heap w g cs cs' t (0,0) h
theorem Blk.row_far {w:World} {g k:Nat} {t:TypeId} {cs:Array Value} (h:Blk w g t cs) (hk:g≠k) (cs':Array Value):Blk (w.setRow k cs') g t cs:=(setRow_other w k g cs' hk).trans h
end Ba
namespace Ba
open Go.RowKit Mem
theorem sA {α:Type} (l:List α) (i:Nat) (a:α):l.toArray.setIfInBounds i a=(l.set i a).toArray:=by simp
theorem sB {α:Type} (x:α) (l:List α) (a:α):(x::l).set 0 a=a::l:=rfl
theorem sC {α:Type} (x:α) (l:List α) (n:Nat) (a:α):(x::l).set (n+1) a=x::l.set n a:=rfl
theorem gA {α:Type} (l:List α) (i:Nat):l.toArray[i]?=l[i]?:=by simp
theorem gB {α:Type} (x:α) (l:List α):(x::l)[0]?=some x:=by simp
theorem gC {α:Type} (x:α) (l:List α) (i:Nat):(x::l)[i+1]?=l[i]?:=by simp
def HasRow (w:World) (g:Nat) (t:TypeId) (n:Nat):Prop:=∃ old:Array Value,Blk w g t old∧old.size=n
theorem HasRow.of {w:World} {g n:Nat} {t:TypeId} {cs:Array Value} (h:Blk w g t cs) (hn:cs.size=n):HasRow w g t n:=⟨cs,h,hn⟩
theorem HasRow.keep {W W':World} {g n:Nat} {t:TypeId} (k:Since W W') (h:HasRow W g t n):HasRow W' g t n:=by
 obtain ⟨old,B,hn⟩:=h
 exact ⟨old,keep_blk k B,hn⟩
section
variable {P:Program} {o:Oper} {a:Act} {w:World} {K:Act→World→Prop} {Q:Exit→Act→World→Prop}
theorem range_of {g i n:Nat} {t:TypeId} {cs:Array Value} {l:List Value} (h:Blk w g t cs) (hl:(cs.toList.drop i).take n=l) (hn:l.length=n):w.rangeAt g i l:=fun j v hv=>by
 rw [Blk.cell h]
 have hj:j < n:=by rw [← hn]; exact (List.getElem?_eq_some_iff.1 hv).1
 rw [← hl,List.getElem?_take,if_pos hj,List.getElem?_drop] at hv
 simpa using hv
theorem exec_cell {g i:Nat} {t:TypeId} {cs:Array Value} {v:Value} (ty:TypeId) (x:Operand) (d:TypeDesc) (hg:Blk w g t cs) (hv:cs[i]?=some v) (ho:o.op=.load ty x) (hx:a.eval x=.pointer (some ⟨g,i,none⟩))
  (hu:P.underlying ty=some d) (hd:(match d with | .struct _ | .array _ _=>true | _=>false)=false):(execOp a.eval o).run P w=.ok (.value v) w:=by
 have hc:w.cell? ⟨g,i,none⟩=some v:=(Blk.cell hg i).trans hv
 have hagg:(isAgg ty).run P w=.ok false w:=by
  unfold isAgg
  rw [Sem.run_bind,run_underlying hu w]
  cases d <;> simp_all
 unfold execOp
 simp only [ho,hx,Instr.loadAt,Instr.sureAddr,Sem.run_bind,Sem.run_pure,Result.andThen_ok]
 simp [loadVar,Sem.run_bind,hagg,hc]
theorem exec_part {g i n:Nat} {t:TypeId} {cs:Array Value} {l:List Value} (ty:TypeId) (x:Operand) (d:TypeDesc) (hg:Blk w g t cs) (hl:(cs.toList.drop i).take n=l) (hn:l.length=n) (ho:o.op=.load ty x) (hx:a.eval x=.pointer (some ⟨g,i,none⟩))
  (hu:P.underlying ty=some d) (hd:d.isRow=true) (hi:(P.info? ty).map (·.size)=some l.length):(execOp a.eval o).run P w=.ok (.value (.agg l.toArray)) w:=by
 unfold execOp
 simp only [ho,hx,Instr.loadAt,Instr.sureAddr,Sem.run_bind,Sem.run_pure,Result.andThen_ok,run_loadVar_mid w g i ty l d (range_of hg hl hn) hu hd hi]
theorem wp_st_cell (ty:TypeId) (x y:Operand) (ho:o.op=.store ty x y) {g i:Nat} {t:TypeId} {cs:Array Value} (cs':Array Value) (v:Value) (hx:a.eval x=.pointer (some ⟨g,i,none⟩)) (hy:a.eval y=v) (hg:Blk w g t cs)
  (hlt:i < cs.size) (hcs:cs.setIfInBounds i v=cs') (h1:v.oneCell'=true) (hi:(P.info? ty).map (·.size)=some 1) (h:∀ w',w'=w.setRow g cs'→K (a.put o.dst undef) w'):o.wp P a w K Q:=by
 have hcell:w.cell? ⟨g,i,none⟩=some cs[i]:=by rw [Blk.cell hg]; simp [hlt]
 have hfro:w.frozen? ⟨g,i,none⟩=false:=Blk.frozen hg i
 have hst:(store ⟨g,i,none⟩ v).run P w=.ok () (w.setRow g cs'):=by
  rw [run_store P w _ v _ h1,hcell]
  simp [hfro,setCell_eq_setRow w g i cs t (0,0) v hg,hcs]
 have hsv:(storeVar ty ⟨g,i,none⟩ v).run P w=.ok () (w.setRow g cs'):=by
  cases hq:P.info? ty with
  | none=>simp [hq] at hi
  | some inf =>
   have hs:inf.size=1:=by simpa [hq] using hi
   have hvc:v.cells=#[v]:=by cases v <;> simp_all [Value.oneCell',Value.cells]
   have hadd:(⟨g,i,none⟩:Addr).add 0=⟨g,i,none⟩:=by simp [Addr.add]
   simp [storeVar,sizeOf,typeInfo,hq,hvc,hs,storeCells,hadd,hst]
 unfold Oper.wp execOp
 simp only [ho,hx,hy,Instr.storeAt,Instr.sureAddr,Sem.run_bind,Sem.run_pure,Result.andThen_ok,hsv]
 exact h _ rfl
theorem wp_new (mk:Nat→Value) (t:TypeId) (cs:Array Value) (he:∀ b,b=w.heap.size→(execOp a.eval o).run P w=.ok (.value (mk b)) (w.alloc (.cells cs t)))
  (h:∀ b w',w.heap.size≤b→Blk w' b t cs→Since w w'→K (a.put o.dst (mk b)) w'):o.wp P a w K Q:=by
 unfold Oper.wp
 rw [he _ rfl]
 exact h _ _ (Nat.le_refl _) (Blk.new w t cs) ((Since.refl w).alloc _)
theorem wpList_wp {ops:Array Oper} {rest:List Oper} (hw:Region.wanted o (yielded ops a.tmps)=true) (h:∀ K:Act→World→Prop,Hid (∀ a w,wpList P ops Q rest a w→K a w)→o.wp P a w K Q):wpList P ops Q (o::rest) a w :=
 wpList_step fun K hK=>by rw [if_pos hw]; exact h K (Lib.hid hK)
end
section
variable {P:Program} {fn:Func}
end
end Ba
namespace Ba
open Go.RowKit Mem
section
variable {P:Program} {md:Region.Mode} {ops:Array Oper} {Q:Exit→Act→World→Prop} {S:World→Prop} {oi:Oper} {fuel:Nat} {listed:Array Bool} {a:Act} {w:World}
def KeepS (S:World→Prop) (w:World):Prop:=(∀ W W':World,Since W W'→S W→S W')∧S w
theorem KeepS.at_ (_:KeepS S w) (W:World) (h:S W):S W:=h
theorem wp_held {id:Nat} (h:KeepS S w) (hm:P.follows .mixedOrders=true) (k:S w.drew→wpAnyH P .any ops Q S ops.size (Array.replicate ops.size false) a w.drew):(Code.region id ops true).wp P Q a w :=
 wp_region_held_drew hm (h.1 _ _ ((Since.refl w).drew) h.2) k
theorem tkQ (i:Nat) (v:Value) (hS:S w) (hi:ops[i]?=some oi:=by first | (simp only [gA,gB,gC]; done)|(simp only [gA,gB,gC]; exact rfl))
  (he:∀ w,S w→(execOp a.eval oi).run P w=.ok (.value v) w:=by intro w hSw; first | rfl | (go_simp; (try with_reducible rfl)))
  (hs:Region.noSelect ops=true:=by kernel_rfl) (hf:Region.free md ops listed i=true:=by kernel_rfl) (hr:(Region.ready md ops listed).contains i=true:=by kernel_rfl)
  (hQ:∀ c a w,Q (.panic c) (a.put oi.dst v) w→Q (.panic c) a w:=by exact fun _ _ _ h=>h) (hw:Region.wanted oi (yielded ops a.tmps)=true:=by rfl)
  (h:wpAnyH P md ops Q S fuel (listed.setIfInBounds i true) (a.put oi.dst v) w):wpAnyH P md ops Q S (fuel+1) listed a w :=
 wpAnyH_take hi hs hf hr hQ (Or.inl ⟨hw,he⟩) hS h
end
section
variable {P:Program} {ops:Array Oper} {rest:List Oper} {o:Oper} {a:Act} {w:World} {Q:Exit→Act→World→Prop}
theorem tkL (v:Value) (he:(execOp a.eval o).run P w=.ok (.value v) w:=by first | rfl | (go_simp; (try with_reducible rfl))) (hw:Region.wanted o (yielded ops a.tmps)=true:=by rfl)
  (h:wpList P ops Q rest (a.put o.dst v) w):wpList P ops Q (o::rest) a w:=wpList_q hw v he h
end
end Ba
namespace Ba
open Go.RowKit Mem
def FitsL (fr:Array Value):List (Nat×Value)→Prop
 | []=>True
 | (k,v)::m=>fr[k]?=some v∧FitsL fr m
def Fits (fr:Array Value) (n:Nat) (m:List (Nat×Value)):Prop:=fr.size=n∧FitsL fr m
def look (k:Nat) (d:Value):List (Nat×Value)→Value
 | []=>d
 | (j,v)::m=>bif Nat.beq j k then v else look k d m
def fill (n:Nat) (u:Nat→Value) (m:List (Nat×Value)):Array Value:=((List.range n).map (fun i=>look i (u i) m)).toArray
theorem look_fits {fr:Array Value} {k:Nat} {d:Value} (hd:fr[k]?=some d):∀ {m:List (Nat×Value)},FitsL fr m→look k d m=d
 | [],_=>rfl
 | (j,v)::m,⟨h1,h2⟩=>by
  unfold look
  cases hb:Nat.beq j k with
  | false=>exact look_fits hd h2
  | true =>
   have:=Nat.eq_of_beq_eq_true hb
   subst this
   rw [h1] at hd
   exact Option.some.inj hd
theorem Fits.open_ {fr:Array Value} {n:Nat} {m:List (Nat×Value)} (h:Fits fr n m):∃ u:Nat→Value,fr=fill n u m:=by
 obtain ⟨hs,hm⟩:=h
 refine ⟨fun k=>(fr[k]?).getD undef, ?_⟩
 apply Array.ext
 ·simp [fill,hs]
 ·intro i h1 h2
  have e:fr[i]?=some fr[i]:=by simp [h1]
  have:(fill n (fun k=>(fr[k]?).getD undef) m)[i]=look i ((fr[i]?).getD undef) m:=by simp [fill]
  rw [this,e]
  exact (look_fits (by rw [e]; first | done | rfl) hm).symm
section
variable {P:Program} {a:Act} {w:World} {ds:List Deferred}
theorem least_of {p:Nat→Prop}:∀ n,p n→∃ m,p m∧∀ k,p k→m≤k:=by
 intro n
 induction n using Nat.strongRecOn with
 | _ n ih =>
  intro hn
  by_cases h:∃ k,k < n∧p k
  ·obtain ⟨k,hk,hp⟩:=h; exact ih k hk hp
  ·exact ⟨n,hn,fun k hk=>Nat.le_of_not_lt fun hl=>h ⟨k,hl,hk⟩⟩
theorem wp_uloop {c:Code} {Q:Exit→Act→World→Prop} (R:Nat→Array Value→World→Prop) {fr0:Array Value} (n0:Nat) (h0:R n0 fr0 w)
  (round:∀ n fr wr,R n fr wr→∀ (J K':Act→World→Prop),(∀ n' fr' w',n' < n→R n' fr' w'→J ⟨fr',ds⟩ w')→(∀ a' w',Met J a' w'→K' a' w')→c.wp P (Exit.then K' Q) ⟨fr,ds⟩ wr) :
  (Code.loop c).wp P Q ⟨fr0,ds⟩ w:=by
 classical
 let p:Act→World→Nat→Prop:=fun a w n=>∃ fr,a=⟨fr,ds⟩∧R n fr w
 refine wp_loop (fun a w=>∃ n,p a w n) (fun a w=>if h:∃ m,p a w m∧∀ k,p a w k→m≤k then h.choose else 0) ⟨n0,fr0,rfl,h0⟩ ?_
 rintro a w ⟨n1,hp1⟩
 have hm:=least_of (p:=p a w) n1 hp1
 obtain ⟨⟨fr,e,hr⟩,hmin⟩:=hm.choose_spec
 rw [dif_pos hm]
 generalize hm.choose=n at hr hmin
 subst e
 refine wp_mono (round n fr w hr (fun a' w'=>∃ n' fr',n' < n∧a'=⟨fr',ds⟩∧R n' fr' w') (fun a' w'=>∃ n' fr',n' < n∧a'=⟨fr',ds⟩∧R n' fr' w') (fun n' fr' w' h1 h2=>⟨n',fr',h1,rfl,h2⟩) (fun _ _ h=>h)) ?_
 intro e a' w' hq
 cases e with
 | normal =>
  obtain ⟨n',fr',hlt,e',hr'⟩:=hq
  have hm':=least_of (p:=p a' w') n' ⟨fr',e',hr'⟩
  refine ⟨⟨n',fr',e',hr'⟩, ?_⟩
  rw [dif_pos hm']
  exact Nat.lt_of_le_of_lt (hm'.choose_spec.2 n' ⟨fr',e',hr'⟩) hlt
 | exit id=>exact hq
 | goto l=>exact hq
 | ret=>exact hq
 | panic ch=>exact hq
 | outgrown=>exact hq
end
end Ba
namespace Ba
open Go.RowKit Mem
theorem wr64 (x:Int) (h0 : -9223372036854775808≤x) (h1:x≤9223372036854775807):IntKind.i64.wrap x=x:=by
 simp only [IntKind.wrap,IntKind.bits,IntKind.signed]; simp; omega
section
variable {P:Program} {o:Oper} {a:Act} {w:World} {K:Act→World→Prop} {Q:Exit→Act→World→Prop}
end
end Ba
namespace Byt
open Go.RowKit
open Mem
def isB (x:Int):Prop:=0≤x∧x < 256
def cells (zs:List Int):List Value:=zs.map (Value.int .u8)
def BV (w:World) (a:Option Addr) (n:Nat) (zs:List Int):Prop :=
 zs.length=n∧n≤9223372036854775807∧(∀ z∈zs,isB z)∧(n=0∨∃ b off,a=some ⟨b,off,none⟩∧b < w.heap.size∧∀ j,j < n→w.cell? ⟨b,off+j,none⟩=some (.int .u8 (zs.getD j 0)))
section
variable {w w':World} {a:Option Addr} {n:Nat} {zs:List Int}
theorem BV.nil (w:World) (a:Option Addr):BV w a 0 []:=⟨rfl,by omega,by simp,.inl rfl⟩
theorem BV.addr (h:BV w a n zs) (hn:n≠0):∃ b off,a=some ⟨b,off,none⟩∧b < w.heap.size∧∀ j,j < n→w.cell? ⟨b,off+j,none⟩=some (.int .u8 (zs.getD j 0)):=by
 rcases h.2.2.2 with h0 | h0
 ·exact absurd h0 hn
 ·exact h0
theorem cells_at (zs:List Int) (j:Nat) (h:j < zs.length):(cells zs)[j]?=some (.int .u8 (zs.getD j 0)):=by
 unfold cells
 simp [List.getElem?_map,List.getD,h]
theorem BV.of_own {base:Nat} {e:TypeId} {A:Option Addr} {c:Nat} (h:w.ownsRow base e 1 (.slice A n c) n (cells zs)) (hB:∀ z∈zs,isB z):BV w A n zs:=by
 have hl:zs.length=n:=by have:=h.1; simpa [cells] using this
 rcases Nat.eq_zero_or_pos n with h0 | h0
 ·subst h0
  exact ⟨hl,by omega,hB,.inl rfl⟩
 ·obtain ⟨g,cap,hv,_,hlt⟩:=h.form h0
  have hA:A=some ⟨g,0,none⟩:=by injection hv
  subst hA
  have hr:=Reads.of_own h
  obtain ⟨ad,e1,hb,hc⟩:=hr.2 h0
  obtain rfl:(⟨g,0,none⟩:Addr)=ad:=by injection e1
  have hm:n≤maxLen:=by
   rcases h.2 with ⟨hv',h'⟩ | ⟨_,cap',_,_,_,_,hn,hc',_⟩
   ·omega
   ·omega
  refine ⟨hl,by unfold maxLen at hm; omega,hB,.inr ⟨g,0,rfl,hlt,fun j hj=>?_⟩⟩
  have:=hc j _ (cells_at zs j (by omega))
  rw [Go.WideShapes.add_plain] at this
  exact this
end
theorem BV.str {P:Program} {w:World} {a:Option Addr} {n:Nat} {zs:List Int} (h:BV w a n zs) (src e dst:TypeId) (hs:P.underlying src=some (.slice e)) (he:P.underlying e=some (.int .u8)) (hd:P.underlying dst=some .string) (cap:Nat) :
  (convert src dst (.slice a n cap)).run P w=.ok (.string (strOfNums zs)) w:=by
 rcases h.2.2.2 with h0 | ⟨b,off,rfl,_,hc⟩
 ·subst h0
  have hz:zs=[]:=List.eq_nil_of_length_eq_zero h.1
  subst hz
  rw [run_convert_bytes_string w src dst e _ 0 cap hs he hd]
  cases a <;> simp [Conv.bytesToString,loadCells]
  all_goals rfl
 ·exact run_convert_bytes_arg w src e hs he b off n cap zs h.1 hc dst hd
section
variable {P:Program} (w:World)
theorem own_form {base:Nat} {e:TypeId} {size n:Nat} {v:Value} {xs:List Value} (h:w.ownsRow base e size v n xs):∃ A c,v=.slice A n c:=by
 rcases h.2 with ⟨rfl,rfl⟩ | ⟨g,cap,_,rfl,_⟩
 ·exact ⟨none,0,rfl⟩
 ·exact ⟨_,_,rfl⟩
theorem own_below {w w':World} {base:Nat} {e:TypeId} {size n:Nat} {v:Value} {xs:List Value} (h:w.ownsRow base e size v n xs) (hb:Below w.heap.size w w'):w'.ownsRow base e size v n xs:=by
 refine ⟨h.1, ?_⟩
 rcases h.2 with h0 | ⟨g,cap,cur,hv,hg,hh,h4,h5,h6,h7⟩
 ·exact .inl h0
 ·have hlt:g < w.heap.size:=by
   rcases Nat.lt_or_ge g w.heap.size with hl | hl
   ·exact hl
   ·rw [Array.getElem?_eq_none hl] at hh; cases hh
  exact .inr ⟨g,cap,cur,hv,hg,(hb.block g hlt).trans hh,h4,h5,h6,h7⟩
end
end Byt
namespace Ba
open Go.RowKit Mem
open Byt (BV isB cells)
theorem keep_own {w w':World} {base:Nat} {e:TypeId} {size n:Nat} {v:Value} {xs:List Value} (k:Since w w') (h:w.ownsRow base e size v n xs):w'.ownsRow base e size v n xs:=Byt.own_below h k
theorem own_new {w:World} {g base n:Nat} {t:TypeId} {cs:List Value} (h:Blk w g t cs.toArray) (hb:base≤g) (hl:cs.length=n) (hn:n≤1000000):w.ownsRow base t 1 (.slice (some ⟨g,0,none⟩) n n) n cs :=
 ⟨by simp [hl],.inr ⟨g,n,cs.toArray,rfl,hb,h,Nat.le_refl _,by unfold maxLen; omega,by simp [hl],by simp [← hl]⟩⟩
section
variable {P:Program} {o:Oper} {a:Act} {w:World} {K:Act→World→Prop} {Q:Exit→Act→World→Prop}
theorem wp_q (v:Value) (he:(execOp a.eval o).run P w=.ok (.value v) w) (h:K (a.put o.dst v) w):o.wp P a w K Q:=by
 unfold Oper.wp
 rw [he]
 exact h
theorem exec_str {zs:List Int} {A:Option Addr} {n c:Nat} (src e dst:TypeId) (x:Operand) (h:BV w A n zs) (ho:o.op=.convert src dst x) (hx:a.eval x=.slice A n c)
  (hs:P.underlying src=some (.slice e)) (he:P.underlying e=some (.int .u8)) (hd:P.underlying dst=some .string):(execOp a.eval o).run P w=.ok (.value (.string (strOfNums zs))) w:=by
 unfold execOp
 simp only [ho,hx,Sem.run_bind,Sem.run_pure,BV.str h src e dst hs he hd c,Result.andThen_ok]
end
end Ba
namespace Ba
open Go.RowKit Mem
section
variable {e:TypeId} {B:Nat} {w W W':World}
end
def putAt (cs:Array Value) (o:Nat):List Value→Array Value
 | []=>cs
 | v::r=>putAt (cs.setIfInBounds o v) (o+1) r
theorem setCells_row {g:Nat} {t:TypeId}:∀ (vs:List Value) (o:Nat) (w:World) (cs:Array Value),Blk w g t cs→w.setCells g o vs=w.setRow g (putAt cs o vs)
 | [],_,w,cs,h=>(setRow_self w g cs t (0,0) h).symm
 | v::r,o,w,cs,h=>by
  show (w.setCell ⟨g,o,none⟩ v).setCells g (o+1) r=_
  rw [setCell_eq_setRow w g o cs t (0,0) v h,setCells_row r (o+1) _ _ (Blk.row h _),setRow_setRow]
  rfl
section
variable {P:Program} {o:Oper} {a:Act} {w:World} {K:Act→World→Prop} {Q:Exit→Act→World→Prop}
theorem wp_st_part (ty:TypeId) (x y:Operand) (ho:o.op=.store ty x y) {g i:Nat} {t:TypeId} {cs:Array Value} (cs' cells:Array Value) (hx:a.eval x=.pointer (some ⟨g,i,none⟩)) (hy:a.eval y=.agg cells) (hg:Blk w g t cs)
  (hlt:i+cells.size≤cs.size) (hcs:putAt cs i cells.toList=cs') (h1:cells.all (·.oneCell')=true) (hi:(P.info? ty).map (·.size)=some cells.size) (h:∀ w',w'=w.setRow g cs'→K (a.put o.dst undef) w'):o.wp P a w K Q:=by
 refine wp_store_mid ty x y ho g i cells hx hy (fun j hj=>⟨?_,Blk.frozen hg _⟩) hi h1 (h _ ?_)
 ·rw [Blk.cell hg]; simp; omega
 ·rw [setCells_row _ _ _ _ hg,hcs]
end
end Ba
namespace Ba
open Go.RowKit Mem
open Byt (BV isB cells)
end Ba
namespace Ba
open Go.RowKit Mem
open Byt (BV isB cells)
def blkOf:Option Addr→List Nat
 | some a=>[a.block]
 | none=>[]
structure Upd (S:List Nat) (w w':World):Prop where
 os:w'.os=w.os
 tape:w'.tape=w.tape
 output:w'.output=w.output
 size:w.heap.size≤w'.heap.size
 block:∀ k,k < w.heap.size→k∉S→w'.heap[k]?=w.heap[k]?
section
variable {S T:List Nat} {W w w' a b c:World} {g:Nat} {t:TypeId} {cs:Array Value}
theorem Upd.refl (S:List Nat) (w:World):Upd S w w:=⟨rfl,rfl,rfl,Nat.le_refl _,fun _ _ _=>rfl⟩
theorem Upd.of_since (h:Since w w'):Upd S w w':=⟨h.below.os,h.below.tape,h.below.output,h.below.size,fun k hk _=>h.below.block k hk⟩
theorem Upd.mono (h:Upd S w w') (hs:∀ k∈S,k < w.heap.size→k∈T):Upd T w w':=⟨h.os,h.tape,h.output,h.size,fun k hk hn=>h.block k hk (fun hS=>hn (hs k hS hk))⟩
theorem Upd.comp (h:Upd S a b) (k:Upd T b c) (hT:∀ g∈T,g∈S∨a.heap.size≤g):Upd S a c :=
 ⟨k.os.trans h.os,k.tape.trans h.tape,k.output.trans h.output,Nat.le_trans h.size k.size,fun g hg hn =>
  (k.block g (Nat.lt_of_lt_of_le hg h.size) (fun hgT=>by rcases hT g hgT with h1 | h1; exact hn h1; omega)).trans (h.block g hg hn)⟩
theorem Upd.trans (h:Upd S a b) (k:Since b c):Upd S a c:=h.comp (Upd.of_since (S:=[]) k) (fun _ hg=>by cases hg)
theorem Upd.drew (h:Upd S w W):Upd S w W.drew:=h.trans ((Since.refl W).drew)
theorem Upd.setRow (h:Upd S w W) (hg:g∈S∨w.heap.size≤g) (cs:Array Value):Upd S w (W.setRow g cs) :=
 ⟨h.os,h.tape,h.output,by rw [size_setRow]; exact h.size,fun k hk hn=>(setRow_other W g k cs (by rintro rfl; rcases hg with h1 | h1; exact hn h1; omega)).trans (h.block k hk hn)⟩
theorem Since.upd (h:Since W w) (k:Upd S w w') (hS:∀ g∈S,W.heap.size≤g):Since W w' :=
 ⟨k.os.trans h.below.os,k.tape.trans h.below.tape,k.output.trans h.below.output,Nat.le_trans h.size k.size,fun g hg =>
  (k.block g (Nat.lt_of_lt_of_le hg h.size) (fun hgS=>by have:=hS g hgS; omega)).trans (h.below.block g hg)⟩
theorem Upd.since (h:Upd [] w w'):Since w w':=(Since.refl w).upd h (fun _ hg=>by cases hg)
theorem Upd.blk (k:Upd S w w') (h:Blk w g t cs) (hg:g∉S):Blk w' g t cs:=(k.block g h.lt hg).trans h
theorem Upd.of_grown {A:Option Addr} {n c:Nat} (h:w.grownBy w' (Value.slice A n c).ownBlock):Upd (blkOf A) w w':=by
 refine ⟨h.os,h.tape,h.output,h.size,fun k hk hn=>h.block k hk (fun he=>hn ?_)⟩
 cases A with
 | none=>simp [Value.ownBlock] at he
 | some a=>simp [Value.ownBlock] at he; simp [blkOf,he]
variable {base:Nat} {e:TypeId} {size n c:Nat} {A:Option Addr} {xs:List Value}
theorem own_at (h:w.ownsRow base e size (.slice A n c) n xs):(A=none∧n=0∧xs=[])∨∃ g cur,A=some ⟨g,0,none⟩∧base≤g∧Blk w g e cur∧n≤c∧c≤maxLen∧cur.size=c*size∧cur.toList.take (n*size)=xs:=by
 rcases h.2 with ⟨hv,hn⟩ | ⟨g,cap,cur,hv,hb,hg,hc,hm,hs,ht⟩
 ·simp at hv
  exact .inl ⟨hv.1,hn,List.eq_nil_of_length_eq_zero (by have:=h.1; simpa [hn] using this)⟩
 ·simp at hv
  obtain ⟨rfl,rfl⟩:=hv
  exact .inr ⟨g,cur,rfl,hb,hg,hc,hm,hs,ht⟩
theorem own_low (h:w.ownsRow base e size (.slice A n c) n xs):∀ g∈blkOf A,base≤g:=by
 rcases own_at h with ⟨rfl,_⟩ | ⟨g,cur,rfl,hb,_⟩
 ·simp [blkOf]
 ·simp [blkOf,hb]
theorem own_lt (h:w.ownsRow base e size (.slice A n c) n xs):∀ g∈blkOf A,g < w.heap.size:=by
 rcases own_at h with ⟨rfl,_⟩ | ⟨g,cur,rfl,_,hg,_⟩
 ·simp [blkOf]
 ·simp [blkOf,hg.lt]
theorem own_ne_ty (h:w.ownsRow base e size (.slice A n c) n xs) (hb:Blk w g t cs) (hne:t≠e):g∉blkOf A:=by
 rcases own_at h with ⟨rfl,_⟩ | ⟨k,cur,rfl,_,hg,_⟩
 ·simp [blkOf]
 ·have:=Blk.ne_ hb hg hne
  simpa [blkOf] using this
theorem Upd.own (k:Upd S w w') (h:w.ownsRow base e size (.slice A n c) n xs) (hA:∀ g∈blkOf A,g∉S):w'.ownsRow base e size (.slice A n c) n xs:=by
 refine ⟨h.1, ?_⟩
 rcases own_at h with ⟨rfl,rfl,_⟩ | ⟨g,cur,rfl,hb,hg,hc,hm,hs,ht⟩
 ·rcases h.2 with h2 | ⟨_,_,_,hv,_⟩
  ·exact .inl h2
  ·simp at hv
 ·exact .inr ⟨g,c,cur,rfl,hb,k.blk hg (hA g (by simp [blkOf])),hc,hm,hs,ht⟩
theorem own_row_far (h:w.ownsRow base e size (.slice A n c) n xs) (hg:g∉blkOf A) (cs:Array Value):(w.setRow g cs).ownsRow base e size (.slice A n c) n xs :=
 (Upd.setRow (S:=[g]) (Upd.refl _ w) (.inl (by simp)) cs).own h (fun k hk hkg=>by simp at hkg; exact hg (hkg ▸ hk))
theorem own_reads (h:w.ownsRow base e size (.slice A n c) n xs):Reads w w.heap.size size A n xs:=Reads.of_own h
end
section
variable {P:Program} {o:Oper} {a:Act} {w:World} {K:Act→World→Prop} {Q:Exit→Act→World→Prop}
theorem info3 {e:TypeId} {z:Value} {size bytes:Nat} (h:(P.info? e).map (fun i=>(i.zero,i.size,i.bytes))=some (some z,size,bytes)):∃ i,P.info? e=some i∧i.zero=some z∧i.size=size∧i.bytes=bytes:=by
 cases hq:P.info? e with
 | none=>simp [hq] at h
 | some i=>simp [hq] at h; exact ⟨i,rfl,h.1,h.2.1,h.2.2⟩
theorem wp_append_row (s x:Operand) (t:TypeId) (ho:o.op=.call { callee:=.builtin .append,args:=#[s,x],argTypes:=#[t,t] })
  (base:Nat) (e:TypeId) (z:Value) (size bytes:Nat) (ht:P.underlying t=some (.slice e)) (hinf:(P.info? e).map (fun i=>(i.zero,i.size,i.bytes))=some (some z,size,bytes))
  (hzs:z.cells.size=size) (hsz:0 < size) (hby:bytes≤1000)
  (A0:Option Addr) (n c0:Nat) (xs:List Value) (hs:a.eval s=.slice A0 n c0) (hown:w.ownsRow base e size (.slice A0 n c0) n xs)
  (B:Nat) (A:Option Addr) (m c:Nat) (ys:List Value) (hx:a.eval x=.slice A m c) (hy:Reads w B size A m ys) (h1:∀ u∈ys,u.oneCell'=true) (hnm:n+m≤1000000) (hbase:base≤w.heap.size)
  (n2:Nat) (zs:List Value) (hn2:n+m=n2) (hzs2:xs++ys=zs)
  (h:∀ A' c' w',w'.ownsRow base e size (.slice A' n2 c') n2 zs→Upd (blkOf A0) w w'→(∀ g∈blkOf A',g∈blkOf A0∨w.heap.size≤g)→K (a.put o.dst (.slice A' n2 c')) w'):o.wp P a w K Q:=by
 subst hn2 hzs2
 obtain ⟨i,hi,hz,h2,h3⟩:=info3 hinf
 refine wp_append_any w s x t ho base e i z size bytes ht hi hz h2 h3 hzs hsz (.slice A0 n c0) n xs hs hown B A m c ys hx hy h1 (by unfold maxLen; omega) ?_ hbase ?_
 ·calc (n+m)*bytes≤1000000*1000:=Nat.mul_le_mul hnm hby
   _≤140737488355328:=by decide
 intro v' w' hown' hg hat
 obtain ⟨A',c',rfl⟩:=Byt.own_form w' hown'
 refine h A' c' w' hown' (Upd.of_grown hg) fun g hgA=>?_
 cases A' with
 | none=>simp [blkOf] at hgA
 | some ad =>
  simp [blkOf] at hgA
  subst hgA
  rcases hat with h4 | h4
  ·cases A0 with
   | none=>simp [Value.ownBlock] at h4
   | some ad0=>simp [Value.ownBlock] at h4; simp [blkOf,h4]
  ·simp [Value.ownBlock] at h4
   exact .inr (by omega)
end
end Ba
namespace Ba
open Go.RowKit Mem
def rowsOf {α:Type} (enc:α→List Value) (ls:List α):List Value:=ls.flatMap enc
section
variable {α:Type} {enc:α→List Value} {k:Nat}
theorem rowsOf_cons (a:α) (l:List α):rowsOf enc (a::l)=enc a++rowsOf enc l:=by simp [rowsOf]
theorem rowsOf_append (xs ys:List α):rowsOf enc (xs++ys)=rowsOf enc xs++rowsOf enc ys:=by simp [rowsOf]
theorem rowsOf_one (a:α):rowsOf enc [a]=enc a:=by simp [rowsOf]
theorem rowsOf_len (hk:∀ a,(enc a).length=k):∀ ls:List α,(rowsOf enc ls).length=ls.length*k
 | []=>by simp [rowsOf]
 | a::l=>by
  rw [rowsOf_cons,List.length_append,rowsOf_len hk l,hk,List.length_cons,Nat.succ_mul,Nat.add_comm]
theorem rowsOf_split (i:Nat) (ls:List α):rowsOf enc ls=rowsOf enc (ls.take i)++rowsOf enc (ls.drop i):=by
 rw [← rowsOf_append,List.take_append_drop]
theorem rowsOf_take (hk:∀ a,(enc a).length=k) {i:Nat} {ls:List α} (hi:i≤ls.length):(rowsOf enc ls).take (i*k)=rowsOf enc (ls.take i):=by
 rw [rowsOf_split i ls]
 exact List.take_left' (by rw [rowsOf_len hk,List.length_take,Nat.min_eq_left hi])
theorem rowsOf_drop (hk:∀ a,(enc a).length=k) {i:Nat} {ls:List α} (hi:i≤ls.length):(rowsOf enc ls).drop (i*k)=rowsOf enc (ls.drop i):=by
 rw [rowsOf_split i ls]
 exact List.drop_left' (by rw [rowsOf_len hk,List.length_take,Nat.min_eq_left hi])
theorem rowsOf_at (hk:∀ a,(enc a).length=k) {i:Nat} {ls:List α} (hi:i < ls.length):((rowsOf enc ls).drop (i*k)).take k=enc ls[i]:=by
 rw [rowsOf_drop hk (by omega),List.drop_eq_getElem_cons hi,rowsOf_cons]
 exact List.take_left' (hk _)
theorem rowsOf_one' (h1:∀ a,∀ u∈enc a,u.oneCell'=true) (ls:List α):∀ u∈rowsOf enc ls,u.oneCell'=true:=by
 intro u hu
 obtain ⟨a,_,ha⟩:=List.mem_flatMap.1 hu
 exact h1 a u ha
theorem rowsOf_set (hk:∀ a,(enc a).length=k) {i:Nat} {ls:List α} (hi:i < ls.length) (a:α) :
  rowsOf enc (ls.set i a)=(rowsOf enc ls).take (i*k)++(enc a++(rowsOf enc ls).drop (i*k+k)):=by
 rw [List.set_eq_take_append_cons_drop,if_pos hi,rowsOf_append,rowsOf_cons,rowsOf_take hk (by omega),← Nat.succ_mul,rowsOf_drop hk (by omega)]
end
section
variable {α:Type} {enc:α→List Value} {k:Nat} {w:World} {base:Nat} {e:TypeId} {n c:Nat} {A:Option Addr} {ls:List α}
end
section
variable {P:Program} {o:Oper} {a:Act} {w:World} {K:Act→World→Prop} {Q:Exit→Act→World→Prop}
end
section
variable {P:Program} {o:Oper} {a:Act} {w:World} {K:Act→World→Prop} {Q:Exit→Act→World→Prop}
theorem sb_h (w:World) {len cap h:Nat} (kh:IntKind) {H:Int} (hH:H=h) (h2:h≤cap):(Instr.sliceBounds true len cap none (some (.int kh H)) none).run P w=.ok (0,h,cap) w:=by
 subst hH
 simp [Instr.sliceBounds,run_sliceBound,h2]
theorem sb_l (w:World) {len cap l:Nat} (kl:IntKind) {L:Int} (hL:L=l) (h1:l≤len):(Instr.sliceBounds true len cap (some (.int kl L)) none none).run P w=.ok (l,len,cap) w:=by
 subst hL
 simp [Instr.sliceBounds,run_sliceBound,h1]
theorem exec_slice {A A':Option Addr} {len cap l h m n' c' s:Nat} (t e:TypeId) (x:Operand) (lo hi mx:Option Operand) (ho:o.op=.slice t x lo hi mx) (hx:a.eval x=.slice A len cap) (ht:P.underlying t=some (.slice e)) (hs:(P.info? e).map (·.size)=some s)
  (hb:(Instr.sliceBounds true len cap (lo.map a.eval) (hi.map a.eval) (mx.map a.eval)).run P w=.ok (l,h,m) w) (hA:(if m=l then A else A.map (·.add (l*s)))=A') (hn:h - l=n') (hc:m - l=c'):(execOp a.eval o).run P w=.ok (.value (.slice A' n' c')) w:=by
 subst hA hn hc
 obtain ⟨i,hi2,hs2⟩:∃ i,P.info? e=some i∧i.size=s:=by
  cases hq:P.info? e with
  | none=>simp [hq] at hs
  | some i=>exact ⟨i,rfl,by simpa [hq] using hs⟩
 unfold execOp
 simp only [ho,hx]
 simp [Instr.sliceAt,Instr.slice,run_underlying ht,hb,sizeOf,typeInfo,hi2,hs2]
theorem own_base {w:World} {lo lo' n c size:Nat} {e:TypeId} {A:Option Addr} {xs:List Value} (h:w.ownsRow lo e size (.slice A n c) n xs) (hb:lo'≤lo):w.ownsRow lo' e size (.slice A n c) n xs:=by
 refine ⟨h.1, ?_⟩
 rcases h.2 with h2 | ⟨g,cap,cur,hv,hbg,rest⟩
 ·exact .inl h2
 ·exact .inr ⟨g,cap,cur,hv,by omega,rest⟩
theorem own_empty {g lo size:Nat} {e:TypeId} (h:Blk w g e #[]) (hb:lo≤g):w.ownsRow lo e size (.slice (some ⟨g,0,none⟩) 0 0) 0 [] :=
 ⟨by simp,.inr ⟨g,0,#[],rfl,hb,h,by omega,by unfold maxLen; omega,by simp,by simp⟩⟩
theorem own_addr {w:World} {lo n c size:Nat} {e:TypeId} {A:Option Addr} {xs:List Value} (h:w.ownsRow lo e size (.slice A n c) n xs) (hn:0 < n):∃ g,A=some ⟨g,0,none⟩:=by
 rcases own_at h with ⟨_,h0,_⟩ | ⟨g,_,rfl,_⟩
 ·omega
 ·exact ⟨g,rfl⟩
theorem own_reads_since {w w':World} {B size n:Nat} {A:Option Addr} {xs:List Value} (k:Since w w') (hB:B≤w.heap.size) (h:Reads w B size A n xs):Reads w' B size A n xs:=h.below (k.below.mono hB)
theorem reads_blk {g m size:Nat} {t:TypeId} {cs:List Value} (h:Blk w g t cs.toArray) (hl:cs.length=m*size):Reads w w.heap.size size (some ⟨g,0,none⟩) m cs :=
 ⟨hl,fun _=>⟨_,rfl,h.lt,fun j u hu=>by rw [Go.WideShapes.add_plain,Nat.zero_add,h.cell]; simpa using hu⟩⟩
end
end Ba
namespace Ba
open Go.RowKit Mem
def el (P:List Value) (cs:Array Value) (S:List Value):Array Value:=(P++cs.toList++S).toArray
section
variable {P S:List Value} {cs cs':Array Value} {off j n:Nat} {v:Value} {l vs:List Value}
theorem el_at (hp:P.length=off) (h:cs[j]?=some v):(el P cs S)[off+j]?=some v:=by
 subst hp
 have hj:j < cs.size:=by
  rcases Nat.lt_or_ge j cs.size with h1 | h1
  ·exact h1
  ·rw [Array.getElem?_eq_none h1] at h; cases h
 simp only [el,List.getElem?_toArray,List.append_assoc]
 rw [List.getElem?_append_right (by omega),Nat.add_sub_cancel_left,List.getElem?_append_left (by simpa using hj)]
 simpa using h
theorem el_size:(el P cs S).size=P.length+cs.size+S.length:=by simp [el]; omega
theorem el_lt (hp:P.length=off) (h:j < cs.size):off+j < (el P cs S).size:=by rw [el_size]; omega
theorem el_le (hp:P.length=off) (h:j+n≤cs.size):off+j+n≤(el P cs S).size:=by rw [el_size]; omega
theorem el_set (hp:P.length=off) (h:j < cs.size) (hc:cs.setIfInBounds j v=cs'):(el P cs S).setIfInBounds (off+j) v=el P cs' S:=by
 subst hp hc
 unfold el
 rw [List.setIfInBounds_toArray,List.append_assoc,List.append_assoc,List.set_append_right _ _ (by omega),Nat.add_sub_cancel_left,List.set_append_left _ _ (by simpa using h)]
 simp
theorem el_put:∀ {vs:List Value} {j:Nat} {cs cs':Array Value},P.length=off→j+vs.length≤cs.size→putAt cs j vs=cs'→putAt (el P cs S) (off+j) vs=el P cs' S
 | [],_,_,_,_,_,hc=>by subst hc; rfl
 | v::r,j,cs,cs',hp,h,hc=>by
  simp only [List.length_cons] at h
  unfold putAt at hc ⊢
  rw [el_set hp (by omega) rfl,Nat.add_assoc]
  exact el_put hp (by simp; omega) hc
theorem el_part (hp:P.length=off) (hl:(cs.toList.drop j).take n=l) (h:j+n≤cs.size):((el P cs S).toList.drop (off+j)).take n=l:=by
 subst hp hl
 simp only [el,List.append_assoc]
 rw [List.drop_append,Nat.add_sub_cancel_left,List.drop_eq_nil_of_le (by omega),List.nil_append,List.drop_append_of_le_length (by simp; omega),List.take_append_of_le_length (by simp; omega)]
end
theorem own_el {α:Type} {enc:α→List Value} {k:Nat} (hk:∀ a,(enc a).length=k) {w:World} {lo g n c i:Nat} {e:TypeId} {ls:List α}
  (h:w.ownsRow lo e k (.slice (some ⟨g,0,none⟩) n c) n (rowsOf enc ls)) (hi:i < ls.length) :
  ∃ P S:List Value,P.length=0+i*k∧Blk w g e (el P (enc ls[i]).toArray S)∧∀ a w',Blk w' g e (el P (enc a).toArray S)→w'.ownsRow lo e k (.slice (some ⟨g,0,none⟩) n c) n (rowsOf enc (ls.set i a)):=by
 have hr:=rowsOf_len hk ls
 rcases own_at h with ⟨h0,_⟩ | ⟨g',cur,hA,hb,B,hn,hc,hs,ht⟩
 ·cases h0
 ·have hg:g'=g:=by injection hA with hA; injection hA with hA; exact hA.symm
  subst hg
  have hlen:(rowsOf enc ls).length=n*k:=h.1
  have hnl:ls.length*k=n*k:=by rw [← hr,hlen]
  have hik:i*k+k≤n*k:=by rw [← hnl,← Nat.succ_mul]; exact Nat.mul_le_mul_right _ hi
  have hck:n*k≤c*k:=Nat.mul_le_mul_right _ hn
  have hcl:cur.toList.length=c*k:=by simpa using hs
  have hel:(cur.toList.drop (i*k)).take k=enc ls[i]:=by
   have h1:=rowsOf_at hk hi
   rw [← h1,← ht,List.drop_take,List.take_take,Nat.min_eq_left (by omega)]
  refine ⟨cur.toList.take (i*k),cur.toList.drop (i*k+k),by rw [List.length_take,Nat.zero_add]; omega, ?_, ?_⟩
  ·have:el (cur.toList.take (i*k)) (enc ls[i]).toArray (cur.toList.drop (i*k+k))=cur:=by
    unfold el
    rw [← hel]
    apply Array.ext'
    simp only [List.toList_toArray]
    rw [← List.drop_drop,List.append_assoc,List.take_append_drop,List.take_append_drop]
   rw [this]; exact B
  ·intro a w' B'
   have hal:=hk a
   refine ⟨by rw [rowsOf_len hk,List.length_set]; exact hnl,.inr ⟨g',c,_,rfl,hb,B',hn,hc, ?_, ?_⟩⟩
   ·rw [el_size]; simp only [List.length_take,List.length_drop,List.size_toArray,hal,hcl]; omega
   ·simp only [el,List.toList_toArray]
    have hL1:(cur.toList.take (i*k)).length=i*k:=by rw [List.length_take]; omega
    rw [rowsOf_set hk hi a,← ht,List.take_take,Nat.min_eq_left (by omega),List.append_assoc,List.take_append,hL1,List.take_of_length_le (by omega),List.take_append,hal,List.take_of_length_le (l:=enc a) (by omega),List.drop_take,Nat.sub_sub]
end Ba
namespace En
open Go.RowKit Ba Mem
inductive SV where
 | v (x:Value)
 | i (k:IntKind) (n:Int)
 | b (x:Bool)
 | p (j o:Nat)
 | s (j o n c:Nat)
 | f (fn:FuncId) (cs:List SV)
 | a (cs:List SV)
 | t (cs:List SV)
structure Row where
 g:Nat
 t:TypeId
 live:Bool
 off:Nat
 pre:List Value
 cs:List SV
 suf:List Value
 rw:Bool
mutual
def den (m:List Row):SV→Value
 | .v x=>x
 | .i k n=>.int k n
 | .b x=>.bool x
 | .p j o=>match m[j]? with | some r=>.pointer (some ⟨r.g,r.off+o,none⟩)|none=>undef
 | .s j o n c=>match m[j]? with | some r=>.slice (some ⟨r.g,r.off+o,none⟩) n c | none=>undef
 | .f fn cs=>.func (.func fn) #[] (denL m cs).toArray
 | .a cs=>.agg (denL m cs).toArray
 | .t cs=>.tuple (denL m cs).toArray
def denL (m:List Row):List SV→List Value
 | []=>[]
 | x::r=>den m x::denL m r
end
mutual
def okV (n:Nat):SV→Bool
 | .v _=>true
 | .i _ _=>true
 | .b _=>true
 | .p j _=>Nat.blt j n
 | .s j _ _ _=>Nat.blt j n
 | .f _ cs=>okL n cs
 | .a cs=>okL n cs
 | .t cs=>okL n cs
def okL (n:Nat):List SV→Bool
 | []=>true
 | x::r=>okV n x && okL n r
end
structure Asr where
 F:List Nat
 rw:Bool
 st:World→Prop
 up:∀ {w w':World} {T:List Nat},Upd T w w'→(∀ g∈F,g∉T)→st w→st w'
 lt:∀ {w:World},st w→∀ g∈F,g < w.heap.size
structure St where
 fr:List (Nat×SV)
 m:List Row
 ob:List Asr
structure Ty where
 row:Bool
 size:Nat
 zero:List SV
 flds:List (Nat×Nat×Bool)
 sl:Bool
 el:Nat
 ik:Option IntKind
 eqk:List Bool
 pt:Bool
abbrev Tab:=List (Nat×Ty)
def tyK (t:Nat):Tab→(Ty→Prop)→Prop
 | [],_=>False
 | (k,y)::r,K=>match Nat.beq k t with | true=>K y | false=>tyK t r K
def tyO (t:Nat):Tab→Option Ty
 | []=>none
 | (k,y)::r=>match Nat.beq k t with | true=>some y | false=>tyO t r
def lkO (k:Nat):List (Nat×SV)→Option SV
 | []=>none
 | (j,v)::r=>match Nat.beq j k with | true=>some v | false=>lkO k r
def lk (k:Nat):List (Nat×SV)→(SV→Prop)→Prop
 | [],_=>False
 | (j,v)::r,K=>match Nat.beq j k with | true=>K v | false=>lk k r K
def nth:Nat→List SV→(SV→Prop)→Prop
 | _,[],_=>False
 | 0,v::_,K=>K v
 | k+1,_::r,K=>nth k r K
def nthR:Nat→List Row→(Row→Prop)→Prop
 | _,[],_=>False
 | 0,v::_,K=>K v
 | k+1,_::r,K=>nthR k r K
def tk:Nat→List SV→(List SV→Prop)→Prop
 | 0,_,K=>K []
 | _+1,[],_=>False
 | n+1,x::r,K=>tk n r fun l=>K (x::l)
def tkN:Nat→Nat→List SV→(List SV→Prop)→Prop
 | 0,n,l,K=>tk n l K
 | _+1,_,[],_=>False
 | k+1,n,_::r,K=>tkN k n r K
def setN:Nat→List SV→List SV→(List SV→Prop)→Prop
 | 0,[],l,K=>K l
 | 0,_::_,[],_=>False
 | 0,v::vs,_::r,K=>setN 0 vs r fun l=>K (v::l)
 | _+1,_,[],_=>False
 | k+1,vs,x::r,K=>setN k vs r fun l=>K (x::l)
def setR:Nat→(Row→(Row→Prop)→Prop)→List Row→(List Row→Prop)→Prop
 | _,_,[],_=>False
 | 0,f,r::m,K=>f r fun r'=>K (r'::m)
 | k+1,f,r::m,K=>setR k f m fun m'=>K (r::m')
def appR:List Row→Row→(List Row→Prop)→Prop
 | [],r,K=>K [r]
 | x::m,r,K=>appR m r fun m'=>K (x::m')
def lenR:List Row→Nat→(Nat→Prop)→Prop
 | [],n,K=>K n
 | _::m,n,K=>lenR m (n+1) K
structure Br (t:Bool) (A B:Prop):Prop where
 out:(t=true→A)∧(t=false→B)
structure Wr (k:IntKind) (x:Int) (K:Int→Prop):Prop where
 out:K (k.wrap x)
structure Cd (p A:Prop):Prop where
 out:p∧A
def evc (c:Value) (K:SV→Prop):Prop :=
 match c with
 | .int k n=>K (.i k n)
 | .bool b=>K (.b b)
 | c=>K (.v c)
def ev (x:Operand) (fr:List (Nat×SV)) (K:SV→Prop):Prop :=
 match x with
 | .tmp t=>lk t fr K
 | .const c=>evc c K
 | .global g=>K (.v (.pointer (some ⟨g,0,none⟩)))
 | .func f=>K (.f f [])
def evL:List Operand→List (Nat×SV)→(List SV→Prop)→Prop
 | [],_,K=>K []
 | x::r,fr,K=>ev x fr fun v=>evL r fr fun l=>K (v::l)
def ikeq:IntKind→IntKind→Bool
 | .i8,.i8 | .i16,.i16 | .i32,.i32 | .i64,.i64 | .u8,.u8 | .u16,.u16 | .u32,.u32 | .u64,.u64=>true
 | _,_=>false
def eqK:List Bool→List SV→List SV→(Bool→Prop)→Prop
 | [],[],[],K=>K true
 | true::ks,.i k x::r,.i k' y::q,K=>match ikeq k k' with
  | true=>eqK ks r q fun b=>K ((x == y) && b)
  | false=>False
 | false::ks,.b x::r,.b y::q,K=>eqK ks r q fun b=>K ((x == y) && b)
 | _,_,_,_=>False
def bitI (op:BinOp) (k:IntKind) (x y:Int):Int :=
 let a:=BitVec.ofInt k.bits x
 let b:=BitVec.ofInt k.bits y
 match op with
 | .and=>k.wrap (a &&& b).toNat
 | .or=>k.wrap (a ||| b).toNat
 | .xor=>k.wrap (a ^^^ b).toNat
 | _=>k.wrap (a &&& ~~~b).toNat
def binI (op:BinOp) (k:IntKind) (x y:Int) (K:SV→Prop) (F:Prop):Prop :=
 match op with
 | .add=>Wr k (x+y) fun z=>K (.i k z)
 | .sub=>Wr k (x - y) fun z=>K (.i k z)
 | .mul=>Wr k (x*y) fun z=>K (.i k z)
 | .quo=>Cd (y≠0) (Wr k (x.tdiv y) fun z=>K (.i k z))
 | .rem=>Cd (y≠0) (K (.i k (x.tmod y)))
 | .and=>K (.i k (bitI .and k x y))
 | .or=>K (.i k (bitI .or k x y))
 | .xor=>K (.i k (bitI .xor k x y))
 | .andNot=>K (.i k (bitI .andNot k x y))
 | .eql=>K (.b (x == y))
 | .neq=>K (.b (x != y))
 | .lss=>K (.b (decide (x < y)))
 | .leq=>K (.b (decide (x≤y)))
 | .gtr=>K (.b (decide (x > y)))
 | .geq=>K (.b (decide (x ≥ y)))
 | _=>F
def bin (tab:Tab) (t:TypeId) (op:BinOp) (a b:SV) (K:SV→Prop) (F:Prop):Prop :=
 match a,b with
 | .i k x,.i k' y=>match op with
  | .shl=>Cd (0≤y) (Wr k (x*2 ^ min y.toNat k.bits) fun z=>K (.i k z))
  | .shr=>Cd (0≤y) (K (.i k (x.fdiv (2 ^ min y.toNat k.bits))))
  | op=>match ikeq k k' with
   | false=>F
   | true=>binI op k x y K F
 | .b x,.b y=>tyK t tab fun ty=>match ty.row with
  | true=>F
  | false=>match ty.eqk with
   | [false]=>match op with
    | .eql=>K (.b (x == y))
    | .neq=>K (.b (!(x == y)))
    | _=>F
   | _=>F
 | .a xs,.a ys=>tyK t tab fun ty=>match ty.row with
  | true=>match ty.eqk with
   | []=>F
   | k::ks=>match op with
    | .eql=>eqK (k::ks) xs ys fun b=>K (.b b)
    | .neq=>eqK (k::ks) xs ys fun b=>K (.b (!b))
    | _=>F
  | false=>F
 | .p _ _,.v (.pointer none)=>tyK t tab fun ty=>match ty.pt with
  | true=>match op with
   | .eql=>K (.b false)
   | .neq=>K (.b true)
   | _=>F
  | false=>F
 | .v (.pointer a),.v (.pointer none)=>tyK t tab fun ty=>match ty.pt with
  | true=>match op with
   | .eql=>K (.b a.isNone)
   | .neq=>K (.b (!a.isNone))
   | _=>F
  | false=>F
 | .v (.string x),.v (.string y)=>match op with
  | .eql=>K (.b (x.toList == y.toList))
  | .neq=>K (.b (!(x.toList == y.toList)))
  | _=>F
 | _,_=>F
def oneS:SV→Bool
 | .v x=>x.oneCell'
 | .a _=>false
 | .t _=>false
 | _=>true
def cellsS:SV→List SV
 | .a cs=>cs
 | x=>[x]
def bld (tab:Tab) (fl:List (Nat×Nat×Bool)) (fr:List (Nat×SV)):List (Nat×Operand)→List SV→(List SV→Prop)→Prop
 | [],cs,K=>K cs
 | (k,x)::r,cs,K=>match fl[k]? with
  | none=>False
  | some q=>ev x fr fun v=>match v with
   | .a l=>match q.2.2 with
    | true=>match Nat.beq l.length q.2.1 with
     | true=>setN q.1 l cs fun cs=>bld tab fl fr r cs K
     | false=>False
    | false=>False
   | v=>match q.2.2 with
    | true=>False
    | false=>match oneS v with
     | true=>setN q.1 [v] cs fun cs=>bld tab fl fr r cs K
     | false=>False
def pe (tab:Tab) (o:Op) (fr:List (Nat×SV)) (K:SV→Prop) (F:Prop):Prop :=
 match o with
 | .move x=>ev x fr K
 | .assign x=>ev x fr K
 | .pick c x y=>ev c fr fun v=>match v with
  | .b t=>Br t (ev x fr K) (ev y fr K)
  | _=>F
 | .nilCheck x=>ev x fr fun v=>match v with
  | .p j o=>K (.p j o)
  | .f f cs=>K (.f f cs)
  | _=>F
 | .fieldAddr s x k=>ev x fr fun v=>match v with
  | .p j o=>tyK s tab fun y=>match y.flds[k]? with
   | some q=>K (.p j (o+q.1))
   | none=>F
  | _=>F
 | .field s x k=>ev x fr fun v=>match v with
  | .a cs=>tyK s tab fun y=>match y.flds[k]? with
   | some q=>match q.2.2 with
    | true=>tkN q.1 q.2.1 cs fun l=>K (.a l)
    | false=>nth q.1 cs K
   | none=>F
  | _=>F
 | .indexAddr t x ix=>ev x fr fun v=>ev ix fr fun i=>match i with
  | .i _ I=>tyK t tab fun y=>match y.sl with
   | true=>tyK y.el tab fun e=>match v with
    | .s j o n _=>Cd (0≤I∧I < n) (K (.p j (o+I.toNat*e.size)))
    | _=>F
   | false=>F
  | _=>F
 | .extract x k=>ev x fr fun v=>match v with
  | .t vs=>nth k vs K
  | _=>F
 | .binOp op t x y _=>ev x fr fun a=>ev y fr fun b=>bin tab t op a b K F
 | .unOp op _ x=>ev x fr fun a=>match op,a with
  | .not,.b t=>K (.b (!t))
  | .neg,.i k n=>Wr k (0 - n) fun z=>K (.i k z)
  | _,_=>F
 | .build t parts=>tyK t tab fun y=>match y.row with
  | true=>match y.flds with
   | []=>F
   | _::_=>bld tab y.flds fr parts.toList y.zero fun cs=>K (.a cs)
  | false=>F
 | .makeFunc (.func f) first captured=>match first.toList with
  | []=>evL captured.toList fr fun cs=>K (.f f cs)
  | _=>F
 | .convert s d x=>ev x fr fun v=>match v with
  | .i _ n=>tyK s tab fun _=>tyK d tab fun y=>match y.ik with
   | some k=>Wr k n fun z=>K (.i k z)
   | none=>F
  | _=>F
 | .call c=>match c.callee with
  | .builtin .len=>match c.args.toList,c.argTypes.toList with
   | [x],[t]=>tyK t tab fun y=>match y.sl with
    | true=>ev x fr fun v=>match v with
     | .s _ _ n _=>K (.i .i64 n)
     | .v (.slice _ n _)=>K (.i .i64 n)
     | _=>F
    | false=>F
   | _,_=>F
  | .builtin .min=>match c.args.toList with
   | [x,y]=>ev x fr fun a=>ev y fr fun b=>match a,b with
    | .i k x,.i _ y=>K (.i k (if y < x then y else x))
    | _,_=>F
   | _=>F
  | .builtin .max=>match c.args.toList with
   | [x,y]=>ev x fr fun a=>ev y fr fun b=>match a,b with
    | .i k x,.i _ y=>K (.i k (if y > x then y else x))
    | _,_=>F
   | _=>F
  | _=>F
 | _=>F
def ld (tab:Tab) (t:TypeId) (x:Operand) (s:St) (K:Nat→SV→Prop) (F:Prop):Prop :=
 ev x s.fr fun v=>match v with
 | .p j o=>nthR j s.m fun r=>match r.live with
  | true=>tyK t tab fun y=>match y.row with
   | true=>tkN o y.size r.cs fun l=>K j (.a l)
   | false=>nth o r.cs fun v=>K j v
  | false=>F
 | _=>F
def put (n:Nat) (d:Option Tmp) (v:SV) (s:St) (K:St→Prop):Prop :=
 match d with
 | none=>K s
 | some d=>match Nat.blt d n with
  | true=>match s with
   | ⟨fr,m,ob⟩=>K ⟨(d,v)::fr,m,ob⟩
  | false=>False
def stv (tab:Tab) (t:TypeId) (v:SV) (K:List SV→Prop) (F:Prop):Prop :=
 tyK t tab fun y=>match v with
 | .a l=>match y.row with
  | true=>match Nat.beq l.length y.size && l.all oneS with
   | true=>K l
   | false=>F
  | false=>F
 | v=>match y.row with
  | true=>F
  | false=>match oneS v with
   | true=>K [v]
   | false=>F
def nw (s:St) (t:TypeId) (cs:List SV) (K:Nat→St→Prop):Prop :=
 match s with
 | ⟨fr,m,ob⟩=>∀ g:Nat,lenR m 0 fun j=>appR m ⟨g,t,true,0,[],cs,[],true⟩ fun m=>K j ⟨fr,m,ob⟩
def me (tab:Tab) (n:Nat) (keep:List Nat) (o:Oper) (s:St) (K:St→Prop) (F:Prop):Prop :=
 match o.op with
 | .load t x=>ld tab t x s (fun _ v=>put n o.dst v s K) F
 | .store t x y=>ev x s.fr fun a=>ev y s.fr fun b=>match a with
  | .p j q=>match keep.elem j with
   | true=>False
   | false=>stv tab t b (fun vs=>setR j (fun r K=>match r.live with
     | true=>match r with
      | ⟨g,t,l,off,pre,cs,suf,rw⟩=>match rw with
       | true=>setN q vs cs fun cs=>K ⟨g,t,l,off,pre,cs,suf,rw⟩
       | false=>False
     | false=>False) s.m fun m=>match s with
     | ⟨fr,_,ob⟩=>put n o.dst (.v undef) ⟨fr,m,ob⟩ K) F
  | _=>F
 | .alloc t=>tyK t tab fun y=>nw s t y.zero fun j s=>put n o.dst (.p j 0) s K
 | .box t x=>ev x s.fr fun v=>match v with
  | .v x=>match x.oneCell' with
   | true=>nw s t (cellsS (.v x)) fun j s=>put n o.dst (.p j 0) s K
   | false=>F
  | v=>nw s t (cellsS v) fun j s=>put n o.dst (.p j 0) s K
 | _=>F
structure Cx where
 P:Program
 tab:Tab
 S:List Nat
 w0:World
 n:Nat
 ds:List Deferred
def rowA (m:List Row) (r:Row):Array Value:=el r.pre (denL m r.cs).toArray r.suf
structure Hold (X:Cx) (m:List Row) (ob:List Asr) (w:World):Prop where
 upd:Upd X.S X.w0 w
 row:∀ (j:Nat) (r:Row),m[j]?=some r→r.live=true→Blk w r.g r.t (rowA m r)
 wf:∀ (j:Nat) (r:Row),m[j]?=some r→r.live=true→okL m.length r.cs=true∧r.pre.length=r.off∧(r.rw=true→r.g∈X.S∨X.w0.heap.size≤r.g)
 ne:∀ (i j:Nat) (r q:Row),m[i]?=some r→m[j]?=some q→r.live=true→q.live=true→i≠j→r.g≠q.g
 obj:∀ A∈ob,A.st w
 far:∀ A∈ob,∀ (j:Nat) (r:Row),m[j]?=some r→r.live=true→r.g∉A.F
 own:∀ A∈ob,A.rw=true→∀ g∈A.F,g∈X.S∨X.w0.heap.size≤g
 dis:ob.Pairwise fun A B=>A.rw=true∨B.rw=true→∀ g∈A.F,g∉B.F
def FrOk (m:List Row) (tm:Array Value) (fr:List (Nat×SV)):Prop:=∀ k v,lkO k fr=some v→okV m.length v=true∧tm[k]?=some (den m v)
structure Rel (X:Cx) (s:St) (a:Act) (w:World):Prop where
 ds:a.defers=X.ds
 sz:a.tmps.size=X.n
 fr:FrOk s.m a.tmps s.fr
 h:Hold X s.m s.ob w
def Ext (m m':List Row):Prop:=∀ (j:Nat) (r:Row),m[j]?=some r→∃ r':Row,m'[j]?=some r'∧r'.g=r.g∧r'.off=r.off
def Qof (X:Cx) (K:Exit→St→Prop):Exit→Act→World→Prop
 | .normal,a,w=>∃ s,Rel X s a w∧K .normal s
 | .exit id,a,w=>∃ s,Rel X s a w∧K (.exit id) s
 | .ret,a,w=>∃ s,Rel X s a w∧K .ret s
 | _,_,_=>False
structure Sm (X:Cx) (c:Code) (s:St) (K:Exit→St→Prop):Prop where
 out:∀ (a:Act) w,Rel X s a w→c.wp X.P (Qof X K) a w
structure OpVC (X:Cx) (o:Oper) (s:St) (K:St→Prop):Prop where
 out:∀ (a:Act) w Q,Rel X s a w→o.wp X.P a w (fun a' w'=>∃ s',Rel X s' a' w'∧Ext s.m s'.m∧K s') Q
structure CallVC (X:Cx) (f:FuncId) (vs:List SV) (s:St) (K:SV→St→Prop):Prop where
 out:(∀ args w,(callFunc f args).run X.P w=.ok (.enter f args) w) ∧
 ∀ w,Hold X s.m s.ob w→Calls X.P f (denL s.m vs).toArray w fun e w'=>∃ v m' ob',e=.returned (den m' v)∧okV m'.length v=true∧Ext s.m m'∧Hold X m' ob' w'∧K v { fr:=s.fr,m:=m',ob:=ob' }
structure PuVC (X:Cx) (o:Oper) (s:St) (K:SV→Prop):Prop where
 out:∃ v,okV s.m.length v=true∧(∀ a:Act,FrOk s.m a.tmps s.fr→∀ w,(execOp a.eval o).run X.P w=.ok (.value (den s.m v)) w)∧K v
structure Kpt (keep:List Nat) (m0 m:List Row) (A:Prop):Prop where
 out:keep.map (fun j=>m0[j]?)=keep.map (fun j=>m[j]?)∧A
def appS:List SV→List SV→(List SV→Prop)→Prop
 | [],l,K=>K l
 | x::r,l,K=>appS r l fun l=>K (x::l)
def hd (X:Cx) (o:Oper) (s:St) (K:St→Prop):Prop :=
 match o.op with
 | .call c=>match c.callee with
  | .value f=>ev f s.fr fun v=>match v with
   | .f fid cs=>evL c.args.toList s.fr fun vs=>appS vs cs fun vs=>CallVC X fid vs s fun v s=>put X.n o.dst v s K
   | _=>OpVC X o s K
  | _=>OpVC X o s K
 | _=>OpVC X o s K
def exW (X:Cx) (keep:List Nat) (m0:List Row) (o:Oper) (s:St) (K:St→Prop):Prop :=
 pe X.tab o.op s.fr (fun v=>put X.n o.dst v s K) (me X.tab X.n keep o s K (hd X o s fun s=>match keep with
  | []=>K s
  | _::_=>Kpt keep m0 s.m (K s)))
def wantK (ops:List Oper) (g:Option (Nat×Bool)) (fr:List (Nat×SV)) (Y N:Prop):Prop :=
 match g with
 | none=>Y
 | some (j,b)=>match ops[j]? with
  | none=>N
  | some o=>match o.dst with
   | none=>N
   | some d=>lk d fr fun v=>match v with
    | .b t=>match b with
     | true=>Br t Y N
     | false=>Br t N Y
    | .v (.tuple _)=>N
    | _=>False
def steps (X:Cx) (ops:List Oper):List Oper→St→(St→Prop)→Prop
 | [],s,K=>K s
 | o::r,s,K=>wantK ops o.guard s.fr (exW X [] [] o s fun s=>steps X ops r s K) (put X.n o.dst (.v undef) s fun s=>steps X ops r s K)
inductive Pl where
 | done
 | tk (i:Nat) (r:Pl)
 | ef (i:Nat) (r:Pl)
 | fk (i j:Nat) (r q:Pl)
 | f3 (i j k:Nat) (r q t:Pl)
def isPure:Op→Bool
 | .move _ | .assign _ | .pick .. | .nilCheck _ | .fieldAddr .. | .field .. | .extract .. | .binOp .. | .unOp .. | .build .. | .makeFunc .. | .convert .. | .load .. | .slice .. | .indexAddr .. | .index .. | .makeInterface .. | .typeAssert ..=>true
 | .call c=>match c.callee with
  | .builtin .len | .builtin .min | .builtin .max | .builtin .cap=>true
  | _=>false
 | _=>false
def afM:List Edge→Nat
 | []=>0
 | e::r=>match Region.binds .any e with
  | true=>Nat.lor (2 ^ e.on) (afM r)
  | false=>afM r
def anno (ef:List Nat):Nat→List Oper→List (Nat×Nat×Bool)
 | _,[]=>[]
 | i,o::r=>(i,afM o.after.toList,isPure o.op && !ef.elem i)::anno ef (i+1) r
def isRdy (L:Nat) (q:Nat×Nat×Bool):Bool:=!(Nat.testBit L q.1) && Nat.beq (Nat.land q.2.1 L) q.2.1
def plan (qs:List (Nat×Nat×Bool)):Nat→Nat→Pl
 | 0,_=>.done
 | n+1,L=>match qs.find? (fun q=>q.2.2 && isRdy L q) with
  | some q=>.tk q.1 (plan qs n (Nat.lor L (2 ^ q.1)))
  | none=>match qs.filter (isRdy L) with
   | []=>.done
   | [q]=>.ef q.1 (plan qs n (Nat.lor L (2 ^ q.1)))
   | [q,r]=>.fk q.1 r.1 (plan qs n (Nat.lor L (2 ^ q.1))) (plan qs n (Nat.lor L (2 ^ r.1)))
   | q::r::t::_=>.f3 q.1 r.1 t.1 (plan qs n (Nat.lor L (2 ^ q.1))) (plan qs n (Nat.lor L (2 ^ r.1))) (plan qs n (Nat.lor L (2 ^ t.1)))
def planOf (ef:List Nat) (ops:List Oper):Pl:=plan (anno ef 0 ops) ops.length 0
def chk (ops:Array Oper):Nat→Array Bool→Pl→Bool
 | _,L,.done=>Region.ready .any ops L == []
 | n+1,L,.tk i r=>Region.free .any ops L i && (Region.ready .any ops L).contains i && chk ops n (L.setIfInBounds i true) r
 | n+1,L,.ef i r=>Region.ready .any ops L == [i] && chk ops n (L.setIfInBounds i true) r
 | n+1,L,.fk i j r q=>Region.ready .any ops L == [i,j] && chk ops n (L.setIfInBounds i true) r && chk ops n (L.setIfInBounds j true) q
 | n+1,L,.f3 i j k r q t=>Region.ready .any ops L == [i,j,k] && chk ops n (L.setIfInBounds i true) r && chk ops n (L.setIfInBounds j true) q && chk ops n (L.setIfInBounds k true) t
 | 0,_,_=>false
def hasE (ops:List Oper) (k i:Nat):Bool:=match ops[k]? with
 | none=>false
 | some o=>o.after.toList.any fun e=>Region.binds .any e && Nat.beq e.on i
def mayLd (ops:List Oper) (sts:List (Nat×Nat)) (don:List Nat) (i j:Nat):Bool :=
 !(don.elem j) && sts.all fun q=>!(Nat.beq q.2 j) || hasE ops q.1 i
def subK (don:List Nat):List Nat→(List Nat→Prop)→Prop
 | [],K=>K []
 | j::r,K=>match don.elem j with
  | true=>subK don r K
  | false=>subK don r fun l=>K (j::l)
def stoJ (sts:List (Nat×Nat)) (i:Nat):Option Nat:=match sts with
 | []=>none
 | (k,j)::r=>match Nat.beq k i with
  | true=>some j
  | false=>stoJ r i
def exE (X:Cx) (all:List Nat) (m0:List Row) (sts:List (Nat×Nat)) (don:List Nat) (i:Nat) (o:Oper) (s:St) (K:List Nat→St→Prop):Prop :=
 match o.op with
 | .store _ _ _=>match stoJ sts i with
  | none=>subK don all fun keep=>exW X keep m0 o s (K don)
  | some j=>subK (j::don) all fun keep=>me X.tab X.n keep o s (K (j::don)) False
 | _=>subK don all fun keep=>exW X keep m0 o s (K don)
def isSt:Op→Bool
 | .store _ _ _=>true
 | _=>false
def exD (X:Cx) (ops:List Oper) (all:List Nat) (m0:List Row) (sts:List (Nat×Nat)):Pl→List Nat→St→(St→Prop)→Prop
 | .done,_,s,K=>K s
 | .tk i r,don,s,K=>match ops[i]? with
  | none=>False
  | some o=>match isSt o.op with
   | true=>False
   | false=>wantK ops o.guard s.fr
    (pe X.tab o.op s.fr (fun v=>put X.n o.dst v s fun s=>exD X ops all m0 sts r don s K) (match o.op with
     | .load t x=>ld X.tab t x s (fun j v=>match Nat.blt j m0.length && mayLd ops sts don i j with
      | true=>put X.n o.dst v s fun s=>exD X ops all m0 sts r don s K
      | false=>False) False
     | _=>PuVC X o s fun v=>put X.n o.dst v s fun s=>exD X ops all m0 sts r don s K))
    (put X.n o.dst (.v undef) s fun s=>exD X ops all m0 sts r don s K)
 | .ef i r,don,s,K=>match ops[i]? with
  | none=>False
  | some o=>wantK ops o.guard s.fr (exE X all m0 sts don i o s fun don s=>exD X ops all m0 sts r don s K) (put X.n o.dst (.v undef) s fun s=>exD X ops all m0 sts r don s K)
 | .fk i j r q,don,s,K=>(match ops[i]? with
  | none=>False
  | some o=>wantK ops o.guard s.fr (exE X all m0 sts don i o s fun don s=>exD X ops all m0 sts r don s K) (put X.n o.dst (.v undef) s fun s=>exD X ops all m0 sts r don s K)) ∧
  (match ops[j]? with
  | none=>False
  | some o=>wantK ops o.guard s.fr (exE X all m0 sts don j o s fun don s=>exD X ops all m0 sts q don s K) (put X.n o.dst (.v undef) s fun s=>exD X ops all m0 sts q don s K))
 | .f3 i j k r q t,don,s,K=>(match ops[i]? with
  | none=>False
  | some o=>wantK ops o.guard s.fr (exE X all m0 sts don i o s fun don s=>exD X ops all m0 sts r don s K) (put X.n o.dst (.v undef) s fun s=>exD X ops all m0 sts r don s K)) ∧
  (match ops[j]? with
  | none=>False
  | some o=>wantK ops o.guard s.fr (exE X all m0 sts don j o s fun don s=>exD X ops all m0 sts q don s K) (put X.n o.dst (.v undef) s fun s=>exD X ops all m0 sts q don s K)) ∧
  (match ops[k]? with
  | none=>False
  | some o=>wantK ops o.guard s.fr (exE X all m0 sts don k o s fun don s=>exD X ops all m0 sts t don s K) (put X.n o.dst (.v undef) s fun s=>exD X ops all m0 sts t don s K))
def allK:List Row→Nat→(List Nat→Prop)→Prop
 | [],_,K=>K []
 | _::m,i,K=>allK m (i+1) fun l=>K (i::l)
def dfO (k:Nat):List Oper→Option Op
 | []=>none
 | o::r=>match o.dst with
  | some d=>match Nat.beq d k with
   | true=>some o.op
   | false=>dfO k r
  | none=>dfO k r
def rowO (ops:List Oper) (fr:List (Nat×SV)):Nat→Nat→Option Nat
 | 0,_=>none
 | n+1,k=>match dfO k ops with
  | some (.fieldAddr _ (.tmp b) _)=>rowO ops fr n b
  | some (.nilCheck (.tmp b))=>rowO ops fr n b
  | some (.move (.tmp b))=>rowO ops fr n b
  | some (.indexAddr _ _ _)=>some 1
  | some (.load _ _)=>some 1
  | some _=>none
  | none=>match lkO k fr with
   | some (.p j _)=>some j
   | _=>none
def stoK (ef:List Nat) (ops:List Oper) (fr:List (Nat×SV)):Nat→List Oper→(List (Nat×Nat)→Prop)→Prop
 | _,[],K=>K []
 | i,o::r,K=>match o.op with
  | .store _ (.tmp k) _=>match rowO ops fr 9 k with
   | some j=>match ef.elem i with
    | true=>stoK ef ops fr (i+1) r K
    | false=>stoK ef ops fr (i+1) r fun l=>K ((i,j)::l)
   | none=>stoK ef ops fr (i+1) r K
  | _=>stoK ef ops fr (i+1) r K
def inB (id:Nat) (K:Exit→St→Prop) (e:Exit) (s:St):Prop :=
 match e with
 | .exit j=>match Nat.beq j id with
  | true=>K .normal s
  | false=>K (.exit j) s
 | e=>K e s
def sq (K:Exit→St→Prop) (N:St→Prop) (e:Exit) (s:St):Prop :=
 match e with
 | .normal=>N s
 | e=>K e s
def isReg:Code→Bool
 | .region _ _ _=>true
 | _=>false
def run (X:Cx):Code→St→(Exit→St→Prop)→Prop
 | .skip,s,K=>K .normal s
 | .region id ops d,s,K=>match d with
  | false=>steps X ops.toList ops.toList s (K .normal)
  | true=>Sm X (.region id ops true) s K
 | .seq a b,s,K=>match isReg a with
  | true=>run X a s (sq K fun s=>run X b s K)
  | false=>Sm X (.seq a b) s K
 | .cond c a b,s,K=>ev c s.fr fun v=>match v with
  | .b t=>Br t (run X a s K) (run X b s K)
  | _=>False
 | .block id c,s,K=>run X c s (inB id K)
 | .loop c,s,K=>Sm X (.loop c) s K
 | .exit id,s,K=>K (.exit id) s
 | .ret,s,K=>K .ret s
 | c,s,K=>Sm X c s K
end En
namespace En
open Go.RowKit Ba Mem
theorem Ext.refl (m:List Row):Ext m m:=fun _ r h=>⟨r,h,rfl,rfl⟩
theorem Ext.trans {a b c:List Row} (h:Ext a b) (k:Ext b c):Ext a c:=fun j r hj=>by
 obtain ⟨r1,h1,h2,h3⟩:=h j r hj
 obtain ⟨r2,k1,k2,k3⟩:=k j r1 h1
 exact ⟨r2,k1,k2.trans h2,k3.trans h3⟩
theorem Ext.app (m l:List Row):Ext m (m++l):=fun j r h=>⟨r,by rw [List.getElem?_append_left (List.getElem?_eq_some_iff.1 h).1]; exact h,rfl,rfl⟩
theorem Ext.set {m:List Row} {j:Nat} {r:Row} (h:m[j]?=some r) (cs:List SV):Ext m (m.set j { r with cs:=cs }):=fun i q hq=>by
 by_cases e:j=i
 ·subst e; rw [h] at hq; cases hq
  exact ⟨{ r with cs:=cs },by rw [List.getElem?_set_self (List.getElem?_eq_some_iff.1 h).1],rfl,rfl⟩
 ·exact ⟨q,by rw [List.getElem?_set_ne e]; exact hq,rfl,rfl⟩
theorem Ext.len {m m':List Row} (h:Ext m m'):m.length≤m'.length:=by
 rcases Nat.lt_or_ge m'.length m.length with hl | hl
 ·obtain ⟨r,h1,_⟩:=h m'.length m[m'.length] (List.getElem?_eq_getElem hl)
  have:=(List.getElem?_eq_some_iff.1 h1).1
  omega
 ·exact hl
section
variable {m m':List Row}
mutual
theorem den_ext (h:Ext m m'):∀ v:SV,okV m.length v=true→den m' v=den m v
 | .v _,_=>rfl
 | .i _ _,_=>rfl
 | .b _,_=>rfl
 | .p j o,hv=>by
  have hj:j < m.length:=by simpa [okV] using hv
  obtain ⟨r,h1,h2,h3⟩:=h j _ (List.getElem?_eq_getElem hj)
  simp only [den,h1,List.getElem?_eq_getElem hj,h2,h3]
 | .s j o n c,hv=>by
  have hj:j < m.length:=by simpa [okV] using hv
  obtain ⟨r,h1,h2,h3⟩:=h j _ (List.getElem?_eq_getElem hj)
  simp only [den,h1,List.getElem?_eq_getElem hj,h2,h3]
 | .f fn cs,hv=>by simp only [den]; rw [denL_ext h cs hv]
 | .a cs,hv=>by simp only [den]; rw [denL_ext h cs hv]
 | .t cs,hv=>by simp only [den]; rw [denL_ext h cs hv]
theorem denL_ext (h:Ext m m'):∀ l:List SV,okL m.length l=true→denL m' l=denL m l
 | [],_=>rfl
 | x::r,hv=>by
  simp only [okL,Bool.and_eq_true] at hv
  simp only [denL,den_ext h x hv.1,denL_ext h r hv.2]
end
mutual
theorem okV_mono {a b:Nat} (h:a≤b):∀ v:SV,okV a v=true→okV b v=true
 | .v _,_=>rfl
 | .i _ _,_=>rfl
 | .b _,_=>rfl
 | .p j o,hv=>by simp [okV] at hv ⊢; omega
 | .s j o n c,hv=>by simp [okV] at hv ⊢; omega
 | .f fn cs,hv=>okL_mono h cs hv
 | .a cs,hv=>okL_mono h cs hv
 | .t cs,hv=>okL_mono h cs hv
theorem okL_mono {a b:Nat} (h:a≤b):∀ l:List SV,okL a l=true→okL b l=true
 | [],_=>rfl
 | x::r,hv=>by
  simp only [okL,Bool.and_eq_true] at hv ⊢
  exact ⟨okV_mono h x hv.1,okL_mono h r hv.2⟩
end
theorem denL_len:∀ l:List SV,(denL m l).length=l.length
 | []=>rfl
 | _::r=>by simp [denL,denL_len r]
theorem denL_get:∀ (l:List SV) (k:Nat),(denL m l)[k]?=(l[k]?).map (den m)
 | [],_=>rfl
 | _::_,0=>rfl
 | _::r,k+1=>by simp [denL,denL_get r k]
theorem denL_app:∀ l k:List SV,denL m (l++k)=denL m l++denL m k
 | [],_=>rfl
 | x::r,k=>by simp [denL,denL_app r k]
theorem denL_drop:∀ (l:List SV) (k:Nat),(denL m l).drop k=denL m (l.drop k)
 | [],k=>by simp [denL]
 | x::r,0=>rfl
 | x::r,k+1=>by simp [denL,denL_drop r k]
theorem denL_take:∀ (l:List SV) (k:Nat),(denL m l).take k=denL m (l.take k)
 | [],k=>by simp [denL]
 | x::r,0=>rfl
 | x::r,k+1=>by simp [denL,denL_take r k]
theorem okL_mem {n:Nat}:∀ {l:List SV},okL n l=true↔∀ v∈l,okV n v=true
 | []=>by simp [okL]
 | x::r=>by simp [okL,okL_mem (l:=r)]
theorem okL_app {n:Nat} {l k:List SV} (h:okL n l=true) (h':okL n k=true):okL n (l++k)=true:=by
 rw [okL_mem] at *; intro v hv; rcases List.mem_append.1 hv with q | q; exact h v q; exact h' v q
theorem okL_at {n k:Nat} {l:List SV} {v:SV} (h:okL n l=true) (hv:l[k]?=some v):okV n v=true:=okL_mem.1 h v (List.mem_of_getElem? hv)
theorem okL_sub {n:Nat} {l k:List SV} (h:okL n l=true) (hs:∀ v∈k,v∈l):okL n k=true:=okL_mem.2 fun v hv=>okL_mem.1 h v (hs v hv)
end
section
variable {K:SV→Prop} {KL:List SV→Prop}
theorem lk_of {k:Nat}:∀ {fr:List (Nat×SV)},lk k fr K→∃ v,lkO k fr=some v∧K v
 | [],h=>h.elim
 | (j,v)::r,h=>by
  unfold lk at h; unfold lkO
  cases hb:Nat.beq j k with
  | true=>rw [hb] at h; exact ⟨v,rfl,h⟩
  | false=>rw [hb] at h; exact lk_of h
theorem tyK_of {t:Nat} {K:Ty→Prop}:∀ {tab:Tab},tyK t tab K→∃ y,tyO t tab=some y∧K y
 | [],h=>h.elim
 | (j,v)::r,h=>by
  unfold tyK at h; unfold tyO
  cases hb:Nat.beq j t with
  | true=>rw [hb] at h; exact ⟨v,rfl,h⟩
  | false=>rw [hb] at h; exact tyK_of h
theorem nth_of:∀ {k:Nat} {l:List SV},nth k l K→∃ v,l[k]?=some v∧K v
 | 0,[],h=>h.elim
 | _+1,[],h=>h.elim
 | 0,v::_,h=>⟨v,rfl,h⟩
 | k+1,_::r,h=>by obtain ⟨v,hv,hK⟩:=nth_of (k:=k) (l:=r) h; exact ⟨v,by simpa using hv,hK⟩
theorem nthR_of {K:Row→Prop}:∀ {k:Nat} {l:List Row},nthR k l K→∃ v,l[k]?=some v∧K v
 | 0,[],h=>h.elim
 | _+1,[],h=>h.elim
 | 0,v::_,h=>⟨v,rfl,h⟩
 | k+1,_::r,h=>by obtain ⟨v,hv,hK⟩:=nthR_of (k:=k) (l:=r) h; exact ⟨v,by simpa using hv,hK⟩
theorem tk_of:∀ {n:Nat} {l:List SV} {KL:List SV→Prop},tk n l KL→n≤l.length∧KL (l.take n)
 | 0,l,_,h=>⟨Nat.zero_le _,by cases l <;> (unfold tk at h; simpa using h)⟩
 | _+1,[],_,h=>h.elim
 | n+1,x::r,KL,h=>by obtain ⟨h1,h2⟩:=tk_of (n:=n) (l:=r) h; exact ⟨by simp; omega,by simpa using h2⟩
theorem tkN_of:∀ {k n:Nat} {l:List SV},tkN k n l KL→k+n≤l.length∧KL ((l.drop k).take n)
 | 0,n,l,h=>by obtain ⟨h1,h2⟩:=tk_of (show tk n l KL by cases l <;> exact h); exact ⟨by omega,by simpa using h2⟩
 | _+1,_,[],h=>h.elim
 | k+1,n,_::r,h=>by obtain ⟨h1,h2⟩:=tkN_of (k:=k) (n:=n) (l:=r) h; exact ⟨by simp; omega,by simpa using h2⟩
def lay (q:Nat) (vs l:List SV):List SV:=l.take q++vs++l.drop (q+vs.length)
theorem setN_of:∀ {q:Nat} {vs l:List SV} {KL:List SV→Prop},setN q vs l KL→q+vs.length≤l.length∧KL (lay q vs l)
 | 0,[],l,_,h=>⟨by simp,by cases l <;> (unfold setN at h; simpa [lay] using h)⟩
 | 0,_::_,[],_,h=>h.elim
 | 0,v::vs,x::r,KL,h=>by
  obtain ⟨h1,h2⟩:=setN_of (q:=0) (vs:=vs) (l:=r) h
  refine ⟨by simp at *; omega, ?_⟩
  simpa [lay] using h2
 | _+1,_,[],_,h=>h.elim
 | k+1,vs,x::r,KL,h=>by
  obtain ⟨h1,h2⟩:=setN_of (q:=k) (vs:=vs) (l:=r) h
  refine ⟨by simp; omega, ?_⟩
  have:k+1+vs.length=k+vs.length+1:=by omega
  simpa [lay,this] using h2
theorem setR_of {f:Row→(Row→Prop)→Prop}:∀ {j:Nat} {m:List Row} {K:List Row→Prop},setR j f m K→∃ r,m[j]?=some r∧f r fun r'=>K (m.set j r')
 | 0,[],_,h=>h.elim
 | _+1,[],_,h=>h.elim
 | 0,r::m,_,h=>⟨r,rfl,h⟩
 | k+1,x::m,K,h=>by obtain ⟨r,hr,hf⟩:=setR_of (j:=k) (m:=m) h; exact ⟨r,by simpa using hr,hf⟩
theorem appR_of {r:Row}:∀ {m:List Row} {K:List Row→Prop},appR m r K→K (m++[r])
 | [],_,h=>h
 | x::m,K,h=>by have:=appR_of (m:=m) h; simpa using this
theorem lenR_of:∀ {m:List Row} {n:Nat} {K:Nat→Prop},lenR m n K→K (n+m.length)
 | [],_,_,h=>h
 | x::m,n,K,h=>by have:=lenR_of (m:=m) h; simpa [Nat.add_assoc,Nat.add_comm 1] using this
theorem appS_of:∀ {l k:List SV} {KL:List SV→Prop},appS l k KL→KL (l++k)
 | [],_,_,h=>h
 | x::r,k,KL,h=>by have:=appS_of (l:=r) h; simpa using this
end
section
variable {m:List Row} {tm:Array Value} {a:Act} {fr:List (Nat×SV)} {x:Operand} {K:SV→Prop}
theorem evc_of {c:Value} (h:evc c K):∃ v,okV m.length v=true∧c=den m v∧K v:=by
 unfold evc at h
 split at h
 ·exact ⟨_,rfl,rfl,h⟩
 ·exact ⟨_,rfl,rfl,h⟩
 ·exact ⟨_,rfl,rfl,h⟩
theorem ev_of (hf:FrOk m a.tmps fr) (h:ev x fr K):∃ v,okV m.length v=true∧a.eval x=den m v∧K v:=by
 cases x with
 | tmp t =>
  obtain ⟨v,hv,hK⟩:=lk_of h
  obtain ⟨h1,h2⟩:=hf t v hv
  exact ⟨v,h1,by simp [Act.eval,h2],hK⟩
 | const c=>exact evc_of h
 | global g=>exact ⟨_,rfl,rfl,h⟩
 | func f=>exact ⟨_,rfl,rfl,h⟩
theorem evL_of (hf:FrOk m a.tmps fr):∀ {xs:List Operand} {K:List SV→Prop},evL xs fr K→∃ l,okL m.length l=true∧xs.map a.eval=denL m l∧K l
 | [],_,h=>⟨[],rfl,rfl,h⟩
 | x::r,K,h=>by
  obtain ⟨v,h1,h2,h3⟩:=ev_of hf h
  obtain ⟨l,k1,k2,k3⟩:=evL_of hf h3
  exact ⟨v::l,by simp [okL,h1,k1],by simp [denL,h2,k2],k3⟩
end
end En
namespace En
open Go.RowKit Ba Mem
def fldChk (P:Program):List Field→List (Nat×Nat×Bool)→Bool
 | [],[]=>true
 | f::fs,q::qs=>Nat.beq f.offset q.1 && (match P.info? f.type,P.underlying f.type with
  | some i,some d=>Nat.beq i.size q.2.1 && !(Nat.beq q.2.1 0) && (d.isRow == q.2.2) && (q.2.2 || Nat.beq q.2.1 1)
  | _,_=>false) && fldChk P fs qs
 | _,_=>false
def flatF (P:Program) (g:TypeId→Option (List Bool)):List Field→Nat→Option (List Bool)
 | [],_=>some []
 | f::fs,off=>match f.name == "_" || !(Nat.beq f.offset off) with
  | true=>none
  | false=>match P.info? f.type,P.underlying f.type,g f.type with
   | some i,some d,some l=>match Nat.beq i.size l.length && (d.isRow || Nat.beq l.length 1) with
    | true=>match flatF P g fs (off+l.length) with
     | some r=>some (l++r)
     | none=>none
    | false=>none
   | _,_,_=>none
def flatT (P:Program):Nat→TypeId→Option (List Bool)
 | 0,_=>none
 | n+1,t=>match P.underlying t with
  | some (.int _)=>some [true]
  | some .bool=>some [false]
  | some (.struct fs)=>match P.stoodInHeld t with
   | true=>none
   | false=>flatF P (flatT P n) fs.toList 0
  | _=>none
def undChk (P:Program) (t:TypeId) (y:Ty):Bool :=
 match P.underlying t,P.info? t with
 | some d,some i=>(d.isRow == y.row) && Nat.beq i.size y.size && Nat.beq y.zero.length y.size && okL 0 y.zero && (y.row || (Nat.beq y.size 1 && y.zero.all oneS)) &&
  (match d with | .struct fs=>fldChk P fs.toList y.flds | _=>y.flds.isEmpty) &&
  (match d with | .slice e=>y.sl && Nat.beq e y.el | _=>!y.sl) &&
  (match d with | .int k=>y.ik == some k | _=>y.ik == none) &&
  (match d with | .pointer _=>true | _=>!y.pt) &&
  (match y.eqk with | []=>true | l=>flatT P 10 t == some l && !(P.eqGuardType P.depth t))
 | _,_=>false
def zeroV (y:Ty):Value :=
 match y.row with
 | true=>.agg (denL [] y.zero).toArray
 | false=>match y.zero with
  | [v]=>den [] v
  | _=>undef
structure TyOk (P:Program) (t:TypeId) (y:Ty):Prop where
 und:undChk P t y=true
 zero:(P.info? t).bind (·.zero)=some (zeroV y)
def TabOk (P:Program) (tab:Tab):Prop:=∀ t y,tyO t tab=some y→TyOk P t y
theorem TabOk.nil {P:Program}:TabOk P []:=fun _ _ h=>by cases h
theorem TabOk.cons {P:Program} {t:TypeId} {y:Ty} {r:Tab} (h:TyOk P t y) (k:TabOk P r):TabOk P ((t,y)::r):=fun u z hz=>by
 unfold tyO at hz
 cases hb:Nat.beq t u with
 | true=>rw [hb] at hz; have:=Nat.eq_of_beq_eq_true hb; subst this; cases hz; exact h
 | false=>rw [hb] at hz; exact k u z hz
theorem fld_of {P:Program}:∀ {fs:List Field} {qs:List (Nat×Nat×Bool)},fldChk P fs qs=true→fs.length=qs.length∧∀ (k:Nat) (q:Nat×Nat×Bool),qs[k]?=some q→∃ (f:Field) (i:TypeInfo) (d:TypeDesc),fs[k]?=some f∧f.offset=q.1∧P.info? f.type=some i∧P.underlying f.type=some d∧i.size=q.2.1∧q.2.1≠0∧d.isRow=q.2.2∧(q.2.2=false→q.2.1=1)
 | [],[],_=>⟨rfl,fun k q h=>by simp at h⟩
 | [],_::_,h=>by simp [fldChk] at h
 | _::_,[],h=>by simp [fldChk] at h
 | f::fs,q::qs,h=>by
  unfold fldChk at h
  simp only [Bool.and_eq_true] at h
  obtain ⟨⟨h1,h2⟩,h3⟩:=h
  obtain ⟨k1,k2⟩:=fld_of h3
  refine ⟨by simp [k1],fun k q' hq=>?_⟩
  cases k with
  | zero =>
   simp at hq; subst hq
   cases hi:P.info? f.type with
   | none=>simp [hi] at h2
   | some i =>
    cases hu:P.underlying f.type with
    | none=>simp [hi,hu] at h2
    | some d =>
     simp [hi,hu] at h2
     exact ⟨f,i,d,rfl,Nat.eq_of_beq_eq_true h1,hi,hu,h2.1.1.1,(by intro h0; rw [h0] at h2; exact absurd h2.1.1.2 (by decide)),h2.1.2,fun hf=>by rcases h2.2 with h | h; rw [hf] at h; cases h; exact h⟩
  | succ k=>simpa using k2 k q' (by simpa using hq)
structure TyOut (P:Program) (t:TypeId) (y:Ty) (d:TypeDesc) (i:TypeInfo):Prop where
 un:P.underlying t=some d
 inf:P.info? t=some i
 row:d.isRow=y.row
 size:i.size=y.size
 zlen:y.zero.length=y.size
 zok:okL 0 y.zero=true
 one:y.row=false→y.size=1
 zone:y.row=false→∀ v,y.zero[0]?=some v→oneS v=true
 st:∀ (k:Nat) (q:Nat×Nat×Bool),y.flds[k]?=some q→∃ fs,d=.struct fs∧fldChk P fs.toList y.flds=true
 sl:y.sl=true→d=.slice y.el
 ik:∀ k,y.ik=some k→d=.int k
 pt:y.pt=true→∃ e,d=.pointer e
 eqk:y.eqk≠[]→flatT P 10 t=some y.eqk∧P.eqGuardType P.depth t=false
 zero:i.zero=some (zeroV y)
theorem TyOk.out {P:Program} {t:TypeId} {y:Ty} (h:TyOk P t y):∃ d i,TyOut P t y d i:=by
 have hu:=h.und
 unfold undChk at hu
 split at hu
 ·rename_i d i h1 h2
  simp only [Bool.and_eq_true,beq_iff_eq] at hu
  obtain ⟨⟨⟨⟨⟨⟨⟨⟨⟨a1,a2⟩,a3⟩,a4⟩,a8⟩,a5⟩,a6⟩,a7⟩,a9⟩,a10⟩:=hu
  refine ⟨d,i,h1,h2,a1,Nat.eq_of_beq_eq_true a2,Nat.eq_of_beq_eq_true a3,a4,fun hf=>by rw [hf] at a8; simp only [Bool.false_or,Bool.and_eq_true] at a8; exact Nat.eq_of_beq_eq_true a8.1,fun hf v hv=>by rw [hf] at a8; simp only [Bool.false_or,Bool.and_eq_true,List.all_eq_true] at a8; exact a8.2 v (List.mem_of_getElem? hv),fun k q hq=>?_,fun hs=>?_,fun k hk=>?_,fun hp=>?_,fun he=>?_, ?_⟩
  ·cases d <;> simp_all
  ·cases d <;> simp_all
  ·cases d <;> simp_all
  ·cases d <;> simp_all
  ·split at a10
   ·rename_i e; exact absurd e he
   ·simpa using a10
  ·have:=h.zero; rw [h2] at this; simpa using this
 ·cases hu
theorem ikeq_of {a b:IntKind} (h:ikeq a b=true):a=b:=by cases a <;> cases b <;> first | rfl | cases h
section
variable {P:Program} {tab:Tab} {m:List Row} {a:Act} {fr:List (Nat×SV)} {o:Oper} {K:SV→Prop} {F:Prop}
def Yl (P:Program) (m:List Row) (a:Act) (o:Oper) (K:SV→Prop) (F:Prop):Prop :=
 F∨∃ v,okV m.length v=true∧(∀ w,(execOp a.eval o).run P w=.ok (.value (den m v)) w)∧K v
theorem run_part_row {t:TypeId} {d:TypeDesc} {i:TypeInfo} {off n:Nat} {l:List SV} (hu:P.underlying t=some d) (hi:P.info? t=some i) (hr:d.isRow=true) (hn:i.size=n) (w:World) :
  (part t (denL m l).toArray off).run P w=.ok (.agg (denL m ((l.drop off).take n)).toArray) w:=by
 have ha:(isAgg t).run P w=.ok true w:=by cases d <;> simp_all [isAgg,underlying,TypeDesc.isRow]
 simp only [part,Sem.run_bind,ha,Result.andThen_ok,if_true,sizeOf,typeInfo]
 simp [hi,hn,← denL_take,← denL_drop,List.take_drop]
theorem run_part_cell {t:TypeId} {d:TypeDesc} {off:Nat} {l:List SV} {v:SV} (hu:P.underlying t=some d) (hr:d.isRow=false) (hv:l[off]?=some v) (w:World) :
  (part t (denL m l).toArray off).run P w=.ok (den m v) w:=by
 have ha:(isAgg t).run P w=.ok false w:=by cases d <;> simp_all [isAgg,underlying,TypeDesc.isRow]
 have hg:(denL m l)[off]?=some (den m v):=by rw [denL_get,hv]; rfl
 simp only [part,Sem.run_bind,ha,Result.andThen_ok]
 simp [hg]
theorem binI_of {op:BinOp} {t u:TypeId} {x y:Operand} {k:IntKind} {p q:Int} (ho:o.op=.binOp op t x y u) (hx:a.eval x=.int k p) (hy:a.eval y=.int k q) (h:binI op k p q K F):Yl P m a o K F:=by
  unfold binI at h
  split at h
  all_goals first
    | exact .inl h
    | (refine .inr ⟨_,rfl,fun w=>?_,(by first | exact h | (replace h:=h.out; exact h))⟩
       unfold execOp
       simp [ho,hx,hy,den,eqGuard,binOp,Op.intArith,Op.intCmp,Op.intBits,bitI])
    | (replace h:=h.out
       refine .inr ⟨_,rfl,fun w=>?_,(by first | exact h.2 | (have h2:=h.2; replace h2:=h2.out; exact h2))⟩
       have h1:=h.1
       unfold execOp
       simp [ho,hx,hy,den,eqGuard,binOp,Op.intDiv,h1])
theorem eqK_len:∀ {ks:List Bool} {xs ys:List SV} {K:Bool→Prop},eqK ks xs ys K→xs.length=ks.length∧ys.length=ks.length
 | [],[],[],_,_=>⟨rfl,rfl⟩
 | true::ks,.i k x::r,.i k' y::q,K,h=>by
  unfold eqK at h
  split at h
  ·obtain ⟨h1,h2⟩:=eqK_len h; exact ⟨by simp [h1],by simp [h2]⟩
  ·exact h.elim
 | false::ks,.b x::r,.b y::q,K,h=>by
  unfold eqK at h
  obtain ⟨h1,h2⟩:=eqK_len h; exact ⟨by simp [h1],by simp [h2]⟩
def eqA:List SV→List SV→Bool
 | .i _ x::r,.i _ y::q=>(x == y) && eqA r q
 | .b x::r,.b y::q=>(x == y) && eqA r q
 | _,_=>true
theorem eqK_mono:∀ {ks:List Bool} {xs ys:List SV} {K K':Bool→Prop},(∀ b,K b→K' b)→eqK ks xs ys K→eqK ks xs ys K'
 | [],[],[],_,_,hm,h=>hm _ h
 | true::ks,.i k x::r,.i k' y::q,K,K',hm,h=>by
  unfold eqK at h ⊢
  cases hk:ikeq k k' with
  | true=>rw [hk] at h; exact eqK_mono (fun b hb=>hm _ hb) h
  | false=>rw [hk] at h; exact h.elim
 | false::ks,.b x::r,.b y::q,K,K',hm,h=>by
  unfold eqK at h ⊢
  exact eqK_mono (fun b hb=>hm _ hb) h
theorem eqK_val:∀ {ks:List Bool} {xs ys:List SV} {K:Bool→Prop},eqK ks xs ys K→eqK ks xs ys (fun b=>b=eqA xs ys)∧K (eqA xs ys)
 | [],[],[],_,h=>⟨rfl,h⟩
 | true::ks,.i k x::r,.i k' y::q,K,h=>by
  unfold eqK at h ⊢
  cases hk:ikeq k k' with
  | true=>rw [hk] at h; obtain ⟨h1,h2⟩:=eqK_val h; exact ⟨eqK_mono (fun b hb=>by rw [hb]; rfl) h1,h2⟩
  | false=>rw [hk] at h; exact h.elim
 | false::ks,.b x::r,.b y::q,K,h=>by
  unfold eqK at h ⊢
  obtain ⟨h1,h2⟩:=eqK_val h
  exact ⟨eqK_mono (fun b hb=>by rw [hb]; rfl) h1,h2⟩
def cellsV (d:TypeDesc) (m:List Row) (xs:List SV):Value:=match d.isRow with
 | true=>.agg (denL m xs).toArray
 | false=>match xs with
  | [v]=>den m v
  | _=>undef
theorem part_cellsV {t:TypeId} {d:TypeDesc} {i:TypeInfo} {off n:Nat} {l:List SV} (hu:P.underlying t=some d) (hi:P.info? t=some i) (hn:i.size=n) (h1:d.isRow=false→n=1) (hle:off+n≤l.length) (w:World) :
  (part t (denL m l).toArray off).run P w=.ok (cellsV d m ((l.drop off).take n)) w:=by
 cases hr:d.isRow with
 | true=>rw [run_part_row hu hi hr hn]; simp only [cellsV,hr]
 | false =>
  have:=h1 hr
  subst this
  have hv:l[off]?=some (l[off]'(by omega)):=List.getElem?_eq_getElem _
  rw [run_part_cell hu hr hv]
  have:(l.drop off).take 1=[l[off]'(by omega)]:=by
   rw [List.drop_eq_getElem_cons (by omega)]; rfl
  simp only [cellsV,hr,this]
theorem eqK_split {k2:List Bool}:∀ {k1:List Bool} {xs ys:List SV} {K:Bool→Prop},eqK (k1++k2) xs ys K→eqK k1 (xs.take k1.length) (ys.take k1.length) fun b=>eqK k2 (xs.drop k1.length) (ys.drop k1.length) fun c=>K (b && c)
 | [],xs,ys,K,h=>by simpa [eqK] using h
 | true::ks,.i k x::r,.i k' y::q,K,h=>by
  simp only [List.cons_append,eqK] at h
  simp only [List.length_cons,List.take_succ_cons,List.drop_succ_cons,eqK]
  cases hk:ikeq k k' with
  | true=>rw [hk] at h; have:=eqK_split h; simpa [Bool.and_assoc] using this
  | false=>rw [hk] at h; exact h.elim
 | false::ks,.b x::r,.b y::q,K,h=>by
  simp only [List.cons_append,eqK] at h
  simp only [List.length_cons,List.take_succ_cons,List.drop_succ_cons,eqK]
  have:=eqK_split h; simpa [Bool.and_assoc] using this
theorem flat_of {w:World}:∀ {n:Nat} {t:TypeId} {d:TypeDesc} {ks:List Bool} {xs ys:List SV} {K:Bool→Prop} (e:Nat),P.underlying t=some d→flatT P n t=some ks→(d.isRow=false→ks.length=1)→eqK ks xs ys K →
  ∃ b,(Op.equalIn (e+n) t (cellsV d m xs) (cellsV d m ys)).run P w=.ok b w∧K b
 | 0,_,_,_,_,_,_,_,_,h,_,_=>by simp [flatT] at h
 | n+1,t,d,ks,xs,ys,K,e,hu,hf,h1,h=>by
  unfold flatT at hf
  rw [hu] at hf
  cases d with
  | int k =>
   simp at hf; subst hf
   obtain ⟨l1,l2⟩:=eqK_len h
   obtain ⟨x,rfl⟩:=List.length_eq_one_iff.1 l1
   obtain ⟨y,rfl⟩:=List.length_eq_one_iff.1 l2
   cases x <;> cases y <;> simp only [eqK] at h
   split at h
   ·rename_i hk
    have:=ikeq_of hk
    subst this
    simp only [Bool.and_true] at h
    exact ⟨_,run_equalIn_int w (e+n) t _ _ _ _ hu,h⟩
   ·exact h.elim
  | bool =>
   simp at hf; subst hf
   obtain ⟨l1,l2⟩:=eqK_len h
   obtain ⟨x,rfl⟩:=List.length_eq_one_iff.1 l1
   obtain ⟨y,rfl⟩:=List.length_eq_one_iff.1 l2
   cases x <;> cases y <;> simp only [eqK] at h
   simp only [Bool.and_true] at h
   exact ⟨_,run_equalIn_bool' w (e+n) t _ _ hu,h⟩
  | struct fs =>
   simp only at hf
   cases hs:P.stoodInHeld t with
   | true=>simp [hs] at hf
   | false =>
    simp only [hs] at hf
    have hfs:P.fieldsOf t=fs:=by simp [Program.fieldsOf,hu]
    have hrun:=run_equalIn_agg w (e+n) t (denL m xs).toArray (denL m ys).toArray (by rw [hfs]; exact hu) hs
    rw [hfs] at hrun
    have key:∀ (l:List Field) (off:Nat) (ks:List Bool) (K:Bool→Prop),off+ks.length=xs.length→ys.length=xs.length→flatF P (flatT P n) l off=some ks→eqK ks (xs.drop off) (ys.drop off) K→∃ b,(Op.eqFields (e+n) (denL m xs).toArray (denL m ys).toArray l).run P w=.ok b w∧K b:=by
     intro l
     induction l with
     | nil =>
      intro off ks K hl hl2 hf h
      simp [flatF] at hf; subst hf
      have e1:xs.drop off=[]:=List.drop_eq_nil_of_le (by simp at hl; omega)
      have e2:ys.drop off=[]:=List.drop_eq_nil_of_le (by simp at hl; omega)
      rw [e1,e2] at h
      exact ⟨true,by simp [Op.eqFields],h⟩
     | cons f l ih =>
      intro off ks K hl hl2 hf h
      unfold flatF at hf
      split at hf
      ·cases hf
      ·rename_i hnm
       simp only [Bool.or_eq_false_iff,Bool.not_eq_false'] at hnm
       have hoff:=Nat.eq_of_beq_eq_true hnm.2
       have hname:f.name ≠ "_" := by simpa using hnm.1
       split at hf
       ·rename_i i d kl hi hd hg
        split at hf
        ·rename_i hc
         simp only [Bool.and_eq_true,Bool.or_eq_true] at hc
         have hsz:=Nat.eq_of_beq_eq_true hc.1
         have hone:d.isRow=false→kl.length=1:=fun hr=>by
          rcases hc.2 with h | h
          ·rw [hr] at h; cases h
          ·exact Nat.eq_of_beq_eq_true h
         split at hf
         ·rename_i r hr
          simp only [Option.some.injEq] at hf
          subst hf
          simp only [List.length_append] at hl
          have h2:=eqK_split h
          obtain ⟨b,hb1,hb2⟩:=flat_of (w:=w) e hd hg hone h2
          have p1:=part_cellsV (m:=m) (l:=xs) hd hi hsz hone (off:=off) (by omega) w
          have p2:=part_cellsV (m:=m) (l:=ys) hd hi hsz hone (off:=off) (by omega) w
          rw [List.drop_drop,List.drop_drop] at hb2
          obtain ⟨c,hc1,hc2⟩:=ih (off+kl.length) r _ (by omega) hl2 hr hb2
          refine ⟨b && c, ?_,hc2⟩
          simp only [Op.eqFields,if_pos hname,Sem.run_bind,hoff,p1,p2,Result.andThen_ok,hb1]
          cases b
          ·simp
          ·simpa using hc1
         ·cases hf
        ·cases hf
       ·cases hf
    obtain ⟨l1,l2⟩:=eqK_len h
    obtain ⟨b,hb1,hb2⟩:=key fs.toList 0 ks K (by omega) (by omega) hf (by simpa using h)
    exact ⟨b,by simp only [cellsV,TypeDesc.isRow]; rw [show e+(n+1)=e+n+1 from rfl,hrun]; exact hb1,hb2⟩
  | _=>simp at hf
theorem bin_of {op:BinOp} {t u:TypeId} {x y:Operand} {p q:SV} (ht:TabOk P tab) (kp:okV m.length p=true) (ho:o.op=.binOp op t x y u) (hx:a.eval x=den m p) (hy:a.eval y=den m q) (h:bin tab t op p q K F):Yl P m a o K F:=by
 unfold bin at h
 split at h
 ·rename_i k x k' y
  split at h
  ·replace h:=And.intro h.out.1 h.out.2.out
   refine .inr ⟨_,rfl,fun w=>?_,h.2⟩
   have h1:¬ y < 0:=by have:=h.1; omega
   unfold execOp
   simp [ho,hx,hy,den,eqGuard,binOp,Op.shift,h1]
  ·replace h:=h.out
   refine .inr ⟨_,rfl,fun w=>?_,h.2⟩
   have h1:¬ y < 0:=by have:=h.1; omega
   unfold execOp
   simp [ho,hx,hy,den,eqGuard,binOp,Op.shift,h1]
  ·split at h
   ·exact .inl h
   ·rename_i hk
    have:=ikeq_of hk
    subst this
    exact binI_of ho hx hy h
 ·obtain ⟨ty,hty,h⟩:=tyK_of h
  obtain ⟨d,i,T⟩:=(ht _ _ hty).out
  split at h
  ·exact .inl h
  ·rename_i hrow
   split at h
   ·rename_i he
    obtain ⟨hfl,_⟩:=T.eqk (by rw [he]; simp)
    have hd:d=.bool:=by
     have hr:=T.row
     rw [hrow] at hr
     rw [he] at hfl
     unfold flatT at hfl
     rw [T.un] at hfl
     cases d <;> simp_all [TypeDesc.isRow]
    subst hd
    split at h
    ·refine .inr ⟨_,rfl,fun w=>?_,h⟩
     unfold execOp
     simp [ho,hx,hy,den,eqGuard,binOp,Op.equal,Op.maxDepth,run_equalIn_bool' w 9999 t _ _ T.un]
    ·refine .inr ⟨_,rfl,fun w=>?_,h⟩
     unfold execOp
     simp [ho,hx,hy,den,eqGuard,binOp,Op.equal,Op.maxDepth,run_equalIn_bool' w 9999 t _ _ T.un]
    ·exact .inl h
   ·exact .inl h
 ·rename_i xs ys
  obtain ⟨ty,hty,h⟩:=tyK_of h
  obtain ⟨d,i,T⟩:=(ht _ _ hty).out
  split at h
  ·rename_i hrow
   split at h
   ·exact .inl h
   ·rename_i k ks he
    obtain ⟨hfl,hg⟩:=T.eqk (by rw [he]; simp)
    rw [he] at hfl
    have hrow2:d.isRow=true:=by rw [T.row,hrow]
    have hcell:∀ l:List SV,cellsV d m l=.agg (denL m l).toArray:=fun l=>by simp only [cellsV,hrow2]
    split at h
    ·obtain ⟨h1,h2⟩:=eqK_val h
     refine .inr ⟨.b (eqA xs ys),rfl,fun w=>?_,h2⟩
     obtain ⟨b,hb1,rfl⟩:=flat_of (m:=m) (w:=w) 9990 T.un hfl (by rw [hrow2]; simp) h1
     rw [hcell,hcell] at hb1
     unfold execOp
     simp only [ho,hx,hy,den,Sem.run_bind,run_eqGuard_agg w _ t _ _ _ _ hg,Result.andThen_ok,run_eql_struct,hb1,Sem.run_pure]
    ·obtain ⟨h1,h2⟩:=eqK_val h
     refine .inr ⟨.b (!eqA xs ys),rfl,fun w=>?_,h2⟩
     obtain ⟨b,hb1,rfl⟩:=flat_of (m:=m) (w:=w) 9990 T.un hfl (by rw [hrow2]; simp) h1
     rw [hcell,hcell] at hb1
     unfold execOp
     simp only [ho,hx,hy,den,Sem.run_bind,run_eqGuard_agg w _ t _ _ _ _ hg,Result.andThen_ok,run_neq_struct,hb1,Sem.run_pure]
    ·exact .inl h
  ·exact .inl h
 ·rename_i j q
  obtain ⟨ty,hty,h⟩:=tyK_of h
  obtain ⟨d,i,T⟩:=(ht _ _ hty).out
  split at h
  ·rename_i hpt
   obtain ⟨e,rfl⟩:=T.pt hpt
   have heq:∀ (A:Option Addr) (w:World),(Op.equal t (.pointer A) (.pointer none)).run P w=.ok A.isNone w:=fun A w=>run_equal_pointer_nil w t A (by rw [T.un]; simp [Program.pointee,T.un])
   have hj:j < m.length:=by simpa [okV] using kp
   split at h
   ·refine .inr ⟨_,rfl,fun w=>?_,h⟩
    unfold execOp
    simp [ho,hx,hy,den,List.getElem?_eq_getElem hj,eqGuard,binOp,heq]
   ·refine .inr ⟨_,rfl,fun w=>?_,h⟩
    unfold execOp
    simp [ho,hx,hy,den,List.getElem?_eq_getElem hj,eqGuard,binOp,heq]
   ·exact .inl h
  ·exact .inl h
 ·rename_i A
  obtain ⟨ty,hty,h⟩:=tyK_of h
  obtain ⟨d,i,T⟩:=(ht _ _ hty).out
  split at h
  ·rename_i hpt
   obtain ⟨e,rfl⟩:=T.pt hpt
   have heq:∀ (A:Option Addr) (w:World),(Op.equal t (.pointer A) (.pointer none)).run P w=.ok A.isNone w:=fun A w=>run_equal_pointer_nil w t A (by rw [T.un]; simp [Program.pointee,T.un])
   split at h
   ·refine .inr ⟨_,rfl,fun w=>?_,h⟩
    unfold execOp
    cases A <;> simp [ho,hx,hy,den,eqGuard,binOp,heq]
   ·refine .inr ⟨_,rfl,fun w=>?_,h⟩
    unfold execOp
    cases A <;> simp [ho,hx,hy,den,eqGuard,binOp,heq]
   ·exact .inl h
  ·exact .inl h
 ·split at h
  ·refine .inr ⟨_,rfl,fun w=>?_,h⟩
   unfold execOp
   simp [ho,hx,hy,den,eqGuard,binOp,Op.stringOp]
  ·refine .inr ⟨_,rfl,fun w=>?_,h⟩
   unfold execOp
   simp [ho,hx,hy,den,eqGuard,binOp,Op.stringOp]
  ·exact .inl h
 ·exact .inl h
theorem bld_of (hf:FrOk m a.tmps fr) {fs:List Field} {fl:List (Nat×Nat×Bool)} (hfl:fldChk P fs fl=true) {places:Nat→Option (Nat×Nat)} (hp:∀ k q,fl[k]?=some q→places k=some (q.1,q.2.1)) :
  ∀ {ps:List (Nat×Operand)} {cs:List SV} {K:List SV→Prop},okL m.length cs=true→bld tab fl fr ps cs K →
   ∃ l,okL m.length l=true∧Instr.fill places (denL m cs).toArray (ps.map fun q=>(q.1,a.eval q.2))=some (denL m l).toArray∧K l
 | [],cs,K,hok,h=>⟨cs,hok,rfl,h⟩
 | (k,x)::r,cs,K,hok,h=>by
  unfold bld at h
  cases hq:fl[k]? with
  | none=>rw [hq] at h; exact h.elim
  | some q =>
   rw [hq] at h
   obtain ⟨v,hv1,hv2,h⟩:=ev_of hf h
   have key:∀ l:List SV,okL m.length l=true→(den m v).cells=(denL m l).toArray→l.length=q.2.1→setN q.1 l cs (fun cs=>bld tab fl fr r cs K)→∃ l,okL m.length l=true∧Instr.fill places (denL m cs).toArray (((k,x)::r).map fun q=>(q.1,a.eval q.2))=some (denL m l).toArray∧K l:=by
    intro l hl1 hl2 hl3 hs
    obtain ⟨hlen,hs⟩:=setN_of hs
    have hok':okL m.length (lay q.1 l cs)=true:=okL_app (okL_app (okL_sub hok fun v hv=>List.mem_of_mem_take hv) hl1) (okL_sub hok fun v hv=>List.mem_of_mem_drop hv)
    obtain ⟨l',e1,e2,e3⟩:=bld_of hf hfl hp hok' hs
    refine ⟨l',e1, ?_,e3⟩
    rw [← e2]
    simp only [List.map_cons,Instr.fill,hp k q hq,hv2,hl2]
    have hsz:(denL m l).toArray.size=q.2.1:=by simp [denL_len,hl3]
    have hfold:∀ (n:Nat) (l cs:List SV) (off:Nat),off+n+l.length≤cs.length→((denL m l).zipIdx n).foldl (fun cs (p:Value×Nat)=>cs.setIfInBounds (off+p.2) p.1) (denL m cs).toArray=(denL m (lay (off+n) l cs)).toArray:=by
     intro n l
     induction l generalizing n with
     | nil=>intro cs off _; simp [denL,lay]
     | cons u l ih =>
      intro cs off hle
      simp only [List.length_cons] at hle
      simp only [denL,List.zipIdx_cons,List.foldl_cons]
      have hset:(denL m cs).toArray.setIfInBounds (off+n) (den m u)=(denL m (cs.set (off+n) u)).toArray:=by
       rw [List.setIfInBounds_toArray]
       congr 1
       apply List.ext_getElem?
       intro i
       rw [denL_get,List.getElem?_set,List.getElem?_set,denL_get]
       by_cases hi:off+n=i
       ·subst hi; simp [denL_len]
       ·simp [hi]
      rw [hset,ih (n+1) (cs.set (off+n) u) off (by simp; omega)]
      congr 2
      unfold lay
      rw [List.length_cons,show off+(n+1)=off+n+1 from by omega,List.take_succ_eq_append_getElem (by simp; omega),List.take_set_of_le (Nat.le_refl _)]
      simp only [List.getElem_set_self,List.append_assoc,List.cons_append,List.nil_append]
      rw [List.drop_set_of_lt (by omega)]
      rw [show off+n+1+l.length=off+n+(l.length+1) from by omega]
    have:=hfold 0 l cs q.1 (by omega)
    simp only [Nat.add_zero] at this
    rw [if_neg]
    ·congr 1
     rw [← this,← Array.foldl_toList,Array.toList_zipIdx]
    ·simp [denL_len,hl3]; omega
   split at h
   ·rename_i l
    split at h
    ·split at h
     ·rename_i hb
      exact key l hv1 rfl (Nat.eq_of_beq_eq_true hb) h
     ·exact h.elim
    ·exact h.elim
   ·split at h
    ·exact h.elim
    ·split at h
     ·rename_i _ hrow _ hone
      have hcell:(den m v).cells=#[den m v]:=by
       cases v with
       | v x=>cases x <;> first | rfl | cases hone
       | p j o=>simp only [den]; split <;> rfl
       | s j o n c=>simp only [den]; split <;> rfl
       | a _=>cases hone
       | t _=>cases hone
       | _=>rfl
      obtain ⟨_,hfo⟩:=fld_of hfl
      obtain ⟨f,i,d,f1,f2,f3,f4,f5,f6,f7,f8⟩:=hfo k q hq
      exact key [v] (by simp [okL,hv1]) (by rw [hcell]; rfl) (by rw [f8 hrow]; rfl) h
     ·exact h.elim
theorem denL0:∀ {l:List SV},okL 0 l=true→denL m l=denL [] l:=fun h=>denL_ext (m:=[]) (fun _ _ h=>by simp at h) _ h
theorem mapM_run {α β:Type} {g:α→Go.Sem β} {w:World}:∀ {l:List α} {r:List β},l.length=r.length→(∀ (k:Nat) (x:α) (y:β),l[k]?=some x→r[k]?=some y→(g x).run P w=.ok y w)→(l.mapM g).run P w=.ok r w
 | [],[],_,_=>by simp
 | [],_::_,h,_=>by simp at h
 | _::_,[],h,_=>by simp at h
 | x::l,y::r,h,hg=>by
  have h0:=hg 0 x y rfl rfl
  have ih:=mapM_run (l:=l) (r:=r) (by simpa using h) (fun k x y hx hy=>hg (k+1) x y (by simpa using hx) (by simpa using hy))
  rw [List.mapM_cons,Sem.run_bind,h0,Result.andThen_ok,Sem.run_bind,ih,Result.andThen_ok,Sem.run_pure]
theorem places_run (w:World) {fs:List Field} {qs:List (Nat×Nat×Bool)} (h:fldChk P fs qs=true):(fs.mapM (m:=Go.Sem) fun f=>do pure (f.offset,← sizeOf f.type)).run P w=.ok (qs.map fun q=>(q.1,q.2.1)) w:=by
 obtain ⟨hl,hf⟩:=fld_of h
 refine mapM_run (by simpa using hl) fun k f y hk hy=>?_
 rw [List.getElem?_map] at hy
 cases hq:qs[k]? with
 | none=>rw [hq] at hy; cases hy
 | some q =>
  rw [hq] at hy
  obtain ⟨f',i,d,f1,f2,f3,f4,f5,f6,f7,f8⟩:=hf k q hq
  rw [hk] at f1; cases f1
  simp only [Option.map_some,Option.some.injEq] at hy
  subst hy
  simp only [sizeOf,typeInfo,Sem.run_bind,run_program,Result.andThen_ok,f3,Sem.run_pure,f2,f5]
theorem pe_of {op:Op} (ht:TabOk P tab) (hf:FrOk m a.tmps fr) (ho:o.op=op) (h:pe tab op fr K F):Yl P m a o K F:=by
  cases op
  all_goals try exact .inl h
  case move x =>
    obtain ⟨v,h1,h2,h3⟩:=ev_of hf h
    exact .inr ⟨v,h1,fun w=>by unfold execOp; simp [ho,h2],h3⟩
  case assign x =>
    obtain ⟨v,h1,h2,h3⟩:=ev_of hf h
    exact .inr ⟨v,h1,fun w=>by unfold execOp; simp [ho,h2],h3⟩
  case pick c x y =>
    obtain ⟨v,h1,h2,h3⟩:=ev_of hf h
    cases v with
    | b t =>
      replace h3:=h3.out
      cases t with
      | true =>
        obtain ⟨v,k1,k2,k3⟩:=ev_of hf (h3.1 rfl)
        exact .inr ⟨v,k1,fun w=>by unfold execOp; simp [ho,h2,k2,den,asBool],k3⟩
      | false =>
        obtain ⟨v,k1,k2,k3⟩:=ev_of hf (h3.2 rfl)
        exact .inr ⟨v,k1,fun w=>by unfold execOp; simp [ho,h2,k2,den,asBool],k3⟩
    | _=>exact .inl h3
  case nilCheck x =>
    obtain ⟨v,h1,h2,h3⟩:=ev_of hf h
    cases v with
    | p j q =>
      refine .inr ⟨_,h1,fun w=>?_,h3⟩
      unfold execOp
      have hj:j < m.length:=by simpa [okV] using h1
      simp [ho,h2,den,List.getElem?_eq_getElem hj]
    | f g cs =>
      refine .inr ⟨_,h1,fun w=>?_,h3⟩
      unfold execOp
      simp [ho,h2,den]
    | _=>exact .inl h3
  case fieldAddr s x k =>
    obtain ⟨v,h1,h2,h3⟩:=ev_of hf h
    cases v with
    | p j off =>
      obtain ⟨y,hy,h3⟩:=tyK_of h3
      cases hq:y.flds[k]? with
      | none=>simp only [hq] at h3; exact .inl h3
      | some q =>
        simp only [hq] at h3
        obtain ⟨d,i,T⟩:=(ht _ _ hy).out
        obtain ⟨fs,rfl,hfc⟩:=T.st k q hq
        obtain ⟨f,i2,d2,f1,f2,f3,f4,f5,f6,f7,f8⟩:=(fld_of hfc).2 k q hq
        have hj:j < m.length:=by simpa [okV] using h1
        refine .inr ⟨.p j (off+q.1),h1,fun w=>?_,h3⟩
        have f1':fs[k]?=some f:=by simpa using f1
        unfold execOp
        simp only [ho,h2,den,List.getElem?_eq_getElem hj,Instr.fieldAt,Instr.sureAddr,Sem.run_bind,run_underlying T.un,Result.andThen_ok,Sem.run_pure,f1',fieldPlace,sizeOf,typeInfo]
        simp only [run_program,f3,Result.andThen_ok,Sem.run_pure,f5,if_neg f6,f2,Go.WideShapes.add_plain,Nat.add_assoc]
    | _=>exact .inl h3
  case field s x k =>
    obtain ⟨v,h1,h2,h3⟩:=ev_of hf h
    cases v with
    | a cs =>
      obtain ⟨y,hy,h3⟩:=tyK_of h3
      cases hq:y.flds[k]? with
      | none=>simp only [hq] at h3; exact .inl h3
      | some q =>
        simp only [hq] at h3
        obtain ⟨d,i,T⟩:=(ht _ _ hy).out
        obtain ⟨fs,rfl,hfc⟩:=T.st k q hq
        obtain ⟨f,i2,d2,f1,f2,f3,f4,f5,f6,f7,f8⟩:=(fld_of hfc).2 k q hq
        have f1':fs[k]?=some f:=by simpa using f1
        cases hb:q.2.2 with
        | true =>
          rw [hb] at h3 f7
          obtain ⟨hl,h3⟩:=tkN_of h3
          refine .inr ⟨.a ((cs.drop q.1).take q.2.1),okL_sub h1 (fun v hv=>List.mem_of_mem_drop (List.mem_of_mem_take hv)),fun w=>?_,h3⟩
          unfold execOp
          simp only [ho,h2,den,Instr.field,Sem.run_bind,run_underlying T.un,Result.andThen_ok,f1',asAgg,Sem.run_pure,f2,run_part_row f4 f3 f7 f5]
        | false =>
          rw [hb] at h3 f7
          obtain ⟨v,hv,h3⟩:=nth_of h3
          refine .inr ⟨v,okL_at h1 hv,fun w=>?_,h3⟩
          unfold execOp
          simp only [ho,h2,den,Instr.field,Sem.run_bind,run_underlying T.un,Result.andThen_ok,f1',asAgg,Sem.run_pure,f2,run_part_cell f4 f7 hv]
    | _=>exact .inl h3
  case indexAddr t x ix =>
    obtain ⟨v,h1,h2,h3⟩:=ev_of hf h
    obtain ⟨i,k1,k2,h3⟩:=ev_of hf h3
    cases i with
    | i k I =>
      obtain ⟨y,hy,h3⟩:=tyK_of h3
      cases hsl:y.sl with
      | false=>simp only [hsl] at h3; exact .inl h3
      | true =>
        simp only [hsl] at h3
        obtain ⟨d,inf,T⟩:=(ht _ _ hy).out
        have hd:=T.sl hsl
        subst hd
        obtain ⟨e,he,h3⟩:=tyK_of h3
        obtain ⟨d2,inf2,T2⟩:=(ht _ _ he).out
        have hsz:(sizeOf y.el).run P=fun w=>.ok e.size w:=by funext w; simp [sizeOf,typeInfo,T2.inf,T2.size]
        cases v with
        | s j o n c =>
          simp only at h3
          replace h3:=h3.out
          obtain ⟨⟨i0,i1⟩,h3⟩:=h3
          have hj:j < m.length:=by simpa [okV] using h1
          refine .inr ⟨.p j (o+I.toNat*e.size),h1,fun w=>?_,h3⟩
          unfold execOp
          simp only [ho,h2,k2,den,List.getElem?_eq_getElem hj,Instr.indexAt,asIntOf,Sem.run_bind,Sem.run_pure,Result.andThen_ok,run_underlying T.un,hsz,if_pos (show 0≤I∧I < (n:Int) from ⟨i0,i1⟩),Go.WideShapes.add_plain,Nat.add_assoc]
        | _=>exact .inl h3
    | _=>exact .inl h3
  case extract x k =>
    obtain ⟨v,h1,h2,h3⟩:=ev_of hf h
    cases v with
    | t vs =>
      obtain ⟨v,hv,h3⟩:=nth_of h3
      refine .inr ⟨v,okL_at h1 hv,fun w=>?_,h3⟩
      have hg:(denL m vs)[k]?=some (den m v):=by rw [denL_get,hv]; rfl
      unfold execOp
      simp [ho,h2,den,Instr.extract,hg]
    | _=>exact .inl h3
  case binOp op t x y u =>
    obtain ⟨p,h1,h2,h3⟩:=ev_of hf h
    obtain ⟨q,k1,k2,k3⟩:=ev_of hf h3
    exact bin_of ht h1 ho h2 k2 k3
  case unOp op t x =>
    obtain ⟨v,h1,h2,h3⟩:=ev_of hf h
    cases op <;> cases v <;> first
      | exact .inl h3
      | (refine .inr ⟨_,rfl,fun w=>?_,(by first | exact h3 | (replace h3:=h3.out; exact h3))⟩
         unfold execOp
         simp [ho,h2,den,Op.unary,Op.intArith])
  case build t parts =>
    obtain ⟨y,hy,h3⟩:=tyK_of h
    cases hr:y.row with
    | false=>simp only [hr] at h3; exact .inl h3
    | true =>
      simp only [hr] at h3
      cases hfl:y.flds with
      | nil=>simp only [hfl] at h3; exact .inl h3
      | cons q0 qs =>
        rw [hfl] at h3
        obtain ⟨d,i,T⟩:=(ht _ _ hy).out
        obtain ⟨fs,rfl,hfc⟩:=T.st 0 q0 (by rw [hfl]; rfl)
        have hz:okL m.length y.zero=true:=okL_mono (Nat.zero_le _) _ T.zok
        have hall:=(fld_of hfc).2
        have hplaces:∀ (k:Nat) (q:Nat×Nat×Bool),y.flds[k]?=some q→(fun i:Nat=>(y.flds.map fun q=>(q.1,q.2.1)).toArray[i]?) k=some (q.1,q.2.1):=fun k q hq=>by simp [hq]
        obtain ⟨l,e1,e2,e3⟩:=bld_of hf hfc hplaces hz (by rw [hfl]; exact h3)
        refine .inr ⟨.a l,e1,fun w=>?_,e3⟩
        have hzv:(zeroV y)=.agg (denL m y.zero).toArray:=by simp only [zeroV,hr]; rw [denL0 (m:=m) T.zok]
        have hparts:(parts.map fun q=>(q.1,a.eval q.2)).toList=parts.toList.map fun q=>(q.1,a.eval q.2):=by simp
        unfold execOp
        simp only [ho,Instr.build,Sem.run_bind,zeroValue,typeInfo,run_program,Result.andThen_ok,T.inf,Sem.run_pure,T.zero,hzv,run_underlying T.un,Array.mapM_eq_mapM_toList]
        simp only [Sem.run_map,places_run w hfc,Value.cells]
        simp at e2
        simp [e2,den]
  case makeFunc fn first captured =>
    cases fn with
    | func f =>
      simp only [pe] at h
      split at h
      · rename_i he
        obtain ⟨l,h1,h2,h3⟩:=evL_of hf h
        refine .inr ⟨.f f l,h1,fun w=>?_,h3⟩
        unfold execOp
        have e1:first=#[]:=by cases first; simp at he; rw [he]
        simp [ho,Instr.makeFunc,den,e1,← h2,← Array.toList_map]
      · exact .inl h
    | _=>exact .inl h
  case convert s d x =>
    obtain ⟨v,h1,h2,h3⟩:=ev_of hf h
    cases v with
    | i k n =>
      obtain ⟨ys,hys,h3⟩:=tyK_of h3
      obtain ⟨ds,is,Ts⟩:=(ht _ _ hys).out
      obtain ⟨y,hy,h3⟩:=tyK_of h3
      cases hk:y.ik with
      | none=>simp only [hk] at h3; exact .inl h3
      | some k =>
        simp only [hk] at h3
        obtain ⟨d,i,T⟩:=(ht _ _ hy).out
        have:=T.ik k hk
        subst this
        replace h3:=h3.out
        refine .inr ⟨_,rfl,fun w=>?_,h3⟩
        unfold execOp
        simp only [ho,h2,den]
        simp only [convert,Sem.run_bind,run_underlying Ts.un,run_underlying T.un,Result.andThen_ok,Conv.intToInt,Sem.run_pure]
    | _=>exact .inl h3
  case call c =>
    obtain ⟨callee,args,ats⟩:=c
    have hrun:∀ b,callee=.builtin b→∀ w,(execOp a.eval o).run P w=(builtin b ats o.type (args.map fun | .const _=>true | _=>false) (args.map a.eval)).run P w:=fun b hb w=>by
      subst hb
      unfold execOp
      simp only [ho,resolve,Sem.run_bind,Sem.run_pure,Result.andThen_ok,invoke]
      rfl
    cases callee with
    | builtin b =>
      cases b
      all_goals try exact .inl h
      case len =>
        simp only [pe] at h
        split at h
        · rename_i x t hx hats
          have e1:args=#[x]:=by cases args; simp at hx; rw [hx]
          have e2:ats=#[t]:=by cases ats; simp at hats; rw [hats]
          obtain ⟨y,hy,h3⟩:=tyK_of h
          cases hs:y.sl with
          | false=>simp only [hs] at h3; exact .inl h3
          | true =>
            simp only [hs] at h3
            obtain ⟨d,i,T⟩:=(ht _ _ hy).out
            have hd:=T.sl hs
            subst hd
            obtain ⟨v,h1,h2,h3⟩:=ev_of hf h3
            cases v with
            | s j q n c =>
              have hj:j < m.length:=by simpa [okV] using h1
              refine .inr ⟨_,rfl,fun w=>?_,h3⟩
              rw [hrun _ rfl w]
              simp [e1,e2,builtin,Builtin.len_,h2,den,run_underlying T.un,List.getElem?_eq_getElem hj,goInt]
            | v x =>
              cases x with
              | slice A n c =>
                refine .inr ⟨_,rfl,fun w=>?_,h3⟩
                rw [hrun _ rfl w]
                simp [e1,e2,builtin,Builtin.len_,h2,den,run_underlying T.un,goInt]
              | _=>exact .inl h3
            | _=>exact .inl h3
        · exact .inl h
      case min =>
        simp only [pe] at h
        split at h
        · rename_i x y hx
          have e1:args=#[x,y]:=by cases args; simp at hx; rw [hx]
          obtain ⟨p,h1,h2,h3⟩:=ev_of hf h
          obtain ⟨q,k1,k2,h3⟩:=ev_of hf h3
          cases p <;> cases q <;> first
            | exact .inl h3
            | (refine .inr ⟨_,rfl,fun w=>?_,h3⟩
               rw [hrun _ rfl w]
               simp [e1,builtin,Builtin.min_,Builtin.min2,h2,k2,den])
        · exact .inl h
      case max =>
        simp only [pe] at h
        split at h
        · rename_i x y hx
          have e1:args=#[x,y]:=by cases args; simp at hx; rw [hx]
          obtain ⟨p,h1,h2,h3⟩:=ev_of hf h
          obtain ⟨q,k1,k2,h3⟩:=ev_of hf h3
          cases p <;> cases q <;> first
            | exact .inl h3
            | (refine .inr ⟨_,rfl,fun w=>?_,h3⟩
               rw [hrun _ rfl w]
               simp [e1,builtin,Builtin.max_,Builtin.max2,h2,k2,den])
        · exact .inl h
    | _=>exact .inl h
theorem ld_of {s:St} {t:TypeId} {x:Operand} {K:Nat→SV→Prop} (ht:TabOk P tab) (hf:FrOk s.m a.tmps s.fr) (ho:o.op=.load t x) (h:ld tab t x s K F) :
  F∨∃ j r v,s.m[j]?=some r∧r.live=true∧(okL s.m.length r.cs=true→okV s.m.length v=true)∧(∀ w,r.pre.length=r.off→Blk w r.g r.t (rowA s.m r)→(execOp a.eval o).run P w=.ok (.value (den s.m v)) w)∧K j v:=by
 obtain ⟨v,h1,h2,h3⟩:=ev_of hf h
 cases v with
 | p j q =>
  obtain ⟨r,hr,h3⟩:=nthR_of h3
  cases hl:r.live with
  | false=>simp only [hl] at h3; exact .inl h3
  | true =>
   simp only [hl] at h3
   obtain ⟨y,hy,h3⟩:=tyK_of h3
   obtain ⟨d,i,T⟩:=(ht _ _ hy).out
   have hx:a.eval x=.pointer (some ⟨r.g,r.off+q,none⟩):=by rw [h2]; simp only [den,hr]
   cases hrow:y.row with
   | true =>
    simp only [hrow] at h3
    obtain ⟨hlen,h3⟩:=tkN_of h3
    refine .inr ⟨j,r,.a ((r.cs.drop q).take y.size),hr,hl,fun hok=>okL_sub hok (fun v hv=>List.mem_of_mem_drop (List.mem_of_mem_take hv)),fun w hp hB=>?_,h3⟩
    have hl2:((denL s.m r.cs).toArray.toList.drop q).take y.size=denL s.m ((r.cs.drop q).take y.size):=by rw [denL_drop,denL_take]
    have hn:(denL s.m ((r.cs.drop q).take y.size)).length=y.size:=by rw [denL_len,List.length_take,List.length_drop]; omega
    exact exec_part (n:=y.size) t x d hB (el_part hp hl2 (by simp [denL_len]; omega)) hn ho hx T.un (by rw [T.row,hrow]) (by rw [T.inf,hn]; simp [T.size])
   | false =>
    simp only [hrow] at h3
    obtain ⟨v,hv,h3⟩:=nth_of h3
    refine .inr ⟨j,r,v,hr,hl,fun hok=>okL_at hok hv,fun w hp hB=>?_,h3⟩
    have hg:(denL s.m r.cs).toArray[q]?=some (den s.m v):=by rw [List.getElem?_toArray,denL_get,hv]; rfl
    refine exec_cell t x d hB (el_at hp hg) ho hx T.un ?_
    have:=T.row
    rw [hrow] at this
    cases d <;> simp_all [TypeDesc.isRow]
 | _=>exact .inl h3
end
end En
end Go.Proofs.YtnoehplnmdajnaaGreatDoor
