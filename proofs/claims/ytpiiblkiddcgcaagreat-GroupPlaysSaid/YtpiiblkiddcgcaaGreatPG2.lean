/-
  Wanted: part 2.
  No condition.
-/
import Derived.Test.YtpiiblkiddcgcaaGreatPG0
import Derived.Shelf.Abstract
set_option linter.all false
namespace Go.Proofs.YtpiiblkiddcgcaaGreat
namespace En
open Go.RowKit Ba Mem
inductive SV where
 | v (x : Value)
 | i (k : IntKind) (n : Int)
 | b (x : Bool)
 | p (j o : Nat)
 | s (j o n c : Nat)
 | f (fn : FuncId) (cs : List SV)
 | a (cs : List SV)
 | t (cs : List SV)
structure Row where
 g : Nat
 t : TypeId
 live : Bool
 off : Nat
 pre : List Value
 cs : List SV
 suf : List Value
 rw : Bool
mutual
def den (m : List Row) : SV → Value
 | .v x => x
 | .i k n => .int k n
 | .b x => .bool x
 | .p j o => match m[j]? with | some r => .pointer (some ⟨r.g, r.off + o, none⟩) | none => undef
 | .s j o n c => match m[j]? with | some r => .slice (some ⟨r.g, r.off + o, none⟩) n c | none => undef
 | .f fn cs => .func (.func fn) #[] (denL m cs).toArray
 | .a cs => .agg (denL m cs).toArray
 | .t cs => .tuple (denL m cs).toArray
def denL (m : List Row) : List SV → List Value
 | [] => []
 | x :: r => den m x :: denL m r
end
mutual
def okV (n : Nat) : SV → Bool
 | .v _ => true
 | .i _ _ => true
 | .b _ => true
 | .p j _ => Nat.blt j n
 | .s j _ _ _ => Nat.blt j n
 | .f _ cs => okL n cs
 | .a cs => okL n cs
 | .t cs => okL n cs
def okL (n : Nat) : List SV → Bool
 | [] => true
 | x :: r => okV n x && okL n r
end
structure Asr where
 F : List Nat
 rw : Bool
 st : World → Prop
 up : ∀ {w w' : World} {T : List Nat}, Upd T w w' → (∀ g ∈ F, g ∉ T) → st w → st w'
 lt : ∀ {w : World}, st w → ∀ g ∈ F, g < w.heap.size
structure St where
 fr : List (Nat × SV)
 m : List Row
 ob : List Asr
structure Ty where
 row : Bool
 size : Nat
 zero : List SV
 flds : List (Nat × Nat × Bool)
 sl : Bool
 el : Nat
 ik : Option IntKind
 eqk : List Bool
 pt : Bool
abbrev Tab := List (Nat × Ty)
def tyK (t : Nat) : Tab → (Ty → Prop) → Prop
 | [], _ => False
 | (k, y) :: r, K => match Nat.beq k t with | true => K y | false => tyK t r K
def tyO (t : Nat) : Tab → Option Ty
 | [] => none
 | (k, y) :: r => match Nat.beq k t with | true => some y | false => tyO t r
def lkO (k : Nat) : List (Nat × SV) → Option SV
 | [] => none
 | (j, v) :: r => match Nat.beq j k with | true => some v | false => lkO k r
def lk (k : Nat) : List (Nat × SV) → (SV → Prop) → Prop
 | [], _ => False
 | (j, v) :: r, K => match Nat.beq j k with | true => K v | false => lk k r K
def nth : Nat → List SV → (SV → Prop) → Prop
 | _, [], _ => False
 | 0, v :: _, K => K v
 | k + 1, _ :: r, K => nth k r K
def nthR : Nat → List Row → (Row → Prop) → Prop
 | _, [], _ => False
 | 0, v :: _, K => K v
 | k + 1, _ :: r, K => nthR k r K
def tk : Nat → List SV → (List SV → Prop) → Prop
 | 0, _, K => K []
 | _ + 1, [], _ => False
 | n + 1, x :: r, K => tk n r fun l => K (x :: l)
def tkN : Nat → Nat → List SV → (List SV → Prop) → Prop
 | 0, n, l, K => tk n l K
 | _ + 1, _, [], _ => False
 | k + 1, n, _ :: r, K => tkN k n r K
def setN : Nat → List SV → List SV → (List SV → Prop) → Prop
 | 0, [], l, K => K l
 | 0, _ :: _, [], _ => False
 | 0, v :: vs, _ :: r, K => setN 0 vs r fun l => K (v :: l)
 | _ + 1, _, [], _ => False
 | k + 1, vs, x :: r, K => setN k vs r fun l => K (x :: l)
def setR : Nat → (Row → (Row → Prop) → Prop) → List Row → (List Row → Prop) → Prop
 | _, _, [], _ => False
 | 0, f, r :: m, K => f r fun r' => K (r' :: m)
 | k + 1, f, r :: m, K => setR k f m fun m' => K (r :: m')
def appR : List Row → Row → (List Row → Prop) → Prop
 | [], r, K => K [r]
 | x :: m, r, K => appR m r fun m' => K (x :: m')
def lenR : List Row → Nat → (Nat → Prop) → Prop
 | [], n, K => K n
 | _ :: m, n, K => lenR m (n + 1) K
structure Br (t : Bool) (A B : Prop) : Prop where
 out : (t = true → A) ∧ (t = false → B)
structure Wr (k : IntKind) (x : Int) (K : Int → Prop) : Prop where
 out : K (k.wrap x)
structure Cd (p A : Prop) : Prop where
 out : p ∧ A
def evc (c : Value) (K : SV → Prop) : Prop :=
 match c with
 | .int k n => K (.i k n)
 | .bool b => K (.b b)
 | c => K (.v c)
def ev (x : Operand) (fr : List (Nat × SV)) (K : SV → Prop) : Prop :=
 match x with
 | .tmp t => lk t fr K
 | .const c => evc c K
 | .global g => K (.v (.pointer (some ⟨g, 0, none⟩)))
 | .func f => K (.f f [])
def evL : List Operand → List (Nat × SV) → (List SV → Prop) → Prop
 | [], _, K => K []
 | x :: r, fr, K => ev x fr fun v => evL r fr fun l => K (v :: l)
def ikeq : IntKind → IntKind → Bool
 | .i8, .i8 | .i16, .i16 | .i32, .i32 | .i64, .i64 | .u8, .u8 | .u16, .u16 | .u32, .u32 | .u64, .u64 => true
 | _, _ => false
def eqK : List Bool → List SV → List SV → (Bool → Prop) → Prop
 | [], [], [], K => K true
 | true :: ks, .i k x :: r, .i k' y :: q, K => match ikeq k k' with
  | true => eqK ks r q fun b => K ((x == y) && b)
  | false => False
 | false :: ks, .b x :: r, .b y :: q, K => eqK ks r q fun b => K ((x == y) && b)
 | _, _, _, _ => False
def bitI (op : BinOp) (k : IntKind) (x y : Int) : Int :=
 let a := BitVec.ofInt k.bits x
 let b := BitVec.ofInt k.bits y
 match op with
 | .and => k.wrap (a &&& b).toNat
 | .or => k.wrap (a ||| b).toNat
 | .xor => k.wrap (a ^^^ b).toNat
 | _ => k.wrap (a &&& ~~~b).toNat
def binI (op : BinOp) (k : IntKind) (x y : Int) (K : SV → Prop) (F : Prop) : Prop :=
 match op with
 | .add => Wr k (x + y) fun z => K (.i k z)
 | .sub => Wr k (x - y) fun z => K (.i k z)
 | .mul => Wr k (x * y) fun z => K (.i k z)
 | .quo => Cd (y ≠ 0) (Wr k (x.tdiv y) fun z => K (.i k z))
 | .rem => Cd (y ≠ 0) (K (.i k (x.tmod y)))
 | .and => K (.i k (bitI .and k x y))
 | .or => K (.i k (bitI .or k x y))
 | .xor => K (.i k (bitI .xor k x y))
 | .andNot => K (.i k (bitI .andNot k x y))
 | .eql => K (.b (x == y))
 | .neq => K (.b (x != y))
 | .lss => K (.b (decide (x < y)))
 | .leq => K (.b (decide (x ≤ y)))
 | .gtr => K (.b (decide (x > y)))
 | .geq => K (.b (decide (x ≥ y)))
 | _ => F
def bin (tab : Tab) (t : TypeId) (op : BinOp) (a b : SV) (K : SV → Prop) (F : Prop) : Prop :=
 match a, b with
 | .i k x, .i k' y => match op with
  | .shl => Cd (0 ≤ y) (Wr k (x * 2 ^ min y.toNat k.bits) fun z => K (.i k z))
  | .shr => Cd (0 ≤ y) (K (.i k (x.fdiv (2 ^ min y.toNat k.bits))))
  | op => match ikeq k k' with
   | false => F
   | true => binI op k x y K F
 | .b x, .b y => tyK t tab fun ty => match ty.row with
  | true => F
  | false => match ty.eqk with
   | [false] => match op with
    | .eql => K (.b (x == y))
    | .neq => K (.b (!(x == y)))
    | _ => F
   | _ => F
 | .a xs, .a ys => tyK t tab fun ty => match ty.row with
  | true => match ty.eqk with
   | [] => F
   | k :: ks => match op with
    | .eql => eqK (k :: ks) xs ys fun b => K (.b b)
    | .neq => eqK (k :: ks) xs ys fun b => K (.b (!b))
    | _ => F
  | false => F
 | .p _ _, .v (.pointer none) => tyK t tab fun ty => match ty.pt with
  | true => match op with
   | .eql => K (.b false)
   | .neq => K (.b true)
   | _ => F
  | false => F
 | .v (.pointer a), .v (.pointer none) => tyK t tab fun ty => match ty.pt with
  | true => match op with
   | .eql => K (.b a.isNone)
   | .neq => K (.b (!a.isNone))
   | _ => F
  | false => F
 | .v (.string x), .v (.string y) => match op with
  | .eql => K (.b (x.toList == y.toList))
  | .neq => K (.b (!(x.toList == y.toList)))
  | _ => F
 | _, _ => F
def oneS : SV → Bool
 | .v x => x.oneCell'
 | .a _ => false
 | .t _ => false
 | _ => true
def cellsS : SV → List SV
 | .a cs => cs
 | x => [x]
def bld (tab : Tab) (fl : List (Nat × Nat × Bool)) (fr : List (Nat × SV)) : List (Nat × Operand) → List SV → (List SV → Prop) → Prop
 | [], cs, K => K cs
 | (k, x) :: r, cs, K => match fl[k]? with
  | none => False
  | some q => ev x fr fun v => match v with
   | .a l => match q.2.2 with
    | true => match Nat.beq l.length q.2.1 with
     | true => setN q.1 l cs fun cs => bld tab fl fr r cs K
     | false => False
    | false => False
   | v => match q.2.2 with
    | true => False
    | false => match oneS v with
     | true => setN q.1 [v] cs fun cs => bld tab fl fr r cs K
     | false => False
def pe (tab : Tab) (o : Op) (fr : List (Nat × SV)) (K : SV → Prop) (F : Prop) : Prop :=
 match o with
 | .move x => ev x fr K
 | .assign x => ev x fr K
 | .pick c x y => ev c fr fun v => match v with
  | .b t => Br t (ev x fr K) (ev y fr K)
  | _ => F
 | .nilCheck x => ev x fr fun v => match v with
  | .p j o => K (.p j o)
  | .f f cs => K (.f f cs)
  | _ => F
 | .fieldAddr s x k => ev x fr fun v => match v with
  | .p j o => tyK s tab fun y => match y.flds[k]? with
   | some q => K (.p j (o + q.1))
   | none => F
  | _ => F
 | .field s x k => ev x fr fun v => match v with
  | .a cs => tyK s tab fun y => match y.flds[k]? with
   | some q => match q.2.2 with
    | true => tkN q.1 q.2.1 cs fun l => K (.a l)
    | false => nth q.1 cs K
   | none => F
  | _ => F
 | .indexAddr t x ix => ev x fr fun v => ev ix fr fun i => match i with
  | .i _ I => tyK t tab fun y => match y.sl with
   | true => tyK y.el tab fun e => match v with
    | .s j o n _ => Cd (0 ≤ I ∧ I < n) (K (.p j (o + I.toNat * e.size)))
    | _ => F
   | false => F
  | _ => F
 | .extract x k => ev x fr fun v => match v with
  | .t vs => nth k vs K
  | _ => F
 | .binOp op t x y _ => ev x fr fun a => ev y fr fun b => bin tab t op a b K F
 | .unOp op _ x => ev x fr fun a => match op, a with
  | .not, .b t => K (.b (!t))
  | .neg, .i k n => Wr k (0 - n) fun z => K (.i k z)
  | _, _ => F
 | .build t parts => tyK t tab fun y => match y.row with
  | true => match y.flds with
   | [] => F
   | _ :: _ => bld tab y.flds fr parts.toList y.zero fun cs => K (.a cs)
  | false => F
 | .makeFunc (.func f) first captured => match first.toList with
  | [] => evL captured.toList fr fun cs => K (.f f cs)
  | _ => F
 | .convert s d x => ev x fr fun v => match v with
  | .i _ n => tyK s tab fun _ => tyK d tab fun y => match y.ik with
   | some k => Wr k n fun z => K (.i k z)
   | none => F
  | _ => F
 | .call c => match c.callee with
  | .builtin .len => match c.args.toList, c.argTypes.toList with
   | [x], [t] => tyK t tab fun y => match y.sl with
    | true => ev x fr fun v => match v with
     | .s _ _ n _ => K (.i .i64 n)
     | .v (.slice _ n _) => K (.i .i64 n)
     | _ => F
    | false => F
   | _, _ => F
  | .builtin .min => match c.args.toList with
   | [x, y] => ev x fr fun a => ev y fr fun b => match a, b with
    | .i k x, .i _ y => K (.i k (if y < x then y else x))
    | _, _ => F
   | _ => F
  | .builtin .max => match c.args.toList with
   | [x, y] => ev x fr fun a => ev y fr fun b => match a, b with
    | .i k x, .i _ y => K (.i k (if y > x then y else x))
    | _, _ => F
   | _ => F
  | _ => F
 | _ => F
def ld (tab : Tab) (t : TypeId) (x : Operand) (s : St) (K : Nat → SV → Prop) (F : Prop) : Prop :=
 ev x s.fr fun v => match v with
 | .p j o => nthR j s.m fun r => match r.live with
  | true => tyK t tab fun y => match y.row with
   | true => tkN o y.size r.cs fun l => K j (.a l)
   | false => nth o r.cs fun v => K j v
  | false => F
 | _ => F
def put (n : Nat) (d : Option Tmp) (v : SV) (s : St) (K : St → Prop) : Prop :=
 match d with
 | none => K s
 | some d => match Nat.blt d n with
  | true => match s with
   | ⟨fr, m, ob⟩ => K ⟨(d, v) :: fr, m, ob⟩
  | false => False
def stv (tab : Tab) (t : TypeId) (v : SV) (K : List SV → Prop) (F : Prop) : Prop :=
 tyK t tab fun y => match v with
 | .a l => match y.row with
  | true => match Nat.beq l.length y.size && l.all oneS with
   | true => K l
   | false => F
  | false => F
 | v => match y.row with
  | true => F
  | false => match oneS v with
   | true => K [v]
   | false => F
def nw (s : St) (t : TypeId) (cs : List SV) (K : Nat → St → Prop) : Prop :=
 match s with
 | ⟨fr, m, ob⟩ => ∀ g : Nat, lenR m 0 fun j => appR m ⟨g, t, true, 0, [], cs, [], true⟩ fun m => K j ⟨fr, m, ob⟩
def me (tab : Tab) (n : Nat) (keep : List Nat) (o : Oper) (s : St) (K : St → Prop) (F : Prop) : Prop :=
 match o.op with
 | .load t x => ld tab t x s (fun _ v => put n o.dst v s K) F
 | .store t x y => ev x s.fr fun a => ev y s.fr fun b => match a with
  | .p j q => match keep.elem j with
   | true => False
   | false => stv tab t b (fun vs => setR j (fun r K => match r.live with
     | true => match r with
      | ⟨g, t, l, off, pre, cs, suf, rw⟩ => match rw with
       | true => setN q vs cs fun cs => K ⟨g, t, l, off, pre, cs, suf, rw⟩
       | false => False
     | false => False) s.m fun m => match s with
     | ⟨fr, _, ob⟩ => put n o.dst (.v undef) ⟨fr, m, ob⟩ K) F
  | _ => F
 | .alloc t => tyK t tab fun y => nw s t y.zero fun j s => put n o.dst (.p j 0) s K
 | .box t x => ev x s.fr fun v => match v with
  | .v x => match x.oneCell' with
   | true => nw s t (cellsS (.v x)) fun j s => put n o.dst (.p j 0) s K
   | false => F
  | v => nw s t (cellsS v) fun j s => put n o.dst (.p j 0) s K
 | _ => F
structure Cx where
 P : Program
 tab : Tab
 S : List Nat
 w0 : World
 n : Nat
 ds : List Deferred
def rowA (m : List Row) (r : Row) : Array Value := el r.pre (denL m r.cs).toArray r.suf
structure Hold (X : Cx) (m : List Row) (ob : List Asr) (w : World) : Prop where
 upd : Upd X.S X.w0 w
 row : ∀ (j : Nat) (r : Row), m[j]? = some r → r.live = true → Blk w r.g r.t (rowA m r)
 wf : ∀ (j : Nat) (r : Row), m[j]? = some r → r.live = true → okL m.length r.cs = true ∧ r.pre.length = r.off ∧ (r.rw = true → r.g ∈ X.S ∨ X.w0.heap.size ≤ r.g)
 ne : ∀ (i j : Nat) (r q : Row), m[i]? = some r → m[j]? = some q → r.live = true → q.live = true → i ≠ j → r.g ≠ q.g
 obj : ∀ A ∈ ob, A.st w
 far : ∀ A ∈ ob, ∀ (j : Nat) (r : Row), m[j]? = some r → r.live = true → r.g ∉ A.F
 own : ∀ A ∈ ob, A.rw = true → ∀ g ∈ A.F, g ∈ X.S ∨ X.w0.heap.size ≤ g
 dis : ob.Pairwise fun A B => A.rw = true ∨ B.rw = true → ∀ g ∈ A.F, g ∉ B.F
def FrOk (m : List Row) (tm : Array Value) (fr : List (Nat × SV)) : Prop := ∀ k v, lkO k fr = some v → okV m.length v = true ∧ tm[k]? = some (den m v)
structure Rel (X : Cx) (s : St) (a : Act) (w : World) : Prop where
 ds : a.defers = X.ds
 sz : a.tmps.size = X.n
 fr : FrOk s.m a.tmps s.fr
 h : Hold X s.m s.ob w
def Ext (m m' : List Row) : Prop := ∀ (j : Nat) (r : Row), m[j]? = some r → ∃ r' : Row, m'[j]? = some r' ∧ r'.g = r.g ∧ r'.off = r.off
def Qof (X : Cx) (K : Exit → St → Prop) : Exit → Act → World → Prop
 | .normal, a, w => ∃ s, Rel X s a w ∧ K .normal s
 | .exit id, a, w => ∃ s, Rel X s a w ∧ K (.exit id) s
 | .ret, a, w => ∃ s, Rel X s a w ∧ K .ret s
 | _, _, _ => False
structure Sm (X : Cx) (c : Code) (s : St) (K : Exit → St → Prop) : Prop where
 out : ∀ (a : Act) w, Rel X s a w → c.wp X.P (Qof X K) a w
structure OpVC (X : Cx) (o : Oper) (s : St) (K : St → Prop) : Prop where
 out : ∀ (a : Act) w Q, Rel X s a w → o.wp X.P a w (fun a' w' => ∃ s', Rel X s' a' w' ∧ Ext s.m s'.m ∧ K s') Q
structure CallVC (X : Cx) (f : FuncId) (vs : List SV) (s : St) (K : SV → St → Prop) : Prop where
 out : (∀ args w, (callFunc f args).run X.P w = .ok (.enter f args) w) ∧
 ∀ w, Hold X s.m s.ob w → Calls X.P f (denL s.m vs).toArray w fun e w' => ∃ v m' ob', e = .returned (den m' v) ∧ okV m'.length v = true ∧ Ext s.m m' ∧ Hold X m' ob' w' ∧ K v { fr := s.fr, m := m', ob := ob' }
structure PuVC (X : Cx) (o : Oper) (s : St) (K : SV → Prop) : Prop where
 out : ∃ v, okV s.m.length v = true ∧ (∀ a : Act, FrOk s.m a.tmps s.fr → ∀ w, (execOp a.eval o).run X.P w = .ok (.value (den s.m v)) w) ∧ K v
structure Kpt (keep : List Nat) (m0 m : List Row) (A : Prop) : Prop where
 out : keep.map (fun j => m0[j]?) = keep.map (fun j => m[j]?) ∧ A
def appS : List SV → List SV → (List SV → Prop) → Prop
 | [], l, K => K l
 | x :: r, l, K => appS r l fun l => K (x :: l)
def hd (X : Cx) (o : Oper) (s : St) (K : St → Prop) : Prop :=
 match o.op with
 | .call c => match c.callee with
  | .value f => ev f s.fr fun v => match v with
   | .f fid cs => evL c.args.toList s.fr fun vs => appS vs cs fun vs => CallVC X fid vs s fun v s => put X.n o.dst v s K
   | _ => OpVC X o s K
  | _ => OpVC X o s K
 | _ => OpVC X o s K
def exW (X : Cx) (keep : List Nat) (m0 : List Row) (o : Oper) (s : St) (K : St → Prop) : Prop :=
 pe X.tab o.op s.fr (fun v => put X.n o.dst v s K) (me X.tab X.n keep o s K (hd X o s fun s => match keep with
  | [] => K s
  | _ :: _ => Kpt keep m0 s.m (K s)))
def wantK (ops : List Oper) (g : Option (Nat × Bool)) (fr : List (Nat × SV)) (Y N : Prop) : Prop :=
 match g with
 | none => Y
 | some (j, b) => match ops[j]? with
  | none => N
  | some o => match o.dst with
   | none => N
   | some d => lk d fr fun v => match v with
    | .b t => match b with
     | true => Br t Y N
     | false => Br t N Y
    | .v (.tuple _) => N
    | _ => False
def steps (X : Cx) (ops : List Oper) : List Oper → St → (St → Prop) → Prop
 | [], s, K => K s
 | o :: r, s, K => wantK ops o.guard s.fr (exW X [] [] o s fun s => steps X ops r s K) (put X.n o.dst (.v undef) s fun s => steps X ops r s K)
inductive Pl where
 | done
 | tk (i : Nat) (r : Pl)
 | ef (i : Nat) (r : Pl)
 | fk (i j : Nat) (r q : Pl)
 | f3 (i j k : Nat) (r q t : Pl)
def isPure : Op → Bool
 | .move _ | .assign _ | .pick .. | .nilCheck _ | .fieldAddr .. | .field .. | .extract .. | .binOp .. | .unOp .. | .build .. | .makeFunc .. | .convert .. | .load .. | .slice .. | .indexAddr .. | .index .. | .makeInterface .. | .typeAssert .. => true
 | .call c => match c.callee with
  | .builtin .len | .builtin .min | .builtin .max | .builtin .cap => true
  | _ => false
 | _ => false
def afM : List Edge → Nat
 | [] => 0
 | e :: r => match Region.binds .any e with
  | true => Nat.lor (2 ^ e.on) (afM r)
  | false => afM r
def anno (ef : List Nat) : Nat → List Oper → List (Nat × Nat × Bool)
 | _, [] => []
 | i, o :: r => (i, afM o.after.toList, isPure o.op && !ef.elem i) :: anno ef (i + 1) r
def isRdy (L : Nat) (q : Nat × Nat × Bool) : Bool := !(Nat.testBit L q.1) && Nat.beq (Nat.land q.2.1 L) q.2.1
def plan (qs : List (Nat × Nat × Bool)) : Nat → Nat → Pl
 | 0, _ => .done
 | n + 1, L => match qs.find? (fun q => q.2.2 && isRdy L q) with
  | some q => .tk q.1 (plan qs n (Nat.lor L (2 ^ q.1)))
  | none => match qs.filter (isRdy L) with
   | [] => .done
   | [q] => .ef q.1 (plan qs n (Nat.lor L (2 ^ q.1)))
   | [q, r] => .fk q.1 r.1 (plan qs n (Nat.lor L (2 ^ q.1))) (plan qs n (Nat.lor L (2 ^ r.1)))
   | q :: r :: t :: _ => .f3 q.1 r.1 t.1 (plan qs n (Nat.lor L (2 ^ q.1))) (plan qs n (Nat.lor L (2 ^ r.1))) (plan qs n (Nat.lor L (2 ^ t.1)))
def planOf (ef : List Nat) (ops : List Oper) : Pl := plan (anno ef 0 ops) ops.length 0
def chk (ops : Array Oper) : Nat → Array Bool → Pl → Bool
 | _, L, .done => Region.ready .any ops L == []
 | n + 1, L, .tk i r => Region.free .any ops L i && (Region.ready .any ops L).contains i && chk ops n (L.setIfInBounds i true) r
 | n + 1, L, .ef i r => Region.ready .any ops L == [i] && chk ops n (L.setIfInBounds i true) r
 | n + 1, L, .fk i j r q => Region.ready .any ops L == [i, j] && chk ops n (L.setIfInBounds i true) r && chk ops n (L.setIfInBounds j true) q
 | n + 1, L, .f3 i j k r q t => Region.ready .any ops L == [i, j, k] && chk ops n (L.setIfInBounds i true) r && chk ops n (L.setIfInBounds j true) q && chk ops n (L.setIfInBounds k true) t
 | 0, _, _ => false
def hasE (ops : List Oper) (k i : Nat) : Bool := match ops[k]? with
 | none => false
 | some o => o.after.toList.any fun e => Region.binds .any e && Nat.beq e.on i
def mayLd (ops : List Oper) (sts : List (Nat × Nat)) (don : List Nat) (i j : Nat) : Bool :=
 !(don.elem j) && sts.all fun q => !(Nat.beq q.2 j) || hasE ops q.1 i
def subK (don : List Nat) : List Nat → (List Nat → Prop) → Prop
 | [], K => K []
 | j :: r, K => match don.elem j with
  | true => subK don r K
  | false => subK don r fun l => K (j :: l)
def stoJ (sts : List (Nat × Nat)) (i : Nat) : Option Nat := match sts with
 | [] => none
 | (k, j) :: r => match Nat.beq k i with
  | true => some j
  | false => stoJ r i
def exE (X : Cx) (all : List Nat) (m0 : List Row) (sts : List (Nat × Nat)) (don : List Nat) (i : Nat) (o : Oper) (s : St) (K : List Nat → St → Prop) : Prop :=
 match o.op with
 | .store _ _ _ => match stoJ sts i with
  | none => subK don all fun keep => exW X keep m0 o s (K don)
  | some j => subK (j :: don) all fun keep => me X.tab X.n keep o s (K (j :: don)) False
 | _ => subK don all fun keep => exW X keep m0 o s (K don)
def isSt : Op → Bool
 | .store _ _ _ => true
 | _ => false
def exD (X : Cx) (ops : List Oper) (all : List Nat) (m0 : List Row) (sts : List (Nat × Nat)) : Pl → List Nat → St → (St → Prop) → Prop
 | .done, _, s, K => K s
 | .tk i r, don, s, K => match ops[i]? with
  | none => False
  | some o => match isSt o.op with
   | true => False
   | false => wantK ops o.guard s.fr
    (pe X.tab o.op s.fr (fun v => put X.n o.dst v s fun s => exD X ops all m0 sts r don s K) (match o.op with
     | .load t x => ld X.tab t x s (fun j v => match Nat.blt j m0.length && mayLd ops sts don i j with
      | true => put X.n o.dst v s fun s => exD X ops all m0 sts r don s K
      | false => False) False
     | _ => PuVC X o s fun v => put X.n o.dst v s fun s => exD X ops all m0 sts r don s K))
    (put X.n o.dst (.v undef) s fun s => exD X ops all m0 sts r don s K)
 | .ef i r, don, s, K => match ops[i]? with
  | none => False
  | some o => wantK ops o.guard s.fr (exE X all m0 sts don i o s fun don s => exD X ops all m0 sts r don s K) (put X.n o.dst (.v undef) s fun s => exD X ops all m0 sts r don s K)
 | .fk i j r q, don, s, K => (match ops[i]? with
  | none => False
  | some o => wantK ops o.guard s.fr (exE X all m0 sts don i o s fun don s => exD X ops all m0 sts r don s K) (put X.n o.dst (.v undef) s fun s => exD X ops all m0 sts r don s K)) ∧
  (match ops[j]? with
  | none => False
  | some o => wantK ops o.guard s.fr (exE X all m0 sts don j o s fun don s => exD X ops all m0 sts q don s K) (put X.n o.dst (.v undef) s fun s => exD X ops all m0 sts q don s K))
 | .f3 i j k r q t, don, s, K => (match ops[i]? with
  | none => False
  | some o => wantK ops o.guard s.fr (exE X all m0 sts don i o s fun don s => exD X ops all m0 sts r don s K) (put X.n o.dst (.v undef) s fun s => exD X ops all m0 sts r don s K)) ∧
  (match ops[j]? with
  | none => False
  | some o => wantK ops o.guard s.fr (exE X all m0 sts don j o s fun don s => exD X ops all m0 sts q don s K) (put X.n o.dst (.v undef) s fun s => exD X ops all m0 sts q don s K)) ∧
  (match ops[k]? with
  | none => False
  | some o => wantK ops o.guard s.fr (exE X all m0 sts don k o s fun don s => exD X ops all m0 sts t don s K) (put X.n o.dst (.v undef) s fun s => exD X ops all m0 sts t don s K))
def allK : List Row → Nat → (List Nat → Prop) → Prop
 | [], _, K => K []
 | _ :: m, i, K => allK m (i + 1) fun l => K (i :: l)
def dfO (k : Nat) : List Oper → Option Op
 | [] => none
 | o :: r => match o.dst with
  | some d => match Nat.beq d k with
   | true => some o.op
   | false => dfO k r
  | none => dfO k r
def rowO (ops : List Oper) (fr : List (Nat × SV)) : Nat → Nat → Option Nat
 | 0, _ => none
 | n + 1, k => match dfO k ops with
  | some (.fieldAddr _ (.tmp b) _) => rowO ops fr n b
  | some (.nilCheck (.tmp b)) => rowO ops fr n b
  | some (.move (.tmp b)) => rowO ops fr n b
  | some (.indexAddr _ _ _) => some 1
  | some (.load _ _) => some 1
  | some _ => none
  | none => match lkO k fr with
   | some (.p j _) => some j
   | _ => none
def stoK (ef : List Nat) (ops : List Oper) (fr : List (Nat × SV)) : Nat → List Oper → (List (Nat × Nat) → Prop) → Prop
 | _, [], K => K []
 | i, o :: r, K => match o.op with
  | .store _ (.tmp k) _ => match rowO ops fr 9 k with
   | some j => match ef.elem i with
    | true => stoK ef ops fr (i + 1) r K
    | false => stoK ef ops fr (i + 1) r fun l => K ((i, j) :: l)
   | none => stoK ef ops fr (i + 1) r K
  | _ => stoK ef ops fr (i + 1) r K
def inB (id : Nat) (K : Exit → St → Prop) (e : Exit) (s : St) : Prop :=
 match e with
 | .exit j => match Nat.beq j id with
  | true => K .normal s
  | false => K (.exit j) s
 | e => K e s
def sq (K : Exit → St → Prop) (N : St → Prop) (e : Exit) (s : St) : Prop :=
 match e with
 | .normal => N s
 | e => K e s
def isReg : Code → Bool
 | .region _ _ _ => true
 | _ => false
def run (X : Cx) : Code → St → (Exit → St → Prop) → Prop
 | .skip, s, K => K .normal s
 | .region id ops d, s, K => match d with
  | false => steps X ops.toList ops.toList s (K .normal)
  | true => Sm X (.region id ops true) s K
 | .seq a b, s, K => match isReg a with
  | true => run X a s (sq K fun s => run X b s K)
  | false => Sm X (.seq a b) s K
 | .cond c a b, s, K => ev c s.fr fun v => match v with
  | .b t => Br t (run X a s K) (run X b s K)
  | _ => False
 | .block id c, s, K => run X c s (inB id K)
 | .loop c, s, K => Sm X (.loop c) s K
 | .exit id, s, K => K (.exit id) s
 | .ret, s, K => K .ret s
 | c, s, K => Sm X c s K
end En
namespace En
open Go.RowKit Ba Mem
theorem Ext.refl (m : List Row) : Ext m m := fun _ r h => ⟨r, h, rfl, rfl⟩
theorem Ext.trans {a b c : List Row} (h : Ext a b) (k : Ext b c) : Ext a c := fun j r hj => by
 obtain ⟨r1, h1, h2, h3⟩ := h j r hj
 obtain ⟨r2, k1, k2, k3⟩ := k j r1 h1
 exact ⟨r2, k1, k2.trans h2, k3.trans h3⟩
theorem Ext.app (m l : List Row) : Ext m (m ++ l) := fun j r h => ⟨r, by rw [List.getElem?_append_left (List.getElem?_eq_some_iff.1 h).1]; exact h, rfl, rfl⟩
theorem Ext.set {m : List Row} {j : Nat} {r : Row} (h : m[j]? = some r) (cs : List SV) : Ext m (m.set j { r with cs := cs }) := fun i q hq => by
 by_cases e : j = i
 ·subst e; rw [h] at hq; cases hq
  exact ⟨{ r with cs := cs }, by rw [List.getElem?_set_self (List.getElem?_eq_some_iff.1 h).1], rfl, rfl⟩
 ·exact ⟨q, by rw [List.getElem?_set_ne e]; exact hq, rfl, rfl⟩
theorem Ext.len {m m' : List Row} (h : Ext m m') : m.length ≤ m'.length := by
 rcases Nat.lt_or_ge m'.length m.length with hl | hl
 ·obtain ⟨r, h1, _⟩ := h m'.length m[m'.length] (List.getElem?_eq_getElem hl)
  have := (List.getElem?_eq_some_iff.1 h1).1
  omega
 ·exact hl
section
variable {m m' : List Row}
mutual
theorem den_ext (h : Ext m m') : ∀ v : SV, okV m.length v = true → den m' v = den m v
 | .v _, _ => rfl
 | .i _ _, _ => rfl
 | .b _, _ => rfl
 | .p j o, hv => by
  have hj : j < m.length := by simpa [okV] using hv
  obtain ⟨r, h1, h2, h3⟩ := h j _ (List.getElem?_eq_getElem hj)
  simp only [den, h1, List.getElem?_eq_getElem hj, h2, h3]
 | .s j o n c, hv => by
  have hj : j < m.length := by simpa [okV] using hv
  obtain ⟨r, h1, h2, h3⟩ := h j _ (List.getElem?_eq_getElem hj)
  simp only [den, h1, List.getElem?_eq_getElem hj, h2, h3]
 | .f fn cs, hv => by simp only [den]; rw [denL_ext h cs hv]
 | .a cs, hv => by simp only [den]; rw [denL_ext h cs hv]
 | .t cs, hv => by simp only [den]; rw [denL_ext h cs hv]
theorem denL_ext (h : Ext m m') : ∀ l : List SV, okL m.length l = true → denL m' l = denL m l
 | [], _ => rfl
 | x :: r, hv => by
  simp only [okL, Bool.and_eq_true] at hv
  simp only [denL, den_ext h x hv.1, denL_ext h r hv.2]
end
mutual
theorem okV_mono {a b : Nat} (h : a ≤ b) : ∀ v : SV, okV a v = true → okV b v = true
 | .v _, _ => rfl
 | .i _ _, _ => rfl
 | .b _, _ => rfl
 | .p j o, hv => by simp [okV] at hv ⊢; omega
 | .s j o n c, hv => by simp [okV] at hv ⊢; omega
 | .f fn cs, hv => okL_mono h cs hv
 | .a cs, hv => okL_mono h cs hv
 | .t cs, hv => okL_mono h cs hv
theorem okL_mono {a b : Nat} (h : a ≤ b) : ∀ l : List SV, okL a l = true → okL b l = true
 | [], _ => rfl
 | x :: r, hv => by
  simp only [okL, Bool.and_eq_true] at hv ⊢
  exact ⟨okV_mono h x hv.1, okL_mono h r hv.2⟩
end
theorem denL_len : ∀ l : List SV, (denL m l).length = l.length
 | [] => rfl
 | _ :: r => by simp [denL, denL_len r]
theorem denL_get : ∀ (l : List SV) (k : Nat), (denL m l)[k]? = (l[k]?).map (den m)
 | [], _ => rfl
 | _ :: _, 0 => rfl
 | _ :: r, k + 1 => by simp [denL, denL_get r k]
theorem denL_app : ∀ l k : List SV, denL m (l ++ k) = denL m l ++ denL m k
 | [], _ => rfl
 | x :: r, k => by simp [denL, denL_app r k]
theorem denL_drop : ∀ (l : List SV) (k : Nat), (denL m l).drop k = denL m (l.drop k)
 | [], k => by simp [denL]
 | x :: r, 0 => rfl
 | x :: r, k + 1 => by simp [denL, denL_drop r k]
theorem denL_take : ∀ (l : List SV) (k : Nat), (denL m l).take k = denL m (l.take k)
 | [], k => by simp [denL]
 | x :: r, 0 => rfl
 | x :: r, k + 1 => by simp [denL, denL_take r k]
theorem okL_mem {n : Nat} : ∀ {l : List SV}, okL n l = true ↔ ∀ v ∈ l, okV n v = true
 | [] => by simp [okL]
 | x :: r => by simp [okL, okL_mem (l := r)]
theorem okL_app {n : Nat} {l k : List SV} (h : okL n l = true) (h' : okL n k = true) : okL n (l ++ k) = true := by
 rw [okL_mem] at *; intro v hv; rcases List.mem_append.1 hv with q | q; exact h v q; exact h' v q
theorem okL_at {n k : Nat} {l : List SV} {v : SV} (h : okL n l = true) (hv : l[k]? = some v) : okV n v = true := okL_mem.1 h v (List.mem_of_getElem? hv)
theorem okL_sub {n : Nat} {l k : List SV} (h : okL n l = true) (hs : ∀ v ∈ k, v ∈ l) : okL n k = true := okL_mem.2 fun v hv => okL_mem.1 h v (hs v hv)
end
section
variable {K : SV → Prop} {KL : List SV → Prop}
theorem lk_of {k : Nat} : ∀ {fr : List (Nat × SV)}, lk k fr K → ∃ v, lkO k fr = some v ∧ K v
 | [], h => h.elim
 | (j, v) :: r, h => by
  unfold lk at h; unfold lkO
  cases hb : Nat.beq j k with
  | true => rw [hb] at h; exact ⟨v, rfl, h⟩
  | false => rw [hb] at h; exact lk_of h
theorem tyK_of {t : Nat} {K : Ty → Prop} : ∀ {tab : Tab}, tyK t tab K → ∃ y, tyO t tab = some y ∧ K y
 | [], h => h.elim
 | (j, v) :: r, h => by
  unfold tyK at h; unfold tyO
  cases hb : Nat.beq j t with
  | true => rw [hb] at h; exact ⟨v, rfl, h⟩
  | false => rw [hb] at h; exact tyK_of h
theorem nth_of : ∀ {k : Nat} {l : List SV}, nth k l K → ∃ v, l[k]? = some v ∧ K v
 | 0, [], h => h.elim
 | _ + 1, [], h => h.elim
 | 0, v :: _, h => ⟨v, rfl, h⟩
 | k + 1, _ :: r, h => by obtain ⟨v, hv, hK⟩ := nth_of (k := k) (l := r) h; exact ⟨v, by simpa using hv, hK⟩
theorem nthR_of {K : Row → Prop} : ∀ {k : Nat} {l : List Row}, nthR k l K → ∃ v, l[k]? = some v ∧ K v
 | 0, [], h => h.elim
 | _ + 1, [], h => h.elim
 | 0, v :: _, h => ⟨v, rfl, h⟩
 | k + 1, _ :: r, h => by obtain ⟨v, hv, hK⟩ := nthR_of (k := k) (l := r) h; exact ⟨v, by simpa using hv, hK⟩
theorem tk_of : ∀ {n : Nat} {l : List SV} {KL : List SV → Prop}, tk n l KL → n ≤ l.length ∧ KL (l.take n)
 | 0, l, _, h => ⟨Nat.zero_le _, by cases l <;> (unfold tk at h; simpa using h)⟩
 | _ + 1, [], _, h => h.elim
 | n + 1, x :: r, KL, h => by obtain ⟨h1, h2⟩ := tk_of (n := n) (l := r) h; exact ⟨by simp; omega, by simpa using h2⟩
theorem tkN_of : ∀ {k n : Nat} {l : List SV}, tkN k n l KL → k + n ≤ l.length ∧ KL ((l.drop k).take n)
 | 0, n, l, h => by obtain ⟨h1, h2⟩ := tk_of (show tk n l KL by cases l <;> exact h); exact ⟨by omega, by simpa using h2⟩
 | _ + 1, _, [], h => h.elim
 | k + 1, n, _ :: r, h => by obtain ⟨h1, h2⟩ := tkN_of (k := k) (n := n) (l := r) h; exact ⟨by simp; omega, by simpa using h2⟩
def lay (q : Nat) (vs l : List SV) : List SV := l.take q ++ vs ++ l.drop (q + vs.length)
theorem setN_of : ∀ {q : Nat} {vs l : List SV} {KL : List SV → Prop}, setN q vs l KL → q + vs.length ≤ l.length ∧ KL (lay q vs l)
 | 0, [], l, _, h => ⟨by simp, by cases l <;> (unfold setN at h; simpa [lay] using h)⟩
 | 0, _ :: _, [], _, h => h.elim
 | 0, v :: vs, x :: r, KL, h => by
  obtain ⟨h1, h2⟩ := setN_of (q := 0) (vs := vs) (l := r) h
  refine ⟨by simp at *; omega, ?_⟩
  simpa [lay] using h2
 | _ + 1, _, [], _, h => h.elim
 | k + 1, vs, x :: r, KL, h => by
  obtain ⟨h1, h2⟩ := setN_of (q := k) (vs := vs) (l := r) h
  refine ⟨by simp; omega, ?_⟩
  have : k + 1 + vs.length = k + vs.length + 1 := by omega
  simpa [lay, this] using h2
theorem setR_of {f : Row → (Row → Prop) → Prop} : ∀ {j : Nat} {m : List Row} {K : List Row → Prop}, setR j f m K → ∃ r, m[j]? = some r ∧ f r fun r' => K (m.set j r')
 | 0, [], _, h => h.elim
 | _ + 1, [], _, h => h.elim
 | 0, r :: m, _, h => ⟨r, rfl, h⟩
 | k + 1, x :: m, K, h => by obtain ⟨r, hr, hf⟩ := setR_of (j := k) (m := m) h; exact ⟨r, by simpa using hr, hf⟩
theorem appR_of {r : Row} : ∀ {m : List Row} {K : List Row → Prop}, appR m r K → K (m ++ [r])
 | [], _, h => h
 | x :: m, K, h => by have := appR_of (m := m) h; simpa using this
theorem lenR_of : ∀ {m : List Row} {n : Nat} {K : Nat → Prop}, lenR m n K → K (n + m.length)
 | [], _, _, h => h
 | x :: m, n, K, h => by have := lenR_of (m := m) h; simpa [Nat.add_assoc, Nat.add_comm 1] using this
theorem appS_of : ∀ {l k : List SV} {KL : List SV → Prop}, appS l k KL → KL (l ++ k)
 | [], _, _, h => h
 | x :: r, k, KL, h => by have := appS_of (l := r) h; simpa using this
end
section
variable {m : List Row} {tm : Array Value} {a : Act} {fr : List (Nat × SV)} {x : Operand} {K : SV → Prop}
theorem evc_of {c : Value} (h : evc c K) : ∃ v, okV m.length v = true ∧ c = den m v ∧ K v := by
 unfold evc at h
 split at h
 ·exact ⟨_, rfl, rfl, h⟩
 ·exact ⟨_, rfl, rfl, h⟩
 ·exact ⟨_, rfl, rfl, h⟩
theorem ev_of (hf : FrOk m a.tmps fr) (h : ev x fr K) : ∃ v, okV m.length v = true ∧ a.eval x = den m v ∧ K v := by
 cases x with
 | tmp t =>
  obtain ⟨v, hv, hK⟩ := lk_of h
  obtain ⟨h1, h2⟩ := hf t v hv
  exact ⟨v, h1, by simp [Act.eval, h2], hK⟩
 | const c => exact evc_of h
 | global g => exact ⟨_, rfl, rfl, h⟩
 | func f => exact ⟨_, rfl, rfl, h⟩
theorem evL_of (hf : FrOk m a.tmps fr) : ∀ {xs : List Operand} {K : List SV → Prop}, evL xs fr K → ∃ l, okL m.length l = true ∧ xs.map a.eval = denL m l ∧ K l
 | [], _, h => ⟨[], rfl, rfl, h⟩
 | x :: r, K, h => by
  obtain ⟨v, h1, h2, h3⟩ := ev_of hf h
  obtain ⟨l, k1, k2, k3⟩ := evL_of hf h3
  exact ⟨v :: l, by simp [okL, h1, k1], by simp [denL, h2, k2], k3⟩
end
end En
namespace En
open Go.RowKit Ba Mem
def fldChk (P : Program) : List Field → List (Nat × Nat × Bool) → Bool
 | [], [] => true
 | f :: fs, q :: qs => Nat.beq f.offset q.1 && (match P.info? f.type, P.underlying f.type with
  | some i, some d => Nat.beq i.size q.2.1 && !(Nat.beq q.2.1 0) && (d.isRow == q.2.2) && (q.2.2 || Nat.beq q.2.1 1)
  | _, _ => false) && fldChk P fs qs
 | _, _ => false
def flatF (P : Program) (g : TypeId → Option (List Bool)) : List Field → Nat → Option (List Bool)
 | [], _ => some []
 | f :: fs, off => match f.name == "_" || !(Nat.beq f.offset off) with
  | true => none
  | false => match P.info? f.type, P.underlying f.type, g f.type with
   | some i, some d, some l => match Nat.beq i.size l.length && (d.isRow || Nat.beq l.length 1) with
    | true => match flatF P g fs (off + l.length) with
     | some r => some (l ++ r)
     | none => none
    | false => none
   | _, _, _ => none
def flatT (P : Program) : Nat → TypeId → Option (List Bool)
 | 0, _ => none
 | n + 1, t => match P.underlying t with
  | some (.int _) => some [true]
  | some .bool => some [false]
  | some (.struct fs) => match P.stoodInHeld t with
   | true => none
   | false => flatF P (flatT P n) fs.toList 0
  | _ => none
def undChk (P : Program) (t : TypeId) (y : Ty) : Bool :=
 match P.underlying t, P.info? t with
 | some d, some i => (d.isRow == y.row) && Nat.beq i.size y.size && Nat.beq y.zero.length y.size && okL 0 y.zero && (y.row || (Nat.beq y.size 1 && y.zero.all oneS)) &&
  (match d with | .struct fs => fldChk P fs.toList y.flds | _ => y.flds.isEmpty) &&
  (match d with | .slice e => y.sl && Nat.beq e y.el | _ => !y.sl) &&
  (match d with | .int k => y.ik == some k | _ => y.ik == none) &&
  (match d with | .pointer _ => true | _ => !y.pt) &&
  (match y.eqk with | [] => true | l => flatT P 10 t == some l && !(P.eqGuardType P.depth t))
 | _, _ => false
def zeroV (y : Ty) : Value :=
 match y.row with
 | true => .agg (denL [] y.zero).toArray
 | false => match y.zero with
  | [v] => den [] v
  | _ => undef
structure TyOk (P : Program) (t : TypeId) (y : Ty) : Prop where
 und : undChk P t y = true
 zero : (P.info? t).bind (·.zero) = some (zeroV y)
def TabOk (P : Program) (tab : Tab) : Prop := ∀ t y, tyO t tab = some y → TyOk P t y
theorem TabOk.nil {P : Program} : TabOk P [] := fun _ _ h => by cases h
theorem TabOk.cons {P : Program} {t : TypeId} {y : Ty} {r : Tab} (h : TyOk P t y) (k : TabOk P r) : TabOk P ((t, y) :: r) := fun u z hz => by
 unfold tyO at hz
 cases hb : Nat.beq t u with
 | true => rw [hb] at hz; have := Nat.eq_of_beq_eq_true hb; subst this; cases hz; exact h
 | false => rw [hb] at hz; exact k u z hz
theorem fld_of {P : Program} : ∀ {fs : List Field} {qs : List (Nat × Nat × Bool)}, fldChk P fs qs = true → fs.length = qs.length ∧ ∀ (k : Nat) (q : Nat × Nat × Bool), qs[k]? = some q → ∃ (f : Field) (i : TypeInfo) (d : TypeDesc), fs[k]? = some f ∧ f.offset = q.1 ∧ P.info? f.type = some i ∧ P.underlying f.type = some d ∧ i.size = q.2.1 ∧ q.2.1 ≠ 0 ∧ d.isRow = q.2.2 ∧ (q.2.2 = false → q.2.1 = 1)
 | [], [], _ => ⟨rfl, fun k q h => by simp at h⟩
 | [], _ :: _, h => by simp [fldChk] at h
 | _ :: _, [], h => by simp [fldChk] at h
 | f :: fs, q :: qs, h => by
  unfold fldChk at h
  simp only [Bool.and_eq_true] at h
  obtain ⟨⟨h1, h2⟩, h3⟩ := h
  obtain ⟨k1, k2⟩ := fld_of h3
  refine ⟨by simp [k1], fun k q' hq => ?_⟩
  cases k with
  | zero =>
   simp at hq; subst hq
   cases hi : P.info? f.type with
   | none => simp [hi] at h2
   | some i =>
    cases hu : P.underlying f.type with
    | none => simp [hi, hu] at h2
    | some d =>
     simp [hi, hu] at h2
     exact ⟨f, i, d, rfl, Nat.eq_of_beq_eq_true h1, hi, hu, h2.1.1.1, (by intro h0; rw [h0] at h2; exact absurd h2.1.1.2 (by decide)), h2.1.2, fun hf => by rcases h2.2 with h | h; rw [hf] at h; cases h; exact h⟩
  | succ k => simpa using k2 k q' (by simpa using hq)
structure TyOut (P : Program) (t : TypeId) (y : Ty) (d : TypeDesc) (i : TypeInfo) : Prop where
 un : P.underlying t = some d
 inf : P.info? t = some i
 row : d.isRow = y.row
 size : i.size = y.size
 zlen : y.zero.length = y.size
 zok : okL 0 y.zero = true
 one : y.row = false → y.size = 1
 zone : y.row = false → ∀ v, y.zero[0]? = some v → oneS v = true
 st : ∀ (k : Nat) (q : Nat × Nat × Bool), y.flds[k]? = some q → ∃ fs, d = .struct fs ∧ fldChk P fs.toList y.flds = true
 sl : y.sl = true → d = .slice y.el
 ik : ∀ k, y.ik = some k → d = .int k
 pt : y.pt = true → ∃ e, d = .pointer e
 eqk : y.eqk ≠ [] → flatT P 10 t = some y.eqk ∧ P.eqGuardType P.depth t = false
 zero : i.zero = some (zeroV y)
theorem TyOk.out {P : Program} {t : TypeId} {y : Ty} (h : TyOk P t y) : ∃ d i, TyOut P t y d i := by
 have hu := h.und
 unfold undChk at hu
 split at hu
 ·rename_i d i h1 h2
  simp only [Bool.and_eq_true, beq_iff_eq] at hu
  obtain ⟨⟨⟨⟨⟨⟨⟨⟨⟨a1, a2⟩, a3⟩, a4⟩, a8⟩, a5⟩, a6⟩, a7⟩, a9⟩, a10⟩ := hu
  refine ⟨d, i, h1, h2, a1, Nat.eq_of_beq_eq_true a2, Nat.eq_of_beq_eq_true a3, a4, fun hf => by rw [hf] at a8; simp only [Bool.false_or, Bool.and_eq_true] at a8; exact Nat.eq_of_beq_eq_true a8.1, fun hf v hv => by rw [hf] at a8; simp only [Bool.false_or, Bool.and_eq_true, List.all_eq_true] at a8; exact a8.2 v (List.mem_of_getElem? hv), fun k q hq => ?_, fun hs => ?_, fun k hk => ?_, fun hp => ?_, fun he => ?_, ?_⟩
  ·cases d <;> simp_all
  ·cases d <;> simp_all
  ·cases d <;> simp_all
  ·cases d <;> simp_all
  ·split at a10
   ·rename_i e; exact absurd e he
   ·simpa using a10
  ·have := h.zero; rw [h2] at this; simpa using this
 ·cases hu
theorem ikeq_of {a b : IntKind} (h : ikeq a b = true) : a = b := by cases a <;> cases b <;> first | rfl | cases h
section
variable {P : Program} {tab : Tab} {m : List Row} {a : Act} {fr : List (Nat × SV)} {o : Oper} {K : SV → Prop} {F : Prop}
def Yl (P : Program) (m : List Row) (a : Act) (o : Oper) (K : SV → Prop) (F : Prop) : Prop :=
 F ∨ ∃ v, okV m.length v = true ∧ (∀ w, (execOp a.eval o).run P w = .ok (.value (den m v)) w) ∧ K v
theorem run_part_row {t : TypeId} {d : TypeDesc} {i : TypeInfo} {off n : Nat} {l : List SV} (hu : P.underlying t = some d) (hi : P.info? t = some i) (hr : d.isRow = true) (hn : i.size = n) (w : World) :
  (part t (denL m l).toArray off).run P w = .ok (.agg (denL m ((l.drop off).take n)).toArray) w := by
 have ha : (isAgg t).run P w = .ok true w := by cases d <;> simp_all [isAgg, underlying, TypeDesc.isRow]
 simp only [part, Sem.run_bind, ha, Result.andThen_ok, if_true, sizeOf, typeInfo]
 simp [hi, hn, ← denL_take, ← denL_drop, List.take_drop]
theorem run_part_cell {t : TypeId} {d : TypeDesc} {off : Nat} {l : List SV} {v : SV} (hu : P.underlying t = some d) (hr : d.isRow = false) (hv : l[off]? = some v) (w : World) :
  (part t (denL m l).toArray off).run P w = .ok (den m v) w := by
 have ha : (isAgg t).run P w = .ok false w := by cases d <;> simp_all [isAgg, underlying, TypeDesc.isRow]
 have hg : (denL m l)[off]? = some (den m v) := by rw [denL_get, hv]; rfl
 simp only [part, Sem.run_bind, ha, Result.andThen_ok]
 simp [hg]
theorem binI_of {op : BinOp} {t u : TypeId} {x y : Operand} {k : IntKind} {p q : Int} (ho : o.op = .binOp op t x y u) (hx : a.eval x = .int k p) (hy : a.eval y = .int k q) (h : binI op k p q K F) : Yl P m a o K F := by
  unfold binI at h
  split at h
  all_goals first
    | exact .inl h
    | (refine .inr ⟨_, rfl, fun w => ?_, (by first | exact h | (replace h := h.out; exact h))⟩
       unfold execOp
       simp [ho, hx, hy, den, eqGuard, binOp, Op.intArith, Op.intCmp, Op.intBits, bitI])
    | (replace h := h.out
       refine .inr ⟨_, rfl, fun w => ?_, (by first | exact h.2 | (have h2 := h.2; replace h2 := h2.out; exact h2))⟩
       have h1 := h.1
       unfold execOp
       simp [ho, hx, hy, den, eqGuard, binOp, Op.intDiv, h1])
theorem eqK_len : ∀ {ks : List Bool} {xs ys : List SV} {K : Bool → Prop}, eqK ks xs ys K → xs.length = ks.length ∧ ys.length = ks.length
 | [], [], [], _, _ => ⟨rfl, rfl⟩
 | true :: ks, .i k x :: r, .i k' y :: q, K, h => by
  unfold eqK at h
  split at h
  ·obtain ⟨h1, h2⟩ := eqK_len h; exact ⟨by simp [h1], by simp [h2]⟩
  ·exact h.elim
 | false :: ks, .b x :: r, .b y :: q, K, h => by
  unfold eqK at h
  obtain ⟨h1, h2⟩ := eqK_len h; exact ⟨by simp [h1], by simp [h2]⟩
def eqA : List SV → List SV → Bool
 | .i _ x :: r, .i _ y :: q => (x == y) && eqA r q
 | .b x :: r, .b y :: q => (x == y) && eqA r q
 | _, _ => true
theorem eqK_mono : ∀ {ks : List Bool} {xs ys : List SV} {K K' : Bool → Prop}, (∀ b, K b → K' b) → eqK ks xs ys K → eqK ks xs ys K'
 | [], [], [], _, _, hm, h => hm _ h
 | true :: ks, .i k x :: r, .i k' y :: q, K, K', hm, h => by
  unfold eqK at h ⊢
  cases hk : ikeq k k' with
  | true => rw [hk] at h; exact eqK_mono (fun b hb => hm _ hb) h
  | false => rw [hk] at h; exact h.elim
 | false :: ks, .b x :: r, .b y :: q, K, K', hm, h => by
  unfold eqK at h ⊢
  exact eqK_mono (fun b hb => hm _ hb) h
theorem eqK_val : ∀ {ks : List Bool} {xs ys : List SV} {K : Bool → Prop}, eqK ks xs ys K → eqK ks xs ys (fun b => b = eqA xs ys) ∧ K (eqA xs ys)
 | [], [], [], _, h => ⟨rfl, h⟩
 | true :: ks, .i k x :: r, .i k' y :: q, K, h => by
  unfold eqK at h ⊢
  cases hk : ikeq k k' with
  | true => rw [hk] at h; obtain ⟨h1, h2⟩ := eqK_val h; exact ⟨eqK_mono (fun b hb => by rw [hb]; rfl) h1, h2⟩
  | false => rw [hk] at h; exact h.elim
 | false :: ks, .b x :: r, .b y :: q, K, h => by
  unfold eqK at h ⊢
  obtain ⟨h1, h2⟩ := eqK_val h
  exact ⟨eqK_mono (fun b hb => by rw [hb]; rfl) h1, h2⟩
def cellsV (d : TypeDesc) (m : List Row) (xs : List SV) : Value := match d.isRow with
 | true => .agg (denL m xs).toArray
 | false => match xs with
  | [v] => den m v
  | _ => undef
theorem part_cellsV {t : TypeId} {d : TypeDesc} {i : TypeInfo} {off n : Nat} {l : List SV} (hu : P.underlying t = some d) (hi : P.info? t = some i) (hn : i.size = n) (h1 : d.isRow = false → n = 1) (hle : off + n ≤ l.length) (w : World) :
  (part t (denL m l).toArray off).run P w = .ok (cellsV d m ((l.drop off).take n)) w := by
 cases hr : d.isRow with
 | true => rw [run_part_row hu hi hr hn]; simp only [cellsV, hr]
 | false =>
  have := h1 hr
  subst this
  have hv : l[off]? = some (l[off]'(by omega)) := List.getElem?_eq_getElem _
  rw [run_part_cell hu hr hv]
  have : (l.drop off).take 1 = [l[off]'(by omega)] := by
   rw [List.drop_eq_getElem_cons (by omega)]; rfl
  simp only [cellsV, hr, this]
theorem eqK_split {k2 : List Bool} : ∀ {k1 : List Bool} {xs ys : List SV} {K : Bool → Prop}, eqK (k1 ++ k2) xs ys K → eqK k1 (xs.take k1.length) (ys.take k1.length) fun b => eqK k2 (xs.drop k1.length) (ys.drop k1.length) fun c => K (b && c)
 | [], xs, ys, K, h => by simpa [eqK] using h
 | true :: ks, .i k x :: r, .i k' y :: q, K, h => by
  simp only [List.cons_append, eqK] at h
  simp only [List.length_cons, List.take_succ_cons, List.drop_succ_cons, eqK]
  cases hk : ikeq k k' with
  | true => rw [hk] at h; have := eqK_split h; simpa [Bool.and_assoc] using this
  | false => rw [hk] at h; exact h.elim
 | false :: ks, .b x :: r, .b y :: q, K, h => by
  simp only [List.cons_append, eqK] at h
  simp only [List.length_cons, List.take_succ_cons, List.drop_succ_cons, eqK]
  have := eqK_split h; simpa [Bool.and_assoc] using this
theorem flat_of {w : World} : ∀ {n : Nat} {t : TypeId} {d : TypeDesc} {ks : List Bool} {xs ys : List SV} {K : Bool → Prop} (e : Nat), P.underlying t = some d → flatT P n t = some ks → (d.isRow = false → ks.length = 1) → eqK ks xs ys K →
  ∃ b, (Op.equalIn (e + n) t (cellsV d m xs) (cellsV d m ys)).run P w = .ok b w ∧ K b
 | 0, _, _, _, _, _, _, _, _, h, _, _ => by simp [flatT] at h
 | n + 1, t, d, ks, xs, ys, K, e, hu, hf, h1, h => by
  unfold flatT at hf
  rw [hu] at hf
  cases d with
  | int k =>
   simp at hf; subst hf
   obtain ⟨l1, l2⟩ := eqK_len h
   obtain ⟨x, rfl⟩ := List.length_eq_one_iff.1 l1
   obtain ⟨y, rfl⟩ := List.length_eq_one_iff.1 l2
   cases x <;> cases y <;> simp only [eqK] at h
   split at h
   ·rename_i hk
    have := ikeq_of hk
    subst this
    simp only [Bool.and_true] at h
    exact ⟨_, run_equalIn_int w (e + n) t _ _ _ _ hu, h⟩
   ·exact h.elim
  | bool =>
   simp at hf; subst hf
   obtain ⟨l1, l2⟩ := eqK_len h
   obtain ⟨x, rfl⟩ := List.length_eq_one_iff.1 l1
   obtain ⟨y, rfl⟩ := List.length_eq_one_iff.1 l2
   cases x <;> cases y <;> simp only [eqK] at h
   simp only [Bool.and_true] at h
   exact ⟨_, run_equalIn_bool' w (e + n) t _ _ hu, h⟩
  | struct fs =>
   simp only at hf
   cases hs : P.stoodInHeld t with
   | true => simp [hs] at hf
   | false =>
    simp only [hs] at hf
    have hfs : P.fieldsOf t = fs := by simp [Program.fieldsOf, hu]
    have hrun := run_equalIn_agg w (e + n) t (denL m xs).toArray (denL m ys).toArray (by rw [hfs]; exact hu) hs
    rw [hfs] at hrun
    have key : ∀ (l : List Field) (off : Nat) (ks : List Bool) (K : Bool → Prop), off + ks.length = xs.length → ys.length = xs.length → flatF P (flatT P n) l off = some ks → eqK ks (xs.drop off) (ys.drop off) K → ∃ b, (Op.eqFields (e + n) (denL m xs).toArray (denL m ys).toArray l).run P w = .ok b w ∧ K b := by
     intro l
     induction l with
     | nil =>
      intro off ks K hl hl2 hf h
      simp [flatF] at hf; subst hf
      have e1 : xs.drop off = [] := List.drop_eq_nil_of_le (by simp at hl; omega)
      have e2 : ys.drop off = [] := List.drop_eq_nil_of_le (by simp at hl; omega)
      rw [e1, e2] at h
      exact ⟨true, by simp [Op.eqFields], h⟩
     | cons f l ih =>
      intro off ks K hl hl2 hf h
      unfold flatF at hf
      split at hf
      ·cases hf
      ·rename_i hnm
       simp only [Bool.or_eq_false_iff, Bool.not_eq_false'] at hnm
       have hoff := Nat.eq_of_beq_eq_true hnm.2
       have hname : f.name ≠ "_" := by simpa using hnm.1
       split at hf
       ·rename_i i d kl hi hd hg
        split at hf
        ·rename_i hc
         simp only [Bool.and_eq_true, Bool.or_eq_true] at hc
         have hsz := Nat.eq_of_beq_eq_true hc.1
         have hone : d.isRow = false → kl.length = 1 := fun hr => by
          rcases hc.2 with h | h
          ·rw [hr] at h; cases h
          ·exact Nat.eq_of_beq_eq_true h
         split at hf
         ·rename_i r hr
          simp only [Option.some.injEq] at hf
          subst hf
          simp only [List.length_append] at hl
          have h2 := eqK_split h
          obtain ⟨b, hb1, hb2⟩ := flat_of (w := w) e hd hg hone h2
          have p1 := part_cellsV (m := m) (l := xs) hd hi hsz hone (off := off) (by omega) w
          have p2 := part_cellsV (m := m) (l := ys) hd hi hsz hone (off := off) (by omega) w
          rw [List.drop_drop, List.drop_drop] at hb2
          obtain ⟨c, hc1, hc2⟩ := ih (off + kl.length) r _ (by omega) hl2 hr hb2
          refine ⟨b && c, ?_, hc2⟩
          simp only [Op.eqFields, if_pos hname, Sem.run_bind, hoff, p1, p2, Result.andThen_ok, hb1]
          cases b
          ·simp
          ·simpa using hc1
         ·cases hf
        ·cases hf
       ·cases hf
    obtain ⟨l1, l2⟩ := eqK_len h
    obtain ⟨b, hb1, hb2⟩ := key fs.toList 0 ks K (by omega) (by omega) hf (by simpa using h)
    exact ⟨b, by simp only [cellsV, TypeDesc.isRow]; rw [show e + (n + 1) = e + n + 1 from rfl, hrun]; exact hb1, hb2⟩
  | _ => simp at hf
theorem bin_of {op : BinOp} {t u : TypeId} {x y : Operand} {p q : SV} (ht : TabOk P tab) (kp : okV m.length p = true) (ho : o.op = .binOp op t x y u) (hx : a.eval x = den m p) (hy : a.eval y = den m q) (h : bin tab t op p q K F) : Yl P m a o K F := by
 unfold bin at h
 split at h
 ·rename_i k x k' y
  split at h
  ·replace h := And.intro h.out.1 h.out.2.out
   refine .inr ⟨_, rfl, fun w => ?_, h.2⟩
   have h1 : ¬ y < 0 := by have := h.1; omega
   unfold execOp
   simp [ho, hx, hy, den, eqGuard, binOp, Op.shift, h1]
  ·replace h := h.out
   refine .inr ⟨_, rfl, fun w => ?_, h.2⟩
   have h1 : ¬ y < 0 := by have := h.1; omega
   unfold execOp
   simp [ho, hx, hy, den, eqGuard, binOp, Op.shift, h1]
  ·split at h
   ·exact .inl h
   ·rename_i hk
    have := ikeq_of hk
    subst this
    exact binI_of ho hx hy h
 ·obtain ⟨ty, hty, h⟩ := tyK_of h
  obtain ⟨d, i, T⟩ := (ht _ _ hty).out
  split at h
  ·exact .inl h
  ·rename_i hrow
   split at h
   ·rename_i he
    obtain ⟨hfl, _⟩ := T.eqk (by rw [he]; simp)
    have hd : d = .bool := by
     have hr := T.row
     rw [hrow] at hr
     rw [he] at hfl
     unfold flatT at hfl
     rw [T.un] at hfl
     cases d <;> simp_all [TypeDesc.isRow]
    subst hd
    split at h
    ·refine .inr ⟨_, rfl, fun w => ?_, h⟩
     unfold execOp
     simp [ho, hx, hy, den, eqGuard, binOp, Op.equal, Op.maxDepth, run_equalIn_bool' w 9999 t _ _ T.un]
    ·refine .inr ⟨_, rfl, fun w => ?_, h⟩
     unfold execOp
     simp [ho, hx, hy, den, eqGuard, binOp, Op.equal, Op.maxDepth, run_equalIn_bool' w 9999 t _ _ T.un]
    ·exact .inl h
   ·exact .inl h
 ·rename_i xs ys
  obtain ⟨ty, hty, h⟩ := tyK_of h
  obtain ⟨d, i, T⟩ := (ht _ _ hty).out
  split at h
  ·rename_i hrow
   split at h
   ·exact .inl h
   ·rename_i k ks he
    obtain ⟨hfl, hg⟩ := T.eqk (by rw [he]; simp)
    rw [he] at hfl
    have hrow2 : d.isRow = true := by rw [T.row, hrow]
    have hcell : ∀ l : List SV, cellsV d m l = .agg (denL m l).toArray := fun l => by simp only [cellsV, hrow2]
    split at h
    ·obtain ⟨h1, h2⟩ := eqK_val h
     refine .inr ⟨.b (eqA xs ys), rfl, fun w => ?_, h2⟩
     obtain ⟨b, hb1, rfl⟩ := flat_of (m := m) (w := w) 9990 T.un hfl (by rw [hrow2]; simp) h1
     rw [hcell, hcell] at hb1
     unfold execOp
     simp only [ho, hx, hy, den, Sem.run_bind, run_eqGuard_agg w _ t _ _ _ _ hg, Result.andThen_ok, run_eql_struct, hb1, Sem.run_pure]
    ·obtain ⟨h1, h2⟩ := eqK_val h
     refine .inr ⟨.b (!eqA xs ys), rfl, fun w => ?_, h2⟩
     obtain ⟨b, hb1, rfl⟩ := flat_of (m := m) (w := w) 9990 T.un hfl (by rw [hrow2]; simp) h1
     rw [hcell, hcell] at hb1
     unfold execOp
     simp only [ho, hx, hy, den, Sem.run_bind, run_eqGuard_agg w _ t _ _ _ _ hg, Result.andThen_ok, run_neq_struct, hb1, Sem.run_pure]
    ·exact .inl h
  ·exact .inl h
 ·rename_i j q
  obtain ⟨ty, hty, h⟩ := tyK_of h
  obtain ⟨d, i, T⟩ := (ht _ _ hty).out
  split at h
  ·rename_i hpt
   obtain ⟨e, rfl⟩ := T.pt hpt
   have heq : ∀ (A : Option Addr) (w : World), (Op.equal t (.pointer A) (.pointer none)).run P w = .ok A.isNone w := fun A w => run_equal_pointer_nil w t A (by rw [T.un]; simp [Program.pointee, T.un])
   have hj : j < m.length := by simpa [okV] using kp
   split at h
   ·refine .inr ⟨_, rfl, fun w => ?_, h⟩
    unfold execOp
    simp [ho, hx, hy, den, List.getElem?_eq_getElem hj, eqGuard, binOp, heq]
   ·refine .inr ⟨_, rfl, fun w => ?_, h⟩
    unfold execOp
    simp [ho, hx, hy, den, List.getElem?_eq_getElem hj, eqGuard, binOp, heq]
   ·exact .inl h
  ·exact .inl h
 ·rename_i A
  obtain ⟨ty, hty, h⟩ := tyK_of h
  obtain ⟨d, i, T⟩ := (ht _ _ hty).out
  split at h
  ·rename_i hpt
   obtain ⟨e, rfl⟩ := T.pt hpt
   have heq : ∀ (A : Option Addr) (w : World), (Op.equal t (.pointer A) (.pointer none)).run P w = .ok A.isNone w := fun A w => run_equal_pointer_nil w t A (by rw [T.un]; simp [Program.pointee, T.un])
   split at h
   ·refine .inr ⟨_, rfl, fun w => ?_, h⟩
    unfold execOp
    cases A <;> simp [ho, hx, hy, den, eqGuard, binOp, heq]
   ·refine .inr ⟨_, rfl, fun w => ?_, h⟩
    unfold execOp
    cases A <;> simp [ho, hx, hy, den, eqGuard, binOp, heq]
   ·exact .inl h
  ·exact .inl h
 ·split at h
  ·refine .inr ⟨_, rfl, fun w => ?_, h⟩
   unfold execOp
   simp [ho, hx, hy, den, eqGuard, binOp, Op.stringOp]
  ·refine .inr ⟨_, rfl, fun w => ?_, h⟩
   unfold execOp
   simp [ho, hx, hy, den, eqGuard, binOp, Op.stringOp]
  ·exact .inl h
 ·exact .inl h
theorem bld_of (hf : FrOk m a.tmps fr) {fs : List Field} {fl : List (Nat × Nat × Bool)} (hfl : fldChk P fs fl = true) {places : Nat → Option (Nat × Nat)} (hp : ∀ k q, fl[k]? = some q → places k = some (q.1, q.2.1)) :
  ∀ {ps : List (Nat × Operand)} {cs : List SV} {K : List SV → Prop}, okL m.length cs = true → bld tab fl fr ps cs K →
   ∃ l, okL m.length l = true ∧ Instr.fill places (denL m cs).toArray (ps.map fun q => (q.1, a.eval q.2)) = some (denL m l).toArray ∧ K l
 | [], cs, K, hok, h => ⟨cs, hok, rfl, h⟩
 | (k, x) :: r, cs, K, hok, h => by
  unfold bld at h
  cases hq : fl[k]? with
  | none => rw [hq] at h; exact h.elim
  | some q =>
   rw [hq] at h
   obtain ⟨v, hv1, hv2, h⟩ := ev_of hf h
   have key : ∀ l : List SV, okL m.length l = true → (den m v).cells = (denL m l).toArray → l.length = q.2.1 → setN q.1 l cs (fun cs => bld tab fl fr r cs K) → ∃ l, okL m.length l = true ∧ Instr.fill places (denL m cs).toArray (((k, x) :: r).map fun q => (q.1, a.eval q.2)) = some (denL m l).toArray ∧ K l := by
    intro l hl1 hl2 hl3 hs
    obtain ⟨hlen, hs⟩ := setN_of hs
    have hok' : okL m.length (lay q.1 l cs) = true := okL_app (okL_app (okL_sub hok fun v hv => List.mem_of_mem_take hv) hl1) (okL_sub hok fun v hv => List.mem_of_mem_drop hv)
    obtain ⟨l', e1, e2, e3⟩ := bld_of hf hfl hp hok' hs
    refine ⟨l', e1, ?_, e3⟩
    rw [← e2]
    simp only [List.map_cons, Instr.fill, hp k q hq, hv2, hl2]
    have hsz : (denL m l).toArray.size = q.2.1 := by simp [denL_len, hl3]
    have hfold : ∀ (n : Nat) (l cs : List SV) (off : Nat), off + n + l.length ≤ cs.length → ((denL m l).zipIdx n).foldl (fun cs (p : Value × Nat) => cs.setIfInBounds (off + p.2) p.1) (denL m cs).toArray = (denL m (lay (off + n) l cs)).toArray := by
     intro n l
     induction l generalizing n with
     | nil => intro cs off _; simp [denL, lay]
     | cons u l ih =>
      intro cs off hle
      simp only [List.length_cons] at hle
      simp only [denL, List.zipIdx_cons, List.foldl_cons]
      have hset : (denL m cs).toArray.setIfInBounds (off + n) (den m u) = (denL m (cs.set (off + n) u)).toArray := by
       rw [List.setIfInBounds_toArray]
       congr 1
       apply List.ext_getElem?
       intro i
       rw [denL_get, List.getElem?_set, List.getElem?_set, denL_get]
       by_cases hi : off + n = i
       ·subst hi; simp [denL_len]
       ·simp [hi]
      rw [hset, ih (n + 1) (cs.set (off + n) u) off (by simp; omega)]
      congr 2
      unfold lay
      rw [List.length_cons, show off + (n + 1) = off + n + 1 from by omega, List.take_succ_eq_append_getElem (by simp; omega), List.take_set_of_le (Nat.le_refl _)]
      simp only [List.getElem_set_self, List.append_assoc, List.cons_append, List.nil_append]
      rw [List.drop_set_of_lt (by omega)]
      rw [show off + n + 1 + l.length = off + n + (l.length + 1) from by omega]
    have := hfold 0 l cs q.1 (by omega)
    simp only [Nat.add_zero] at this
    rw [if_neg]
    ·congr 1
     rw [← this, ← Array.foldl_toList, Array.toList_zipIdx]
    ·simp [denL_len, hl3]; omega
   split at h
   ·rename_i l
    split at h
    ·split at h
     ·rename_i hb
      exact key l hv1 rfl (Nat.eq_of_beq_eq_true hb) h
     ·exact h.elim
    ·exact h.elim
   ·split at h
    ·exact h.elim
    ·split at h
     ·rename_i _ hrow _ hone
      have hcell : (den m v).cells = #[den m v] := by
       cases v with
       | v x => cases x <;> first | rfl | cases hone
       | p j o => simp only [den]; split <;> rfl
       | s j o n c => simp only [den]; split <;> rfl
       | a _ => cases hone
       | t _ => cases hone
       | _ => rfl
      obtain ⟨_, hfo⟩ := fld_of hfl
      obtain ⟨f, i, d, f1, f2, f3, f4, f5, f6, f7, f8⟩ := hfo k q hq
      exact key [v] (by simp [okL, hv1]) (by rw [hcell]; rfl) (by rw [f8 hrow]; rfl) h
     ·exact h.elim
theorem den0 : ∀ {v : SV}, okV 0 v = true → den m v = den [] v := fun h => den_ext (m := []) (fun _ _ h => by simp at h) _ h
theorem denL0 : ∀ {l : List SV}, okL 0 l = true → denL m l = denL [] l := fun h => denL_ext (m := []) (fun _ _ h => by simp at h) _ h
theorem mapM_run {α β : Type} {g : α → Go.Sem β} {w : World} : ∀ {l : List α} {r : List β}, l.length = r.length → (∀ (k : Nat) (x : α) (y : β), l[k]? = some x → r[k]? = some y → (g x).run P w = .ok y w) → (l.mapM g).run P w = .ok r w
 | [], [], _, _ => by simp
 | [], _ :: _, h, _ => by simp at h
 | _ :: _, [], h, _ => by simp at h
 | x :: l, y :: r, h, hg => by
  have h0 := hg 0 x y rfl rfl
  have ih := mapM_run (l := l) (r := r) (by simpa using h) (fun k x y hx hy => hg (k + 1) x y (by simpa using hx) (by simpa using hy))
  rw [List.mapM_cons, Sem.run_bind, h0, Result.andThen_ok, Sem.run_bind, ih, Result.andThen_ok, Sem.run_pure]
theorem places_run (w : World) {fs : List Field} {qs : List (Nat × Nat × Bool)} (h : fldChk P fs qs = true) : (fs.mapM (m := Go.Sem) fun f => do pure (f.offset, ← sizeOf f.type)).run P w = .ok (qs.map fun q => (q.1, q.2.1)) w := by
 obtain ⟨hl, hf⟩ := fld_of h
 refine mapM_run (by simpa using hl) fun k f y hk hy => ?_
 rw [List.getElem?_map] at hy
 cases hq : qs[k]? with
 | none => rw [hq] at hy; cases hy
 | some q =>
  rw [hq] at hy
  obtain ⟨f', i, d, f1, f2, f3, f4, f5, f6, f7, f8⟩ := hf k q hq
  rw [hk] at f1; cases f1
  simp only [Option.map_some, Option.some.injEq] at hy
  subst hy
  simp only [sizeOf, typeInfo, Sem.run_bind, run_program, Result.andThen_ok, f3, Sem.run_pure, f2, f5]
theorem pe_of {op : Op} (ht : TabOk P tab) (hf : FrOk m a.tmps fr) (ho : o.op = op) (h : pe tab op fr K F) : Yl P m a o K F := by
  cases op
  all_goals try exact .inl h
  case move x =>
    obtain ⟨v, h1, h2, h3⟩ := ev_of hf h
    exact .inr ⟨v, h1, fun w => by unfold execOp; simp [ho, h2], h3⟩
  case assign x =>
    obtain ⟨v, h1, h2, h3⟩ := ev_of hf h
    exact .inr ⟨v, h1, fun w => by unfold execOp; simp [ho, h2], h3⟩
  case pick c x y =>
    obtain ⟨v, h1, h2, h3⟩ := ev_of hf h
    cases v with
    | b t =>
      replace h3 := h3.out
      cases t with
      | true =>
        obtain ⟨v, k1, k2, k3⟩ := ev_of hf (h3.1 rfl)
        exact .inr ⟨v, k1, fun w => by unfold execOp; simp [ho, h2, k2, den, asBool], k3⟩
      | false =>
        obtain ⟨v, k1, k2, k3⟩ := ev_of hf (h3.2 rfl)
        exact .inr ⟨v, k1, fun w => by unfold execOp; simp [ho, h2, k2, den, asBool], k3⟩
    | _ => exact .inl h3
  case nilCheck x =>
    obtain ⟨v, h1, h2, h3⟩ := ev_of hf h
    cases v with
    | p j q =>
      refine .inr ⟨_, h1, fun w => ?_, h3⟩
      unfold execOp
      have hj : j < m.length := by simpa [okV] using h1
      simp [ho, h2, den, List.getElem?_eq_getElem hj]
    | f g cs =>
      refine .inr ⟨_, h1, fun w => ?_, h3⟩
      unfold execOp
      simp [ho, h2, den]
    | _ => exact .inl h3
  case fieldAddr s x k =>
    obtain ⟨v, h1, h2, h3⟩ := ev_of hf h
    cases v with
    | p j off =>
      obtain ⟨y, hy, h3⟩ := tyK_of h3
      cases hq : y.flds[k]? with
      | none => simp only [hq] at h3; exact .inl h3
      | some q =>
        simp only [hq] at h3
        obtain ⟨d, i, T⟩ := (ht _ _ hy).out
        obtain ⟨fs, rfl, hfc⟩ := T.st k q hq
        obtain ⟨f, i2, d2, f1, f2, f3, f4, f5, f6, f7, f8⟩ := (fld_of hfc).2 k q hq
        have hj : j < m.length := by simpa [okV] using h1
        refine .inr ⟨.p j (off + q.1), h1, fun w => ?_, h3⟩
        have f1' : fs[k]? = some f := by simpa using f1
        unfold execOp
        simp only [ho, h2, den, List.getElem?_eq_getElem hj, Instr.fieldAt, Instr.sureAddr, Sem.run_bind, run_underlying T.un, Result.andThen_ok, Sem.run_pure, f1', fieldPlace, sizeOf, typeInfo]
        simp only [run_program, f3, Result.andThen_ok, Sem.run_pure, f5, if_neg f6, f2, Go.WideShapes.add_plain, Nat.add_assoc]
    | _ => exact .inl h3
  case field s x k =>
    obtain ⟨v, h1, h2, h3⟩ := ev_of hf h
    cases v with
    | a cs =>
      obtain ⟨y, hy, h3⟩ := tyK_of h3
      cases hq : y.flds[k]? with
      | none => simp only [hq] at h3; exact .inl h3
      | some q =>
        simp only [hq] at h3
        obtain ⟨d, i, T⟩ := (ht _ _ hy).out
        obtain ⟨fs, rfl, hfc⟩ := T.st k q hq
        obtain ⟨f, i2, d2, f1, f2, f3, f4, f5, f6, f7, f8⟩ := (fld_of hfc).2 k q hq
        have f1' : fs[k]? = some f := by simpa using f1
        cases hb : q.2.2 with
        | true =>
          rw [hb] at h3 f7
          obtain ⟨hl, h3⟩ := tkN_of h3
          refine .inr ⟨.a ((cs.drop q.1).take q.2.1), okL_sub h1 (fun v hv => List.mem_of_mem_drop (List.mem_of_mem_take hv)), fun w => ?_, h3⟩
          unfold execOp
          simp only [ho, h2, den, Instr.field, Sem.run_bind, run_underlying T.un, Result.andThen_ok, f1', asAgg, Sem.run_pure, f2, run_part_row f4 f3 f7 f5]
        | false =>
          rw [hb] at h3 f7
          obtain ⟨v, hv, h3⟩ := nth_of h3
          refine .inr ⟨v, okL_at h1 hv, fun w => ?_, h3⟩
          unfold execOp
          simp only [ho, h2, den, Instr.field, Sem.run_bind, run_underlying T.un, Result.andThen_ok, f1', asAgg, Sem.run_pure, f2, run_part_cell f4 f7 hv]
    | _ => exact .inl h3
  case indexAddr t x ix =>
    obtain ⟨v, h1, h2, h3⟩ := ev_of hf h
    obtain ⟨i, k1, k2, h3⟩ := ev_of hf h3
    cases i with
    | i k I =>
      obtain ⟨y, hy, h3⟩ := tyK_of h3
      cases hsl : y.sl with
      | false => simp only [hsl] at h3; exact .inl h3
      | true =>
        simp only [hsl] at h3
        obtain ⟨d, inf, T⟩ := (ht _ _ hy).out
        have hd := T.sl hsl
        subst hd
        obtain ⟨e, he, h3⟩ := tyK_of h3
        obtain ⟨d2, inf2, T2⟩ := (ht _ _ he).out
        have hsz : (sizeOf y.el).run P = fun w => .ok e.size w := by funext w; simp [sizeOf, typeInfo, T2.inf, T2.size]
        cases v with
        | s j o n c =>
          simp only at h3
          replace h3 := h3.out
          obtain ⟨⟨i0, i1⟩, h3⟩ := h3
          have hj : j < m.length := by simpa [okV] using h1
          refine .inr ⟨.p j (o + I.toNat * e.size), h1, fun w => ?_, h3⟩
          unfold execOp
          simp only [ho, h2, k2, den, List.getElem?_eq_getElem hj, Instr.indexAt, asIntOf, Sem.run_bind, Sem.run_pure, Result.andThen_ok, run_underlying T.un, hsz, if_pos (show 0 ≤ I ∧ I < (n : Int) from ⟨i0, i1⟩), Go.WideShapes.add_plain, Nat.add_assoc]
        | _ => exact .inl h3
    | _ => exact .inl h3
  case extract x k =>
    obtain ⟨v, h1, h2, h3⟩ := ev_of hf h
    cases v with
    | t vs =>
      obtain ⟨v, hv, h3⟩ := nth_of h3
      refine .inr ⟨v, okL_at h1 hv, fun w => ?_, h3⟩
      have hg : (denL m vs)[k]? = some (den m v) := by rw [denL_get, hv]; rfl
      unfold execOp
      simp [ho, h2, den, Instr.extract, hg]
    | _ => exact .inl h3
  case binOp op t x y u =>
    obtain ⟨p, h1, h2, h3⟩ := ev_of hf h
    obtain ⟨q, k1, k2, k3⟩ := ev_of hf h3
    exact bin_of ht h1 ho h2 k2 k3
  case unOp op t x =>
    obtain ⟨v, h1, h2, h3⟩ := ev_of hf h
    cases op <;> cases v <;> first
      | exact .inl h3
      | (refine .inr ⟨_, rfl, fun w => ?_, (by first | exact h3 | (replace h3 := h3.out; exact h3))⟩
         unfold execOp
         simp [ho, h2, den, Op.unary, Op.intArith])
  case build t parts =>
    obtain ⟨y, hy, h3⟩ := tyK_of h
    cases hr : y.row with
    | false => simp only [hr] at h3; exact .inl h3
    | true =>
      simp only [hr] at h3
      cases hfl : y.flds with
      | nil => simp only [hfl] at h3; exact .inl h3
      | cons q0 qs =>
        rw [hfl] at h3
        obtain ⟨d, i, T⟩ := (ht _ _ hy).out
        obtain ⟨fs, rfl, hfc⟩ := T.st 0 q0 (by rw [hfl]; rfl)
        have hz : okL m.length y.zero = true := okL_mono (Nat.zero_le _) _ T.zok
        have hall := (fld_of hfc).2
        have hplaces : ∀ (k : Nat) (q : Nat × Nat × Bool), y.flds[k]? = some q → (fun i : Nat => (y.flds.map fun q => (q.1, q.2.1)).toArray[i]?) k = some (q.1, q.2.1) := fun k q hq => by simp [hq]
        obtain ⟨l, e1, e2, e3⟩ := bld_of hf hfc hplaces hz (by rw [hfl]; exact h3)
        refine .inr ⟨.a l, e1, fun w => ?_, e3⟩
        have hzv : (zeroV y) = .agg (denL m y.zero).toArray := by simp only [zeroV, hr]; rw [denL0 (m := m) T.zok]
        have hparts : (parts.map fun q => (q.1, a.eval q.2)).toList = parts.toList.map fun q => (q.1, a.eval q.2) := by simp
        unfold execOp
        simp only [ho, Instr.build, Sem.run_bind, zeroValue, typeInfo, run_program, Result.andThen_ok, T.inf, Sem.run_pure, T.zero, hzv, run_underlying T.un, Array.mapM_eq_mapM_toList]
        simp only [Sem.run_map, places_run w hfc, Value.cells]
        simp at e2
        simp [e2, den]
  case makeFunc fn first captured =>
    cases fn with
    | func f =>
      simp only [pe] at h
      split at h
      · rename_i he
        obtain ⟨l, h1, h2, h3⟩ := evL_of hf h
        refine .inr ⟨.f f l, h1, fun w => ?_, h3⟩
        unfold execOp
        have e1 : first = #[] := by cases first; simp at he; rw [he]
        simp [ho, Instr.makeFunc, den, e1, ← h2, ← Array.toList_map]
      · exact .inl h
    | _ => exact .inl h
  case convert s d x =>
    obtain ⟨v, h1, h2, h3⟩ := ev_of hf h
    cases v with
    | i k n =>
      obtain ⟨ys, hys, h3⟩ := tyK_of h3
      obtain ⟨ds, is, Ts⟩ := (ht _ _ hys).out
      obtain ⟨y, hy, h3⟩ := tyK_of h3
      cases hk : y.ik with
      | none => simp only [hk] at h3; exact .inl h3
      | some k =>
        simp only [hk] at h3
        obtain ⟨d, i, T⟩ := (ht _ _ hy).out
        have := T.ik k hk
        subst this
        replace h3 := h3.out
        refine .inr ⟨_, rfl, fun w => ?_, h3⟩
        unfold execOp
        simp only [ho, h2, den]
        simp only [convert, Sem.run_bind, run_underlying Ts.un, run_underlying T.un, Result.andThen_ok, Conv.intToInt, Sem.run_pure]
    | _ => exact .inl h3
  case call c =>
    obtain ⟨callee, args, ats⟩ := c
    have hrun : ∀ b, callee = .builtin b → ∀ w, (execOp a.eval o).run P w = (builtin b ats o.type (args.map fun | .const _ => true | _ => false) (args.map a.eval)).run P w := fun b hb w => by
      subst hb
      unfold execOp
      simp only [ho, resolve, Sem.run_bind, Sem.run_pure, Result.andThen_ok, invoke]
      rfl
    cases callee with
    | builtin b =>
      cases b
      all_goals try exact .inl h
      case len =>
        simp only [pe] at h
        split at h
        · rename_i x t hx hats
          have e1 : args = #[x] := by cases args; simp at hx; rw [hx]
          have e2 : ats = #[t] := by cases ats; simp at hats; rw [hats]
          obtain ⟨y, hy, h3⟩ := tyK_of h
          cases hs : y.sl with
          | false => simp only [hs] at h3; exact .inl h3
          | true =>
            simp only [hs] at h3
            obtain ⟨d, i, T⟩ := (ht _ _ hy).out
            have hd := T.sl hs
            subst hd
            obtain ⟨v, h1, h2, h3⟩ := ev_of hf h3
            cases v with
            | s j q n c =>
              have hj : j < m.length := by simpa [okV] using h1
              refine .inr ⟨_, rfl, fun w => ?_, h3⟩
              rw [hrun _ rfl w]
              simp [e1, e2, builtin, Builtin.len_, h2, den, run_underlying T.un, List.getElem?_eq_getElem hj, goInt]
            | v x =>
              cases x with
              | slice A n c =>
                refine .inr ⟨_, rfl, fun w => ?_, h3⟩
                rw [hrun _ rfl w]
                simp [e1, e2, builtin, Builtin.len_, h2, den, run_underlying T.un, goInt]
              | _ => exact .inl h3
            | _ => exact .inl h3
        · exact .inl h
      case min =>
        simp only [pe] at h
        split at h
        · rename_i x y hx
          have e1 : args = #[x, y] := by cases args; simp at hx; rw [hx]
          obtain ⟨p, h1, h2, h3⟩ := ev_of hf h
          obtain ⟨q, k1, k2, h3⟩ := ev_of hf h3
          cases p <;> cases q <;> first
            | exact .inl h3
            | (refine .inr ⟨_, rfl, fun w => ?_, h3⟩
               rw [hrun _ rfl w]
               simp [e1, builtin, Builtin.min_, Builtin.min2, h2, k2, den])
        · exact .inl h
      case max =>
        simp only [pe] at h
        split at h
        · rename_i x y hx
          have e1 : args = #[x, y] := by cases args; simp at hx; rw [hx]
          obtain ⟨p, h1, h2, h3⟩ := ev_of hf h
          obtain ⟨q, k1, k2, h3⟩ := ev_of hf h3
          cases p <;> cases q <;> first
            | exact .inl h3
            | (refine .inr ⟨_, rfl, fun w => ?_, h3⟩
               rw [hrun _ rfl w]
               simp [e1, builtin, Builtin.max_, Builtin.max2, h2, k2, den])
        · exact .inl h
    | _ => exact .inl h
theorem ld_of {s : St} {t : TypeId} {x : Operand} {K : Nat → SV → Prop} (ht : TabOk P tab) (hf : FrOk s.m a.tmps s.fr) (ho : o.op = .load t x) (h : ld tab t x s K F) :
  F ∨ ∃ j r v, s.m[j]? = some r ∧ r.live = true ∧ (okL s.m.length r.cs = true → okV s.m.length v = true) ∧ (∀ w, r.pre.length = r.off → Blk w r.g r.t (rowA s.m r) → (execOp a.eval o).run P w = .ok (.value (den s.m v)) w) ∧ K j v := by
 obtain ⟨v, h1, h2, h3⟩ := ev_of hf h
 cases v with
 | p j q =>
  obtain ⟨r, hr, h3⟩ := nthR_of h3
  cases hl : r.live with
  | false => simp only [hl] at h3; exact .inl h3
  | true =>
   simp only [hl] at h3
   obtain ⟨y, hy, h3⟩ := tyK_of h3
   obtain ⟨d, i, T⟩ := (ht _ _ hy).out
   have hx : a.eval x = .pointer (some ⟨r.g, r.off + q, none⟩) := by rw [h2]; simp only [den, hr]
   cases hrow : y.row with
   | true =>
    simp only [hrow] at h3
    obtain ⟨hlen, h3⟩ := tkN_of h3
    refine .inr ⟨j, r, .a ((r.cs.drop q).take y.size), hr, hl, fun hok => okL_sub hok (fun v hv => List.mem_of_mem_drop (List.mem_of_mem_take hv)), fun w hp hB => ?_, h3⟩
    have hl2 : ((denL s.m r.cs).toArray.toList.drop q).take y.size = denL s.m ((r.cs.drop q).take y.size) := by rw [denL_drop, denL_take]
    have hn : (denL s.m ((r.cs.drop q).take y.size)).length = y.size := by rw [denL_len, List.length_take, List.length_drop]; omega
    exact exec_part (n := y.size) t x d hB (el_part hp hl2 (by simp [denL_len]; omega)) hn ho hx T.un (by rw [T.row, hrow]) (by rw [T.inf, hn]; simp [T.size])
   | false =>
    simp only [hrow] at h3
    obtain ⟨v, hv, h3⟩ := nth_of h3
    refine .inr ⟨j, r, v, hr, hl, fun hok => okL_at hok hv, fun w hp hB => ?_, h3⟩
    have hg : (denL s.m r.cs).toArray[q]? = some (den s.m v) := by rw [List.getElem?_toArray, denL_get, hv]; rfl
    refine exec_cell t x d hB (el_at hp hg) ho hx T.un ?_
    have := T.row
    rw [hrow] at this
    cases d <;> simp_all [TypeDesc.isRow]
 | _ => exact .inl h3
end
end En
namespace En
open Go.RowKit Ba Mem
section
variable {X : Cx} {m m' : List Row} {ob : List Asr} {w w' : World} {s : St} {a : Act} {o : Oper} {K : St → Prop} {F : Prop}
theorem rowA_ext (h : Ext m m') {r : Row} (hk : okL m.length r.cs = true) : rowA m' r = rowA m r := by unfold rowA; rw [denL_ext h _ hk]
theorem Hold.since (h : Hold X m ob w) (k : Since w w') : Hold X m ob w' :=
 ⟨h.upd.trans k, fun j r hj hl => keep_blk k (h.row j r hj hl), h.wf, h.ne, fun A hA => A.up (T := []) (Upd.of_since k) (fun _ _ h => by cases h) (h.obj A hA), h.far, h.own, h.dis⟩
theorem Hold.drew (h : Hold X m ob w) : Hold X m ob w.drew := h.since ((Since.refl w).drew)
theorem getElem?_snoc {α : Type} {l : List α} {x y : α} {j : Nat} (h : (l ++ [x])[j]? = some y) : l[j]? = some y ∨ (j = l.length ∧ y = x) := by
 rcases Nat.lt_or_ge j l.length with hl | hl
 ·rw [List.getElem?_append_left hl] at h; exact .inl h
 ·rw [List.getElem?_append_right hl] at h
  have : j - l.length = 0 := by
   have := (List.getElem?_eq_some_iff.1 h).1
   simp at this; omega
  rw [this] at h; simp at h
  exact .inr ⟨by omega, h.symm⟩
theorem Hold.new (h : Hold X m ob w) {t : TypeId} {cs : List SV} (hc : okL m.length cs = true) : Hold X (m ++ [⟨w.heap.size, t, true, 0, [], cs, [], true⟩]) ob (w.alloc (.cells (denL m cs).toArray t)) := by
 have k : Since w (w.alloc (.cells (denL m cs).toArray t)) := (Since.refl w).alloc _
 have h2 := h.since k
 have hE := Ext.app m [⟨w.heap.size, t, true, 0, [], cs, [], true⟩]
 have hlen : (m ++ [(⟨w.heap.size, t, true, 0, [], cs, [], true⟩ : Row)]).length = m.length + 1 := by simp
 have hrow : rowA (m ++ [⟨w.heap.size, t, true, 0, [], cs, [], true⟩]) ⟨w.heap.size, t, true, 0, [], cs, [], true⟩ = (denL m cs).toArray := by
  rw [rowA_ext hE hc]; simp [rowA, el]
 refine ⟨h2.upd, fun j r hj hl => ?_, fun j r hj hl => ?_, fun i j r q hi hj hr hq hne => ?_, h2.obj, fun A hA j r hj hl => ?_, h2.own, h2.dis⟩
 ·rcases getElem?_snoc hj with hj | ⟨_, rfl⟩
  ·rw [rowA_ext hE (h.wf j r hj hl).1]; exact h2.row j r hj hl
  ·rw [hrow]; exact Blk.new w t _
 ·rcases getElem?_snoc hj with hj | ⟨_, rfl⟩
  ·obtain ⟨h3, h4, h5⟩ := h.wf j r hj hl
   exact ⟨okL_mono (by rw [hlen]; omega) _ h3, h4, h5⟩
  ·exact ⟨okL_mono (by rw [hlen]; omega) _ hc, rfl, fun _ => .inr h.upd.size⟩
 ·have lt : ∀ (j : Nat) (r : Row), m[j]? = some r → r.live = true → r.g < w.heap.size := fun j r hj hl => (h.row j r hj hl).lt
  rcases getElem?_snoc hi with hi | ⟨rfl, rfl⟩ <;> rcases getElem?_snoc hj with hj | ⟨rfl, rfl⟩
  ·exact h.ne i j r q hi hj hr hq hne
  ·have := lt i r hi hr; exact Nat.ne_of_lt this
  ·have := lt j q hj hq; exact Nat.ne_of_gt this
  ·exact absurd rfl hne
 ·rcases getElem?_snoc hj with hj | ⟨_, rfl⟩
  ·exact h.far A hA j r hj hl
  ·intro hm; have := A.lt (h.obj A hA) _ hm; simp at this
theorem getElem?_set_or {α : Type} {l : List α} {x y : α} {i j : Nat} (h : (l.set i x)[j]? = some y) : (i = j ∧ y = x) ∨ (i ≠ j ∧ l[j]? = some y) := by
 by_cases e : i = j
 ·subst e
  rw [List.getElem?_set] at h
  simp at h
  exact .inl ⟨rfl, h.2.symm⟩
 ·rw [List.getElem?_set_ne e] at h; exact .inr ⟨e, h⟩
theorem Hold.set (h : Hold X m ob w) {j : Nat} {r : Row} (hj : m[j]? = some r) (hl : r.live = true) (hrw : r.rw = true) {cs : List SV} (hc : okL m.length cs = true) :
  Hold X (m.set j { r with cs := cs }) ob (w.setRow r.g (rowA m { r with cs := cs })) := by
 have hE := Ext.set hj cs
 have hB := h.row j r hj hl
 have hr : ∀ (q : Row), okL m.length q.cs = true → rowA (m.set j { r with cs := cs }) q = rowA m q := fun q hq => rowA_ext hE hq
 obtain ⟨w1, w2, w3⟩ := h.wf j r hj hl
 have hup : Upd [r.g] w (w.setRow r.g (rowA m { r with cs := cs })) := (Upd.refl _ w).setRow (.inl (by simp)) _
 refine ⟨h.upd.setRow (w3 hrw) _, fun i q hi hq => ?_, fun i q hi hq => ?_, fun i k q q' hi hk hq hq' hne => ?_, fun A hA => A.up hup (fun g hg hgr => h.far A hA j r hj hl (by rw [List.mem_singleton] at hgr; exact hgr ▸ hg)) (h.obj A hA), fun A hA i q hi hq => ?_, h.own, h.dis⟩
 ·rcases getElem?_set_or hi with ⟨rfl, rfl⟩ | ⟨hne, hi⟩
  ·rw [hr _ hc]; exact Blk.row hB _
  ·rw [hr _ (h.wf i q hi hq).1]; exact Blk.row_far (h.row i q hi hq) (h.ne i j q r hi hj hq hl (Ne.symm hne)) _
 ·rw [List.length_set]
  rcases getElem?_set_or hi with ⟨rfl, rfl⟩ | ⟨hne, hi⟩
  ·exact ⟨hc, w2, w3⟩
  ·exact h.wf i q hi hq
 ·rcases getElem?_set_or hi with ⟨rfl, rfl⟩ | ⟨hn1, hi⟩ <;> rcases getElem?_set_or hk with ⟨rfl, rfl⟩ | ⟨hn2, hk⟩
  ·exact absurd rfl hne
  ·exact h.ne j k r q' hj hk hl hq' hne
  ·exact h.ne i j q r hi hj hq hl hne
  ·exact h.ne i k q q' hi hk hq hq' hne
 ·rcases getElem?_set_or hi with ⟨rfl, rfl⟩ | ⟨hne, hi⟩
  ·exact h.far A hA j r hj hl
  ·exact h.far A hA i q hi hq
theorem FrOk.ext {tm : Array Value} {fr : List (Nat × SV)} (h : FrOk m tm fr) (hE : Ext m m') : FrOk m' tm fr := fun k v hv => by
 obtain ⟨h1, h2⟩ := h k v hv
 exact ⟨okV_mono hE.len _ h1, by rw [den_ext hE _ h1]; exact h2⟩
theorem put_of {d : Option Tmp} {v : SV} (hd : a.defers = X.ds) (hz : a.tmps.size = X.n) (hf : FrOk s.m a.tmps s.fr) (hH : Hold X s.m s.ob w) (hv : okV s.m.length v = true) (h : put X.n d v s K) :
  ∃ s', Rel X s' (a.put d (den s.m v)) w ∧ s'.m = s.m ∧ s'.ob = s.ob ∧ K s' := by
 unfold put at h
 cases d with
 | none => exact ⟨s, ⟨hd, hz, hf, hH⟩, rfl, rfl, h⟩
 | some d =>
  simp only at h
  cases hb : Nat.blt d X.n with
  | false => rw [hb] at h; exact h.elim
  | true =>
   rw [hb] at h
   have hlt : d < X.n := by simpa [Nat.blt_eq] using hb
   refine ⟨{ s with fr := (d, v) :: s.fr }, ⟨hd, by simp [Act.put, hz], fun k u hu => ?_, hH⟩, rfl, rfl, h⟩
   simp only [lkO] at hu
   cases hk : Nat.beq d k with
   | true =>
    rw [hk] at hu
    have := Nat.eq_of_beq_eq_true hk
    subst this
    cases hu
    exact ⟨hv, by simp [Act.put, hz, hlt]⟩
   | false =>
    rw [hk] at hu
    obtain ⟨h1, h2⟩ := hf k u hu
    refine ⟨h1, ?_⟩
    have hne : d ≠ k := fun e => by subst e; simp at hk
    simpa [Act.put, Array.getElem?_setIfInBounds_ne hne] using h2
theorem putAt_lay : ∀ (vs : List SV) (l : List SV) (q : Nat), q + vs.length ≤ l.length → putAt (denL m l).toArray q (denL m vs) = (denL m (lay q vs l)).toArray
 | [], l, q, _ => by simp [denL, putAt, lay]
 | v :: vs, l, q, h => by
  simp only [List.length_cons] at h
  have hset : (denL m l).toArray.setIfInBounds q (den m v) = (denL m (l.set q v)).toArray := by
   rw [List.setIfInBounds_toArray]
   congr 1
   apply List.ext_getElem?
   intro i
   rw [denL_get, List.getElem?_set, List.getElem?_set, denL_get]
   by_cases hi : q = i
   ·subst hi; simp [denL_len]
   ·simp [hi]
  show putAt ((denL m l).toArray.setIfInBounds q (den m v)) (q + 1) (denL m vs) = _
  rw [hset, putAt_lay vs (l.set q v) (q + 1) (by simp; omega)]
  congr 2
  unfold lay
  rw [List.length_cons, List.take_succ_eq_append_getElem (by simp; omega), List.take_set_of_le (Nat.le_refl _)]
  simp only [List.getElem_set_self, List.append_assoc, List.cons_append, List.nil_append]
  rw [List.drop_set_of_lt (by omega), show q + 1 + vs.length = q + (vs.length + 1) from by omega]
theorem oneS_den {v : SV} (hk : okV m.length v = true) (h : oneS v = true) : (den m v).oneCell' = true := by
 cases v with
 | v x => exact h
 | p j o =>
  have hj : j < m.length := by simpa [okV] using hk
  simp only [den, List.getElem?_eq_getElem hj]; rfl
 | s j o n c =>
  have hj : j < m.length := by simpa [okV] using hk
  simp only [den, List.getElem?_eq_getElem hj]; rfl
 | a _ => cases h
 | t _ => cases h
 | _ => rfl
theorem lay_ok {n q : Nat} {vs l : List SV} (h : okL n l = true) (k : okL n vs = true) : okL n (lay q vs l) = true :=
 okL_app (okL_app (okL_sub h fun v hv => List.mem_of_mem_take hv) k) (okL_sub h fun v hv => List.mem_of_mem_drop hv)
structure KI (keep : List Nat) (m0 m : List Row) : Prop where
 ext : Ext m0 m
 at_ : ∀ j ∈ keep, ∃ r, m0[j]? = some r ∧ m[j]? = some r
structure Cx.Ok (X : Cx) : Prop where
 tab : TabOk X.P X.tab
theorem cellsS_ok {n : Nat} {v : SV} (h : okV n v = true) : okL n (cellsS v) = true := by
 cases v <;> first | exact h | (simp only [cellsS, okL, Bool.and_true]; exact h)
theorem cellsS_den {v : SV} (hk : okV m.length v = true) (hv : ∀ x, v = .v x → x.oneCell' = true) : (den m v).cells = (denL m (cellsS v)).toArray := by
 cases v with
 | v x => have := hv x rfl; cases x <;> first | rfl | cases this
 | p j o =>
  have hj : j < m.length := by simpa [okV] using hk
  simp only [den, cellsS, denL, List.getElem?_eq_getElem hj]; rfl
 | s j o n c =>
  have hj : j < m.length := by simpa [okV] using hk
  simp only [den, cellsS, denL, List.getElem?_eq_getElem hj]; rfl
 | _ => rfl
variable {keep : List Nat} {m0 : List Row}
theorem nw_of {t : TypeId} {cs : List SV} {K : Nat → St → Prop} (h : nw s t cs K) (g : Nat) : K s.m.length { s with m := s.m ++ [⟨g, t, true, 0, [], cs, [], true⟩] } := by
 have h1 := lenR_of (h g)
 have h2 := appR_of h1
 simpa using h2
theorem KI.app (h : KI keep m0 m) (l : List Row) : KI keep m0 (m ++ l) := ⟨h.ext.trans (Ext.app _ _), fun j hj => by
 obtain ⟨r, h1, h2⟩ := h.at_ j hj
 exact ⟨r, h1, by rw [List.getElem?_append_left (List.getElem?_eq_some_iff.1 h2).1]; exact h2⟩⟩
theorem KI.set (h : KI keep m0 m) {j : Nat} {r : Row} (hj : m[j]? = some r) (hk : keep.elem j = false) (cs : List SV) : KI keep m0 (m.set j { r with cs := cs }) := ⟨h.ext.trans (Ext.set hj cs), fun i hi => by
 obtain ⟨q, h1, h2⟩ := h.at_ i hi
 have hne : j ≠ i := fun e => by subst e; simp at hk; exact hk hi
 exact ⟨q, h1, by rw [List.getElem?_set_ne hne]; exact h2⟩⟩
def Ac (X : Cx) (keep : List Nat) (m0 : List Row) (o : Oper) (a : Act) (w : World) (K : St → Prop) : Prop := ∀ Q, o.wp X.P a w (fun a' w' => ∃ s', Rel X s' a' w' ∧ KI keep m0 s'.m ∧ K s') Q
theorem new_act (hR : Rel X s a w) (hki : KI keep m0 s.m) {t : TypeId} {cs : List SV} (hc : okL s.m.length cs = true)
  (he : (execOp a.eval o).run X.P w = .ok (.value (.pointer (some ⟨w.heap.size, 0, none⟩))) (w.alloc (.cells (denL s.m cs).toArray t)))
  (h : nw s t cs fun j s => put X.n o.dst (.p j 0) s K) : Ac X keep m0 o a w K := fun Q => by
 have h1 := nw_of h w.heap.size
 have hH := hR.h.new (t := t) hc
 have hE := Ext.app s.m [⟨w.heap.size, t, true, 0, [], cs, [], true⟩]
 have hg : (s.m ++ [(⟨w.heap.size, t, true, 0, [], cs, [], true⟩ : Row)])[s.m.length]? = some ⟨w.heap.size, t, true, 0, [], cs, [], true⟩ := by simp
 obtain ⟨s', r1, r2, r3, r4⟩ := put_of (a := a) (s := { s with m := s.m ++ [⟨w.heap.size, t, true, 0, [], cs, [], true⟩] }) (v := .p s.m.length 0) hR.ds hR.sz (hR.fr.ext hE) hH (by simp [okV]) h1
 unfold Oper.wp
 rw [he]
 refine ⟨s', ?_, by rw [r2]; exact hki.app _, r4⟩
 have : den (s.m ++ [⟨w.heap.size, t, true, 0, [], cs, [], true⟩]) (.p s.m.length 0) = .pointer (some ⟨w.heap.size, 0, none⟩) := by simp only [den, hg]
 rw [← this]; exact r1
theorem q_act (hR : Rel X s a w) (hki : KI keep m0 s.m) {v : SV} (hv : okV s.m.length v = true) (he : (execOp a.eval o).run X.P w = .ok (.value (den s.m v)) w) (h : put X.n o.dst v s K) : Ac X keep m0 o a w K := fun Q => by
 obtain ⟨s', r1, r2, r3, r4⟩ := put_of hR.ds hR.sz hR.fr hR.h hv h
 exact wp_q _ he ⟨s', r1, by rw [r2]; exact hki, r4⟩
theorem stv_of {tab : Tab} {t : TypeId} {v : SV} {K : List SV → Prop} (h : stv tab t v K F) : F ∨ ∃ y vs, tyO t tab = some y ∧ ((v = .a vs ∧ y.row = true ∧ vs.length = y.size ∧ ∀ u ∈ vs, oneS u = true) ∨ (vs = [v] ∧ y.row = false ∧ oneS v = true)) ∧ K vs := by
 obtain ⟨y, hy, h⟩ := tyK_of h
 have other : (match y.row with | true => F | false => match oneS v with | true => K [v] | false => F) → F ∨ ∃ y vs, tyO t tab = some y ∧ ((v = .a vs ∧ y.row = true ∧ vs.length = y.size ∧ ∀ u ∈ vs, oneS u = true) ∨ (vs = [v] ∧ y.row = false ∧ oneS v = true)) ∧ K vs := fun h => by
  cases hr : y.row with
  | true => rw [hr] at h; exact .inl h
  | false =>
   rw [hr] at h
   cases ho : oneS v with
   | false => simp only [ho] at h; exact .inl h
   | true => simp only [ho] at h; exact .inr ⟨y, [v], hy, .inr ⟨rfl, hr, by first | rfl | exact ho⟩, h⟩
 cases v with
 | a l =>
  simp only at h
  cases hr : y.row with
  | false => simp only [hr] at h; exact .inl h
  | true =>
   simp only [hr] at h
   cases hb : Nat.beq l.length y.size && l.all oneS with
   | false => simp only [hb] at h; exact .inl h
   | true =>
    simp only [hb] at h
    simp only [Bool.and_eq_true, List.all_eq_true] at hb
    exact .inr ⟨y, l, hy, .inl ⟨rfl, hr, Nat.eq_of_beq_eq_true hb.1, hb.2⟩, h⟩
 | _ => exact other h
theorem me_of (hX : X.Ok) (hR : Rel X s a w) (hki : KI keep m0 s.m) (h : me X.tab X.n keep o s K F) : F ∨ Ac X keep m0 o a w K := by
 unfold me at h
 split at h
 ·rename_i t x ho
  rcases ld_of (o := o) (a := a) hX.tab hR.fr ho h with h | ⟨j, r, v, h1, h2, h3, h4, h5⟩
  ·exact .inl h
  ·obtain ⟨w1, w2, w3⟩ := hR.h.wf j r h1 h2
   exact .inr (q_act hR hki (h3 w1) (h4 w w2 (hR.h.row j r h1 h2)) h5)
 ·rename_i t x y ho
  obtain ⟨p, h1, h2, h⟩ := ev_of hR.fr h
  obtain ⟨v, k1, k2, h⟩ := ev_of hR.fr h
  cases p with
  | p j q =>
   simp only at h
   cases hk : keep.elem j with
   | true => rw [hk] at h; exact h.elim
   | false =>
    rw [hk] at h
    rcases stv_of h with h | ⟨ty, vs0, hy, hwhat, hs9⟩
    ·exact .inl h
    clear h
    obtain ⟨d, i, T⟩ := (hX.tab _ _ hy).out
    have key : ∀ vs : List SV, okL s.m.length vs = true → (∀ (r : Row) (cs : List SV), s.m[j]? = some r → r.live = true → q + vs.length ≤ r.cs.length → okL s.m.length cs = true → cs = lay q vs r.cs → (∀ K : Act → World → Prop, (∀ w', w' = w.setRow r.g (rowA s.m { r with cs := cs }) → K (a.put o.dst undef) w') → ∀ Q, o.wp X.P a w K Q)) →
      setR j (fun r K => match r.live with | true => (match r.rw with | true => setN q vs r.cs fun cs => K { r with cs := cs } | false => False) | false => False) s.m (fun m => put X.n o.dst (.v undef) { s with m := m } K) → Ac X keep m0 o a w K := by
     intro vs hvs hst hs
     obtain ⟨r, hr, hs⟩ := setR_of hs
     cases hl : r.live with
     | false => simp only [hl] at hs
     | true =>
      simp only [hl] at hs
      cases hrw : r.rw with
      | false => simp only [hrw] at hs
      | true =>
      simp only [hrw] at hs
      obtain ⟨hlen, hs⟩ := setN_of hs
      obtain ⟨w1, w2, w3⟩ := hR.h.wf j r hr hl
      have hok : okL s.m.length (lay q vs r.cs) = true := lay_ok w1 hvs
      have hH := hR.h.set hr hl hrw hok
      have hE := Ext.set hr (lay q vs r.cs)
      intro Q
      refine hst r _ hr hl hlen hok rfl _ (fun w' hw' => ?_) Q
      have hs2 : put X.n o.dst (.v undef) { s with m := s.m.set j { r with cs := lay q vs r.cs } } K := by simpa [hl, hrw] using hs
      obtain ⟨s', r1, r2, r3, r4⟩ := put_of (a := a) (s := { s with m := s.m.set j { r with cs := lay q vs r.cs } }) hR.ds hR.sz (hR.fr.ext hE) hH (v := .v undef) rfl hs2
      subst hw'
      exact ⟨s', r1, by rw [r2]; exact hki.set hr hk _, r4⟩
    have hpart : ∀ (r : Row) (vs : List SV), s.m[j]? = some r → r.live = true → q + vs.length ≤ r.cs.length → putAt (rowA s.m r) (r.off + q) (denL s.m vs) = rowA s.m { r with cs := lay q vs r.cs } := fun r vs hr hl hlen => by
     obtain ⟨w1, w2, w3⟩ := hR.h.wf j r hr hl
     exact el_put w2 (by simp [denL_len]; exact hlen) (putAt_lay vs r.cs q hlen)
    have haddr : ∀ r : Row, s.m[j]? = some r → a.eval x = .pointer (some ⟨r.g, r.off + q, none⟩) := fun r hr => by rw [h2]; simp only [den, hr]
    rcases hwhat with ⟨rfl, hrow, hll, hb⟩ | ⟨rfl, hrow, hone⟩
    ·refine .inr (key vs0 k1 (fun r cs hr hl hlen hok hcs K hK Q => ?_) hs9)
     subst hcs
     obtain ⟨w1, w2, w3⟩ := hR.h.wf j r hr hl
     refine wp_st_part t x y ho (rowA s.m { r with cs := lay q vs0 r.cs }) (denL s.m vs0).toArray (haddr r hr) k2 (hR.h.row j r hr hl) ?_ (hpart r vs0 hr hl hlen) ?_ (by rw [T.inf]; simp [T.size, denL_len, hll]) (fun w' hw' => hK w' hw')
     ·rw [List.size_toArray]; exact el_le w2 (by simp [denL_len]; exact hlen)
     ·simp only [List.all_toArray, List.all_eq_true]
      intro u hu
      obtain ⟨k, hk⟩ := List.mem_iff_getElem?.1 hu
      rw [denL_get] at hk
      cases hq : vs0[k]? with
      | none => rw [hq] at hk; cases hk
      | some v =>
       rw [hq] at hk; cases hk
       exact oneS_den (okL_at k1 hq) (hb v (List.mem_of_getElem? hq))
    ·refine .inr (key [v] (by simp [okL, k1]) (fun r cs hr hl hlen hok hcs K hK Q => ?_) hs9)
     subst hcs
     obtain ⟨w1, w2, w3⟩ := hR.h.wf j r hr hl
     refine wp_st_cell t x y ho (rowA s.m { r with cs := lay q [v] r.cs }) (den s.m v) (haddr r hr) k2 (hR.h.row j r hr hl) ?_ ?_ (oneS_den k1 hone) (by rw [T.inf]; simp [T.size, T.one hrow]) (fun w' hw' => hK w' hw')
     ·exact el_lt w2 (by simp [denL_len]; simp at hlen; omega)
     ·simpa [denL, putAt] using hpart r [v] hr hl hlen
  | _ => exact .inl h
 ·rename_i t ho
  obtain ⟨y, hy, h⟩ := tyK_of h
  obtain ⟨d, i, T⟩ := (hX.tab _ _ hy).out
  have hz : okL s.m.length y.zero = true := okL_mono (Nat.zero_le _) _ T.zok
  refine .inr (new_act hR hki hz ?_ h)
  have hzc : (zeroV y).cells = (denL s.m y.zero).toArray := by
   rw [denL0 T.zok]
   unfold zeroV
   cases hr : y.row with
   | true => rfl
   | false =>
    have h1 := T.one hr
    have h2 := T.zlen
    match hyz : y.zero with
    | [] => rw [hyz] at h2; simp at h2; omega
    | [v] =>
     have h3 := T.zone hr v (by rw [hyz]; rfl)
     rw [cellsS_den (m := []) (okL_at T.zok (k := 0) (by rw [hyz]; rfl)) (fun x hx => by subst hx; exact h3)]
     cases v <;> first | rfl | cases h3
    | _ :: _ :: _ => rw [hyz] at h2; simp at h2; omega
  unfold execOp
  simp [ho, Instr.alloc, zeroValue, typeInfo, T.inf, T.zero, newVar, newRow, hzc]
 ·rename_i t x ho
  obtain ⟨v, k1, k2, h⟩ := ev_of hR.fr h
  split at h
  ·rename_i x1
   cases hone : x1.oneCell' with
   | false => simp only [hone] at h; exact .inl h
   | true =>
    simp only [hone] at h
    refine .inr (new_act hR hki (cellsS_ok k1) ?_ h)
    unfold execOp
    simp [ho, Instr.box, newVar, newRow, k2, cellsS_den k1 (fun x hx => by cases hx; exact hone)]
  ·rename_i hnv
   refine .inr (new_act hR hki (cellsS_ok k1) ?_ h)
   unfold execOp
   simp [ho, Instr.box, newVar, newRow, k2, cellsS_den k1 (fun x hx => absurd hx (hnv x))]
 ·exact .inl h
end
end En
end Go.Proofs.YtpiiblkiddcgcaaGreat
