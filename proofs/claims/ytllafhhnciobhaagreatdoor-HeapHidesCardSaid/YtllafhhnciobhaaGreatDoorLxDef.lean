/-
  A small calculus of its own for Go's code as the model has it: what a piece of code does to values and blocks that are known by name. Definitions alone: what they say of the model stands in LxSem, LxOps, LxCode.
-/
import Derived.Calls
import Derived.KernelRfl
import GoSem.ClaimData
import Derived.Laws.Sem
namespace Go.LX
open Go

/-- A whole number: one that is written out, or one that is only named. -/
inductive I where
  | lit (n : Int)
  | sym (n : Int)
def I.val : I → Int
  | .lit n => n
  | .sym n => n

/-- Values that lead to no block that may turn. -/
inductive PV where
  | int (k : IntKind) (e : I)
  | bool (b : Bool)
  | str (s : Unit → ByteArray)
  | nilp
  | nils
  | nilif
  | nilfn
  | fn (f : Nat)
  | vsl (n : I) (sy : Bool) (l : List PV)
  | vp (sy : Bool) (l : List PV) (o : I)
  | undef

inductive LV where
  | p (v : PV)
  | ptr (b : Nat) (o : I)
  | sl (b e sz : Nat) (o n : I)
  | agg (l : List LV)
  | tup (l : List LV)
  | iface (t : Nat) (v : LV)
  | fn (f : Nat) (cap : List LV)
  | nul
  | undef

inductive LB where
  | pure (sy : Bool) (l : List PV)
  | mix (l : List LV)
  | iter (s : Unit → ByteArray) (pos : I)
  | fix (g : Nat) (o : Unit → Obj)
  | bld (t : Nat) (l : List LV)

abbrev LH := List (Nat × LB)

structure LS where
  t : List LV
  h : LH
  n : Nat

inductive TK where
  | int (k : IntKind)
  | bool
  | str
  | ptr (e : Nat)
  | slice (e : Nat)
  | struct (fs : List (Nat × Nat))
  | arr (n e : Nat)
  | iface
  | func
  | other
structure TI where
  size : Nat
  bytes : Nat
  zero : List PV
  kind : TK
abbrev TT := List (Nat × TI)

def lget : TT → Nat → Option TI
  | [], _ => none
  | (a, x) :: l, b => match Nat.beq a b with
    | true => some x
    | false => lget l b
def hget : LH → Nat → Option LB
  | [], _ => none
  | (a, x) :: l, b => match Nat.beq a b with
    | true => some x
    | false => hget l b
def hset : LH → Nat → LB → LH
  | [], _, _ => []
  | (a, x) :: l, b, y => match Nat.beq a b with
    | true => (a, y) :: l
    | false => (a, x) :: hset l b y
def hdel : LH → Nat → LH
  | [], _ => []
  | (a, x) :: l, b => match Nat.beq a b with
    | true => hdel l b
    | false => (a, x) :: hdel l b

def LV.ofV : Value → LV
  | .int k n => .p (.int k (.lit n))
  | .bool b => .p (.bool b)
  | .string s => .p (.str fun _ => s)
  | .pointer none => .p .nilp
  | .slice none 0 0 => .p .nils
  | .nilIface => .p .nilif
  | .nilFunc => .p .nilfn
  | _ => .undef

def tget : List LV → Nat → LV
  | [], _ => .undef
  | x :: _, 0 => x
  | _ :: l, n + 1 => tget l n
def tset : List LV → Nat → LV → List LV
  | [], _, _ => []
  | _ :: l, 0, v => v :: l
  | x :: l, n + 1, v => x :: tset l n v

def ev (s : LS) : Operand → LV
  | .tmp t => tget s.t t
  | .const v => .ofV v
  | .global _ => .undef
  | .func f => .p (.fn f)
def LS.put (s : LS) : Option Nat → LV → LS
  | none, _ => s
  | some d, v => { s with t := tset s.t d v }

/-! ### What these words say of the model -/
/-- A value of the model that leads to no block that may turn (M: the blocks that may). -/
inductive PR (M : Nat → Prop) (w : World) : PV → Value → Prop
  | int (k : IntKind) (e : I) (n : Int) (h : e.val = n) : PR M w (.int k e) (.int k n)
  | bool (b : Bool) : PR M w (.bool b) (.bool b)
  | str (s : Unit → ByteArray) : PR M w (.str s) (.string (s ()))
  | nilp : PR M w .nilp (.pointer none)
  | nils : PR M w .nils (.slice none 0 0)
  | nilif : PR M w .nilif .nilIface
  | nilfn : PR M w .nilfn .nilFunc
  | fn (f : Nat) : PR M w (.fn f) (.func (.func f) #[] #[])
  | vsl0 (n : I) (sy : Bool) (l : List PV) (a : Option Addr) (c : Nat) (h : n.val = 0) (hc : c ≤ maxLen) : PR M w (.vsl n sy l) (.slice a 0 c)
  | vsl (n : I) (sy : Bool) (l : List PV) (a : Addr) (k c : Nat) (f : Nat → Value) (h : n.val = k) (hs : a.spot = none) (hM : ¬ M a.block) (hlt : a.block < w.heap.size)
      (hk : k ≤ c) (hc : c ≤ maxLen) (hcell : ∀ (j : Nat) (u : PV), l[j]? = some u → w.cell? (a.add j) = some (f j)) (hrel : ∀ (j : Nat) (u : PV), l[j]? = some u → PR M w u (f j)) :
      PR M w (.vsl n sy l) (.slice (some a) k c)
  | vp (sy : Bool) (l : List PV) (o : I) (a : Addr) (k : Nat) (f : Nat → Value) (h : o.val = k) (hs : a.spot = none) (hM : ¬ M a.block) (hlt : a.block < w.heap.size)
      (hcell : ∀ (j : Nat) (u : PV), l[j]? = some u → w.cell? (a.add j) = some (f j)) (hrel : ∀ (j : Nat) (u : PV), l[j]? = some u → PR M w u (f j)) :
      PR M w (.vp sy l o) (.pointer (some (a.add k)))
  | undef (x : Value) (h : x.oneCell' = true) : PR M w .undef x

/-- Which block a name stands for (some none: a slice of nothing, which may have none), and which blocks are another one's. -/
structure Ctx where
  m : Nat → Option (Option Nat)
  X : Nat → Prop
  N : Nat
def Ctx.own (c : Ctx) (r : Nat) : Prop := ∃ b, c.m b = some (some r)
def Ctx.mut (c : Ctx) (r : Nat) : Prop := c.X r ∨ c.own r

inductive LR (c : Ctx) (w : World) : LV → Value → Prop
  | p (v : PV) (x : Value) (h : PR c.mut w v x) : LR c w (.p v) x
  | ptr (b : Nat) (o : I) (r k : Nat) (hm : c.m b = some (some r)) (h : o.val = k) : LR c w (.ptr b o) (.pointer (some ⟨r, k, none⟩))
  | goneP (b : Nat) (o : I) (a : Option Addr) (hm : c.m b = none) (hb : b < c.N) : LR c w (.ptr b o) (.pointer a)
  | sl (b e sz : Nat) (o n : I) (r j k cp tot : Nat) (hm : c.m b = some (some r)) (ho : o.val = j) (hn : n.val = k) (hk : k ≤ cp) (hc : cp ≤ maxLen)
      (hs : w.shape? r = some (e, tot)) (ht : j + cp * sz = tot) : LR c w (.sl b e sz o n) (.slice (some ⟨r, j, none⟩) k cp)
  | slv (b e sz : Nat) (o n : I) (hm : c.m b = some none) (ho : o.val = 0) (hn : n.val = 0) : LR c w (.sl b e sz o n) (.slice none 0 0)
  | goneS (b e sz : Nat) (o n : I) (a : Option Addr) (k cp : Nat) (hm : c.m b = none) (hb : b < c.N) : LR c w (.sl b e sz o n) (.slice a k cp)
  | agg (l : List LV) (x : Array Value) (hl : l.length = x.size) (h : ∀ (j : Nat) (u : LV), l[j]? = some u → LR c w u (x.getD j undef)) : LR c w (.agg l) (.agg x)
  | tup (l : List LV) (x : Array Value) (hl : l.length = x.size) (h : ∀ (j : Nat) (u : LV), l[j]? = some u → LR c w u (x.getD j undef)) : LR c w (.tup l) (.tuple x)
  | iface (t : Nat) (v : LV) (x : Value) (h : LR c w v x) : LR c w (.iface t v) (.iface t x)
  | fn (f : Nat) (l : List LV) (x : Array Value) (hl : l.length = x.size) (h : ∀ (j : Nat) (u : LV), l[j]? = some u → LR c w u (x.getD j undef)) : LR c w (.fn f l) (.func (.func f) #[] x)
  | nul : LR c w .nul Go.undef
  | undef (x : Value) : LR c w .undef x

/-- What a block holds. -/
def BR (c : Ctx) (w : World) : LB → Option Nat → Prop
  | .pure _ l, some r => ∃ cur ty, w.heap[r]? = some (.cells cur ty (0, 0)) ∧ l.length ≤ cur.size ∧ ∀ (j : Nat) (u : PV), l[j]? = some u → PR c.mut w u (cur.getD j undef)
  | .pure _ l, none => l = []
  | .mix l, some r => ∃ cur ty, w.heap[r]? = some (.cells cur ty (0, 0)) ∧ l.length ≤ cur.size ∧ ∀ (j : Nat) (u : LV), l[j]? = some u → LR c w u (cur.getD j undef)
  | .mix l, none => l = []
  | .iter s pos, some r => ∃ p : Nat, pos.val = p ∧ w.heap[r]? = some (.stringIter (s ()) p)
  | .iter _ _, none => False
  | .fix g o, none => w.heap[g]? = some (o ()) ∧ ¬ c.mut g
  | .fix _ _, some _ => False
  | .bld t l, some r => ∃ cur : Array Value, w.heap[r]? = some (.cells cur t (0, 0)) ∧ cur.size = l.length + 1 ∧ (cur.getD 0 Go.undef = .pointer none ∨ cur.getD 0 Go.undef = .pointer (some ⟨r, 0, none⟩)) ∧ ∀ (j : Nat) (u : LV), l[j]? = some u → LR c w u (cur.getD (j + 1) undef)
  | .bld _ _, none => False
structure HR (c : Ctx) (w : World) (h : LH) : Prop where
  live : ∀ b B, hget h b = some B → ∃ m, c.m b = some m ∧ BR c w B m
  fresh : ∀ b, c.N ≤ b → c.m b = none
  inj : ∀ b b' r, c.m b = some (some r) → c.m b' = some (some r) → b = b'
  noX : ∀ b r, c.m b = some (some r) → ¬ c.X r
  ltX : ∀ r, c.X r → r < w.heap.size
  lt : ∀ b r, c.m b = some (some r) → r < w.heap.size
structure St (c : Ctx) (s : LS) (a : Act) (w : World) : Prop where
  tl : s.t.length = a.tmps.size
  tr : ∀ (i : Nat) (u : LV), s.t[i]? = some u → LR c w u (a.tmps.getD i undef)
  df : a.defers = []
  hr : HR c w s.h
  nn : c.N = s.n
/-- What has become of a world, seen from an earlier one. -/
structure Ext (c : Ctx) (w : World) (c' : Ctx) (w' : World) : Prop where
  os : w'.os = w.os
  tape : w'.tape = w.tape
  output : w'.output = w.output
  size : w.heap.size ≤ w'.heap.size
  X : c'.X = c.X
  N : c.N ≤ c'.N
  old : ∀ b, b < c.N → c'.m b = c.m b ∨ c'.m b = none
  new : ∀ b r, c.N ≤ b → c'.m b = some (some r) → w.heap.size ≤ r ∨ c.own r
  same : ∀ r, r < w.heap.size → ¬ c.own r → w'.heap[r]? = w.heap[r]?
  shape : ∀ b r, b < c.N → c'.m b = some (some r) → w'.shape? r = w.shape? r
/-- A call: in whatever world, what comes back, and what the blocks hold then. -/
def CallSem (P : Program) (f : Nat) (args : List LV) (h : LH) (n : Nat) (K : LV → LH → Nat → Prop) : Prop :=
  ∀ (c : Ctx) (w : World) (xs : Array Value), HR c w h → c.N = n → args.length = xs.size → (∀ (i : Nat) (u : LV), args[i]? = some u → LR c w u (xs.getD i Go.undef)) →
    Calls P f xs w fun e w' => ∃ (c' : Ctx) (r : LV) (v : Value) (h' : LH) (n' : Nat), e = .returned v ∧ K r h' n' ∧ HR c' w' h' ∧ c'.N = n' ∧ LR c' w' r v ∧ Ext c w c' w'

/-! ### Places at which something must be shown, or told -/
inductive Fit (k : IntKind) (e : Unit → Int) (K : I → Prop) : Prop
  | mk (h1 : k.min ≤ e ()) (h2 : e () ≤ k.max) (hk : ∀ z, z = e () → K (.sym z))
  | lit (n : Int) (h : k.wrap (e ()) = n) (hk : K (.lit n))
  | wrap (hk : ∀ z, z = k.wrap (e ()) → K (.sym z))
inductive Sum (e : Unit → Int) (K : I → Prop) : Prop
  | mk (hk : ∀ z, z = e () → K (.sym z))
  | lit (n : Int) (h : e () = n) (hk : K (.lit n))
inductive Br (p : Unit → Prop) (K : Bool → Prop) : Prop
  | mk (ht : p () → K true) (hf : ¬ p () → K false)
inductive Need (p : Unit → Prop) (K : Unit → Prop) : Prop
  | mk (h : p ()) (hk : K ())
inductive Cell (l : Unit → List PV) (i : Unit → Int) (K : PV → Prop) : Prop
  | mk (v : PV) (h : (l ())[(i ()).toNat]? = some v) (hk : K v)
inductive Upd (l : Unit → List PV) (K : List PV → Prop) : Prop
  | mk (hk : ∀ l', l' = l () → K l')
inductive Str (s : Unit → ByteArray) (K : (Unit → ByteArray) → Prop) : Prop
  | mk (hk : ∀ z, z = s () → K fun _ => z)
  | lit (z : Unit → ByteArray) (h : z () = s ()) (hk : K z)
/-- The bytes that cells tell. -/
def bytesOf : List PV → List UInt8 → Prop
  | [], [] => True
  | .int .u8 e :: l, b :: s => e.val = (b.toNat : Int) ∧ bytesOf l s
  | _, _ => False
inductive Bytes (l : Unit → List PV) (K : (Unit → ByteArray) → Prop) : Prop
  | mk (s : List UInt8) (h : bytesOf (l ()) s) (hk : ∀ z, z = ByteArray.mk s.toArray → K fun _ => z)
/-- An append: a new row, or within the room that there is. -/
inductive Room (p q : Unit → Prop) (K K' : Unit → Prop) : Prop
  | new (h : p ()) (hk : K ())
  | within (h : q ()) (hk : K' ())
/-- How much room there is: so many cells at least. -/
inductive Cap (l : Unit → Int) (sz : Nat) (K : I → Prop) : Prop
  | mk (hk : ∀ z : Int, l () ≤ z * sz → 0 ≤ z → K (.sym z))
def callable (P : Program) (f : Nat) : Prop := ∃ fn c, P.funcs[f]? = some fn ∧ (fn.name == "runtime.NumGoroutine") = false ∧ fn.body = some c
inductive CallF (P : Unit → Program) (f : Nat) (args : List LV) (h : LH) (n : Nat) (K : LV → LH → Nat → Prop) : Prop
  | mk (hc : callable (P ()) f) (hs : CallSem (P ()) f args h n K)
/-- The next sign of a text that is ranged over. -/
inductive NextS (s : Unit → ByteArray) (pos : Unit → Int) (K : Option (I × I) → Prop) : Prop
  | over (h : ((s ()).size : Int) ≤ pos ()) (hk : K none)
  | more (h : pos () < (s ()).size) (hk : ∀ r p, r = ((Utf8.decode (s ()) (pos ()).toNat).1 : Int) → p = pos () + ((Utf8.decode (s ()) (pos ()).toNat).2 : Int) → K (some (.sym r, .sym p)))
  | lit (h : pos () < (s ()).size) (r p : Int) (h1 : ((Utf8.decode (s ()) (pos ()).toNat).1 : Int) = r) (h2 : pos () + ((Utf8.decode (s ()) (pos ()).toNat).2 : Int) = p) (hk : K (some (.lit r, .lit p)))

/-! ### What an operation does -/
def iadd (a b : I) (K : I → Prop) : Prop :=
  match a, b with
  | .lit x, .lit y => K (.lit (x + y))
  | a, .lit y => match decide (y = 0) with
    | true => K a
    | false => Sum (fun _ => a.val + y) K
  | .lit x, b => match decide (x = 0) with
    | true => K b
    | false => Sum (fun _ => x + b.val) K
  | a, b => Sum (fun _ => a.val + b.val) K
def imul (a : I) (k : Nat) (K : I → Prop) : Prop :=
  match Nat.beq k 1 with
  | true => K a
  | false => match a with
    | .lit x => K (.lit (x * k))
    | .sym x => Sum (fun _ => x * k) K

def pnth : List PV → Nat → Option PV
  | [], _ => none
  | x :: _, 0 => some x
  | _ :: l, n + 1 => pnth l n
def psetO : List PV → Nat → PV → Option (List PV)
  | [], _, _ => none
  | _ :: l, 0, v => some (v :: l)
  | x :: l, n + 1, v => match psetO l n v with
    | some l' => some (x :: l')
    | none => none
def putP (l : List PV) (n : Nat) : List PV → Option (List PV)
  | [] => some l
  | u :: us => match psetO l n u with
    | some l' => putP l' (n + 1) us
    | none => none
def lnth : List LV → Nat → Option LV
  | [], _ => none
  | x :: _, 0 => some x
  | _ :: l, n + 1 => lnth l n
def lsetO : List LV → Nat → LV → Option (List LV)
  | [], _, _ => none
  | _ :: l, 0, v => some (v :: l)
  | x :: l, n + 1, v => match lsetO l n v with
    | some l' => some (x :: l')
    | none => none
def putM (l : List LV) (n : Nat) : List LV → Option (List LV)
  | [] => some l
  | u :: us => match lsetO l n u with
    | some l' => putM l' (n + 1) us
    | none => none
def getM (l : List LV) (o : Nat) : Nat → Option (List LV)
  | 0 => some []
  | k + 1 => match lnth l o with
    | some v => match getM l (o + 1) k with
      | some vs => some (v :: vs)
      | none => none
    | none => none
def updL (l : List PV) (o : Nat) : List PV → List PV
  | [] => l
  | u :: us => updL (l.set o u) (o + 1) us
def pvs : List PV → List LV
  | [] => []
  | v :: l => .p v :: pvs l
def allP : List LV → Option (List PV)
  | [] => some []
  | .p v :: l => match allP l with
    | some us => some (v :: us)
    | none => none
  | _ :: _ => none
/-- May it stand in one cell? -/
def okc : LV → Bool
  | .p _ => true
  | .ptr _ _ => true
  | .sl _ _ _ _ _ => true
  | .iface _ _ => true
  | .fn _ _ => true
  | _ => false
def allOk : List LV → Bool
  | [] => true
  | v :: l => match okc v with
    | true => allOk l
    | false => false
def LB.of (l : List LV) : LB :=
  match allP l with
  | some us => .pure false us
  | none => .mix l
def cellsL : LV → List LV
  | .agg l => l
  | v => [v]
def llen : List LV → Nat
  | [] => 0
  | _ :: l => llen l + 1

def cellAt (sy : Bool) (l : List PV) (o : I) (j : Nat) (K : PV → Prop) : Prop :=
  match sy with
  | false => match o with
    | .lit n => match pnth l (n.toNat + j) with
      | some v => K v
      | none => False
    | .sym n => Cell (fun _ => l) (fun _ => n + j) K
  | true => Cell (fun _ => l) (fun _ => o.val + j) K
def getP (sy : Bool) (l : List PV) (o : I) : Nat → Nat → (List LV → Prop) → Prop
  | 0, _, K => K []
  | k + 1, j, K => cellAt sy l o j fun v => getP sy l o k (j + 1) fun vs => K (.p v :: vs)
def TK.agg : TK → Bool
  | .struct _ => true
  | .arr _ _ => true
  | _ => false
def ofCells (k : TK) (l : List LV) (K : LV → Prop) : Prop :=
  match k.agg with
  | true => K (.agg l)
  | false => match l with
    | [v] => K v
    | _ => False
def loadB (B : LB) (o : I) (ti : TI) (K : LV → Prop) : Prop :=
  match B with
  | .pure sy l => getP sy l o ti.size 0 fun vs => ofCells ti.kind vs K
  | .mix l => match o with
    | .lit n => match getM l n.toNat ti.size with
      | some vs => ofCells ti.kind vs K
      | none => False
    | _ => False
  | .iter _ _ => False
  | .fix _ _ => False
  | .bld _ l => match o with
    | .lit (.ofNat (n + 1)) => match getM l n ti.size with
      | some vs => ofCells ti.kind vs K
      | none => False
    | _ => False
def storeB (B : LB) (o : I) (vs : List LV) (K : LB → Prop) : Prop :=
  match allOk vs with
  | false => False
  | true => match B with
    | .pure sy l => match allP vs with
      | some us => match sy with
        | false => match o with
          | .lit n => match putP l n.toNat us with
            | some l' => K (.pure false l')
            | none => False
          | .sym n => Need (fun _ => n + us.length ≤ l.length) fun _ => Upd (fun _ => updL l n.toNat us) fun l' => K (.pure true l')
        | true => Need (fun _ => o.val + us.length ≤ l.length) fun _ => Upd (fun _ => updL l o.val.toNat us) fun l' => K (.pure true l')
      | none => match sy with
        | false => match o with
          | .lit n => match putM (pvs l) n.toNat vs with
            | some l' => K (.mix l')
            | none => False
          | _ => False
        | true => False
    | .mix l => match o with
      | .lit n => match putM l n.toNat vs with
        | some l' => K (.mix l')
        | none => False
      | _ => False
    | .iter _ _ => False
    | .fix _ _ => False
    | .bld t l => match o with
      | .lit (.ofNat (n + 1)) => match putM l n vs with
        | some l' => K (.bld t l')
        | none => False
      | .lit (.ofNat 0) => match vs with
        | [.p .nilp] => K (.bld t l)
        | _ => False
      | _ => False

def nz (b : I) (K : Unit → Prop) : Prop :=
  match b with
  | .lit y => match decide (y = 0) with
    | true => False
    | false => K ()
  | .sym y => Need (fun _ => y ≠ 0) K
def arQuo (k : IntKind) (a b : I) (K : I → Prop) : Prop :=
  match a, b with
  | .lit x, .lit y => K (.lit (k.wrap (x.tdiv y)))
  | _, _ => Fit k (fun _ => a.val.tdiv b.val) K
def arRem (a b : I) (K : I → Prop) : Prop :=
  match a, b with
  | .lit x, .lit y => K (.lit (x.tmod y))
  | _, _ => Sum (fun _ => a.val.tmod b.val) K
def ar (k : IntKind) (op : BinOp) (a b : I) (K : I → Prop) : Prop :=
  match op with
  | .add => match a, b with
    | .lit x, .lit y => K (.lit (k.wrap (x + y)))
    | _, _ => Fit k (fun _ => a.val + b.val) K
  | .sub => match a, b with
    | .lit x, .lit y => K (.lit (k.wrap (x - y)))
    | _, _ => Fit k (fun _ => a.val - b.val) K
  | .mul => match a, b with
    | .lit x, .lit y => K (.lit (k.wrap (x * y)))
    | _, _ => Fit k (fun _ => a.val * b.val) K
  | .quo => nz b fun _ => arQuo k a b K
  | .rem => nz b fun _ => arRem a b K
  | .and => Sum (fun _ => k.wrap ((BitVec.ofInt k.bits a.val &&& BitVec.ofInt k.bits b.val).toNat : Int)) K
  | _ => False
def cmpI (op : BinOp) (a b : I) (K : Bool → Prop) : Prop :=
  match op with
  | .lss => match a, b with
    | .lit x, .lit y => K (decide (x < y))
    | _, _ => Br (fun _ => a.val < b.val) K
  | .leq => match a, b with
    | .lit x, .lit y => K (decide (x ≤ y))
    | _, _ => Br (fun _ => a.val ≤ b.val) K
  | .gtr => match a, b with
    | .lit x, .lit y => K (decide (y < x))
    | _, _ => Br (fun _ => b.val < a.val) K
  | .geq => match a, b with
    | .lit x, .lit y => K (decide (y ≤ x))
    | _, _ => Br (fun _ => b.val ≤ a.val) K
  | .eql => match a, b with
    | .lit x, .lit y => K (decide (x = y))
    | _, _ => Br (fun _ => a.val = b.val) K
  | .neq => match a, b with
    | .lit x, .lit y => K (decide (x ≠ y))
    | _, _ => Br (fun _ => a.val ≠ b.val) K
  | _ => False
def isAr : BinOp → Bool
  | .add => true
  | .sub => true
  | .mul => true
  | .quo => true
  | .rem => true
  | .and => true
  | _ => false
def tkOf (T : TT) (t : Nat) : TK :=
  match lget T t with
  | some ti => ti.kind
  | none => .other
/-- May two structs be held against each other, cell by cell? -/
def cmpOK (P : Program) (t : Nat) : LV → LV → Bool
  | .p (.int k _), .p (.int k' _) => match P.underlying t with
    | some (.int _) => decide (k = k')
    | _ => false
  | .p (.bool _), .p (.bool _) => match P.underlying t with
    | some .bool => true
    | _ => false
  | .p (.str _), .p (.str _) => match P.underlying t with
    | some .string => true
    | _ => false
  | _, _ => false
def fieldsOK (P : Program) : Nat → List Field → List LV → List LV → Bool
  | _, [], _, _ => true
  | j, f :: fs, x :: l, y :: m => f.name != "_" && f.offset == j && cmpOK P f.type x y && fieldsOK P (j + 1) fs l m
  | _, _, _, _ => false
def itemsOK (P : Program) (e : Nat) : List LV → List LV → Bool
  | [], [] => true
  | x :: l, y :: m => cmpOK P e x y && itemsOK P e l m
  | _, _ => false
def flatOK (P : Program) (t : Nat) (l m : List LV) : Bool :=
  !P.eqGuardType P.depth t && !P.stoodInHeld t && match P.underlying t with
  | some (.struct fs) => fs.size == l.length && fs.size == m.length && fieldsOK P 0 fs.toList l m
  | some (.array n e) => n == l.length && n == m.length && itemsOK P e l m && match P.info? e with
    | some i => i.size == 1
    | none => false
  | _ => false
def eqLs : List LV → List LV → Prop
  | .p (.int _ a) :: l, .p (.int _ b) :: m => a.val = b.val ∧ eqLs l m
  | .p (.bool a) :: l, .p (.bool b) :: m => a = b ∧ eqLs l m
  | .p (.str a) :: l, .p (.str b) :: m => a () = b () ∧ eqLs l m
  | _, _ => True
inductive AggEq (P : Unit → Program) (t : Nat) (l m : List LV) (K : Bool → Prop) : Prop
  | mk (h : flatOK (P ()) t l m = true) (ht : eqLs l m → K true) (hf : ¬ eqLs l m → K false)
def bin (P : Unit → Program) (t : Nat) (k : TK) (s : LS) (op : BinOp) (x y : LV) (K : LV → Prop) : Prop :=
  match x, y with
  | .agg l, .agg m => match op with
    | .eql => AggEq P t l m fun c => K (.p (.bool c))
    | .neq => AggEq P t l m fun c => match c with
      | true => K (.p (.bool false))
      | false => K (.p (.bool true))
    | _ => False
  | .p (.int k a), .p (.int k' b) => match decide (k = k') with
    | true => match isAr op with
      | true => ar k op a b fun z => K (.p (.int k z))
      | false => cmpI op a b fun c => K (.p (.bool c))
    | false => False
  | .p (.str a), .p (.str b) => match op with
    | .add => Need (fun _ => (a ()).size + (b ()).size ≤ 9223372036854775807) fun _ => Str (fun _ => a () ++ b ()) fun z => K (.p (.str z))
    | .eql => Br (fun _ => a () = b ()) fun c => K (.p (.bool c))
    | .neq => Br (fun _ => a () ≠ b ()) fun c => K (.p (.bool c))
    | _ => False
  | .p (.bool a), .p (.bool b) => match k with
    | .bool => match op with
      | .eql => K (.p (.bool (a == b)))
      | .neq => K (.p (.bool (a != b)))
      | _ => False
    | _ => False
  | .ptr b _, .p .nilp => match k with
    | .ptr _ => match hget s.h b with
      | some _ => match op with
        | .eql => K (.p (.bool false))
        | .neq => K (.p (.bool true))
        | _ => False
      | none => False
    | _ => False
  | .p .nilp, .p .nilp => match k with
    | .ptr _ => match op with
      | .eql => K (.p (.bool true))
      | .neq => K (.p (.bool false))
      | _ => False
    | _ => False
  | _, _ => False

/-- A new block. -/
def LS.new (s : LS) (B : LB) : LS := { s with h := (s.n, B) :: s.h, n := s.n + 1 }
def scal : TK → Bool
  | .int _ => true
  | .bool => true
  | .str => true
  | .ptr _ => true
  | .slice _ => true
  | .iface => true
  | .func => true
  | _ => false

/-- Where the parts of a struct, or of an array, go. -/
def place (T : TT) (k : TK) (i : Nat) : Option (Nat × Nat) :=
  match k with
  | .struct fs => match fs[i]? with
    | some (off, t) => match lget T t with
      | some ti => some (off, ti.size)
      | none => none
    | none => none
  | .arr _ e => match lget T e with
    | some ti => some (i * ti.size, ti.size)
    | none => none
  | .slice e => match lget T e with
    | some ti => some (i * ti.size, ti.size)
    | none => none
  | _ => none
def fillL (T : TT) (k : TK) (cells : List LV) : List (Nat × LV) → Option (List LV)
  | [] => some cells
  | (i, v) :: rest => match place T k i with
    | some (off, size) => match Nat.beq (llen (cellsL v)) size, allOk (cellsL v), Nat.ble 1 size with
      | true, true, true => match putM cells off (cellsL v) with
        | some cs => fillL T k cs rest
        | none => none
      | _, _, _ => none
    | none => none
def evs (s : LS) : List (Nat × Operand) → List (Nat × LV)
  | [] => []
  | (i, x) :: l => (i, ev s x) :: evs s l
def eva (s : LS) : List Operand → List LV
  | [] => []
  | x :: l => ev s x :: eva s l
def reps (z : List PV) : Nat → List LV
  | 0 => []
  | n + 1 => pvs z ++ reps z n

/-- Some cells of a row, from a place on. -/
def partC (l : List PV) (o n : I) (sz : Nat) (K : Bool → List PV → I → Prop) : Prop :=
  Need (fun _ => 0 ≤ o.val ∧ 0 ≤ n.val ∧ o.val + n.val * sz ≤ l.length) fun _ => Upd (fun _ => (l.drop o.val.toNat).take (n.val.toNat * sz)) fun l' => K true l' n
/-- The cells of what is appended: (sy, cells, how many elements). -/
def newCells (s : LS) (te : TI) (y : LV) (K : Bool → List PV → I → Prop) : Prop :=
  match y with
  | .p .nils => K false [] (.lit 0)
  | .p (.vsl n sy l) => Need (fun _ => (l.length : Int) = n.val * te.size) fun _ => K sy l n
  | .sl b _ _ o n => match hget s.h b with
    | some (.pure sy l) => match o with
      | .lit j => match decide (j = 0) with
        | true => Room (fun _ => (l.length : Int) = n.val * te.size) (fun _ => 0 ≤ n.val ∧ n.val * te.size ≤ l.length) (fun _ => K sy l n) fun _ => Upd (fun _ => l.take (n.val.toNat * te.size)) fun l' => K true l' n
        | false => partC l o n te.size K
      | _ => partC l o n te.size K
    | _ => False
  | _ => False
def catL (sa sb : Bool) (a b : List PV) (K : Bool → List PV → Prop) : Prop :=
  match sa, sb with
  | false, false => K false (a ++ b)
  | _, _ => Upd (fun _ => a ++ b) fun l => K true l
def appendC (s : LS) (e : Nat) (te : TI) (sb : Bool) (b : List PV) (m : I) (x : LV) (K : LV → LS → Prop) : Prop :=
  match x with
  | .p .nils => Need (fun _ => m.val * te.bytes ≤ 140737488355328 ∧ m.val ≤ 9223372036854775807) fun _ => K (.sl s.n e te.size (.lit 0) m) (s.new (.pure sb b))
  | .sl i e' sz (.lit j) n => match hget s.h i with
    | some (.pure sa a) => match decide (j = 0), Nat.beq sz te.size, Nat.beq e' e with
      | true, true, true => Room (fun _ => (a.length : Int) = n.val * te.size ∧ (n.val + m.val) * te.bytes ≤ 140737488355328 ∧ n.val + m.val ≤ 9223372036854775807) (fun _ => (n.val + m.val) * te.size ≤ a.length)
          (fun _ => catL sa sb a b fun sc l => iadd n m fun k => K (.sl s.n e te.size (.lit 0) k) { s with h := (s.n, .pure sc l) :: hdel s.h i, n := s.n + 1 })
          (fun _ => Upd (fun _ => updL a (n.val.toNat * te.size) b) fun l => iadd n m fun k => K (.sl i e te.size (.lit 0) k) { s with h := hset s.h i (.pure true l) })
      | _, _, _ => False
    | _ => False
  | _ => False
def appendL (s : LS) (e : Nat) (te : TI) (x y : LV) (K : LV → LS → Prop) : Prop :=
  match allOk (pvs te.zero), Nat.beq (llen (pvs te.zero)) te.size, Nat.ble 1 te.size with
  | true, true, true => newCells s te y fun sb b m => appendC s e te sb b m x K
  | _, _, _ => False
/-- The bytes of a text, as cells. -/
def bytesPV (s : ByteArray) : List PV := s.data.toList.map fun b => .int .u8 (.sym b.toNat)
def isU8 (te : TI) : Bool :=
  match te.kind with
  | .int k => match k with
    | .u8 => match Nat.beq te.size 1, te.zero with
      | true, [.int _ _] => true
      | _, _ => false
    | _ => false
  | _ => false
/-- A text, appended to bytes. -/
def appendS (s : LS) (e : Nat) (te : TI) (x y : LV) (K : LV → LS → Prop) : Prop :=
  match isU8 te with
  | true => match y with
    | .p (.str z) => Need (fun _ => ((z ()).size : Int) ≤ 140737488355328) fun _ => Upd (fun _ => bytesPV (z ())) fun b => Sum (fun _ => (z ()).size) fun m => appendC s e te true b m x K
    | _ => False
  | false => False
def lenB : LB → Nat
  | .pure _ l => l.length
  | .mix l => l.length
  | .iter _ _ => 0
  | .fix _ _ => 0
  | .bld _ _ => 0
def repsP (z : List PV) : Nat → List PV
  | 0 => []
  | n + 1 => z ++ repsP z n
/-- The cells of a new row. -/
def madeL (z : List PV) (m : I) (K : Bool → List PV → Prop) : Prop :=
  match m with
  | .lit c => match decide (c ≤ 64) with
    | true => K false (repsP z c.toNat)
    | false => Upd (fun _ => repsP z c.toNat) fun l => K true l
  | .sym c => Upd (fun _ => repsP z c.toNat) fun l => K true l
/-- A row of which a part is cleared. -/
def clearL (s : LS) (te : TI) (x : LV) (K : LS → Prop) : Prop :=
  match Nat.beq (llen (pvs te.zero)) te.size, Nat.ble 1 te.size with
  | true, true => match x with
    | .p .nils => K s
    | .p (.vsl n _ _) => Need (fun _ => n.val = 0) fun _ => K s
    | .sl b _ sz o n => match Nat.beq sz te.size, hget s.h b with
      | true, some (.pure _ l) => Need (fun _ => 0 ≤ o.val ∧ 0 ≤ n.val ∧ o.val + n.val * te.size ≤ l.length) fun _ => Upd (fun _ => updL l o.val.toNat (repsP te.zero n.val.toNat)) fun l' => K { s with h := hset s.h b (.pure true l') }
      | _, _ => False
    | _ => False
  | _, _ => False
/-- Bytes, as a text. -/
def toStr (T : TT) (s : LS) (ts : TI) (x : LV) (K : (Unit → ByteArray) → Prop) : Prop :=
  match ts.kind with
  | .slice e => match lget T e with
    | some te => match te.kind with
      | .int k => match decide (k = .u8) with
        | true => match x with
          | .p .nils => K fun _ => ⟨#[]⟩
          | .p (.vsl n _ l) => Need (fun _ => n.val ≤ l.length) fun _ => Bytes (fun _ => l.take n.val.toNat) K
          | .sl b _ _ o n => match hget s.h b with
            | some (.pure _ l) => match o with
              | .lit j => match decide (j = 0) with
                | true => Need (fun _ => n.val ≤ l.length) fun _ => Bytes (fun _ => l.take n.val.toNat) K
                | false => False
              | _ => False
            | _ => False
          | _ => False
        | false => False
      | _ => False
    | none => False
  | _ => False
/-- A part of a slice: of one that leads to nothing that may turn; or of a known one, from its start. -/
def sliceL (s : LS) (te : TI) (x : LV) (from_ : Bool) (lo : LV) (hi : Option LV) (K : LV → Prop) : Prop :=
  match lo with
  | .p (.int _ lo) => match x with
    | .p (.vsl n _ l) => match hi with
      | some (.p (.int _ hi)) => Need (fun _ => 0 ≤ lo.val ∧ lo.val ≤ hi.val ∧ hi.val ≤ n.val) fun _ => Upd (fun _ => (l.drop (lo.val.toNat * te.size)).take ((hi.val - lo.val).toNat * te.size)) fun l' => Sum (fun _ => hi.val - lo.val) fun z => K (.p (.vsl z true l'))
      | some _ => False
      | none => Need (fun _ => 0 ≤ lo.val ∧ lo.val ≤ n.val) fun _ => Upd (fun _ => l.drop (lo.val.toNat * te.size)) fun l' => Sum (fun _ => n.val - lo.val) fun z => K (.p (.vsl z true l'))
    | .sl b e sz o n => match hget s.h b, from_ with
      | some B, false => match hi with
        | some (.p (.int _ hi)) => Need (fun _ => 0 ≤ hi.val ∧ (hi.val ≤ n.val ∨ (1 ≤ sz ∧ o.val + hi.val * sz ≤ lenB B))) fun _ => K (.sl b e sz o hi)
        | _ => False
      | some _, true => match Nat.beq sz te.size with
        | true => match hi with
          | some (.p (.int _ hi)) => Room (fun _ => 0 ≤ lo.val ∧ lo.val < hi.val ∧ hi.val ≤ n.val) (fun _ => 0 ≤ lo.val ∧ lo.val = hi.val ∧ hi.val ≤ n.val) (fun _ => imul lo te.size fun z => iadd o z fun o' => Sum (fun _ => hi.val - lo.val) fun k => K (.sl b e sz o' k)) fun _ => K (.p (.vsl (.lit 0) false []))
          | some _ => False
          | none => Room (fun _ => 0 ≤ lo.val ∧ lo.val < n.val) (fun _ => 0 ≤ lo.val ∧ lo.val = n.val) (fun _ => imul lo te.size fun z => iadd o z fun o' => Sum (fun _ => n.val - lo.val) fun k => K (.sl b e sz o' k)) fun _ => K (.p (.vsl (.lit 0) false []))
        | false => False
      | _, _ => False
    | _ => False
  | _ => False
/-- A struct of a pointer to its own kind and a slice of bytes. -/
def selfed (T : TT) (t : Nat) (k : TK) : Bool :=
  match k with
  | .struct [(_, p), (_, q)] => match lget T p, lget T q with
    | some tp, some tq => match tp.kind, tq.kind with
      | .ptr e, .slice _ => Nat.beq e t
      | _, _ => false
    | _, _ => false
  | _ => false
def lop (P : Unit → Program) (T : Unit → TT) (o : Oper) (s : LS) (K : LS → Prop) : Prop :=
  match o.op with
  | .move x => K (s.put o.dst (ev s x))
  | .assign x => K (s.put o.dst (ev s x))
  | .pick c a b => match ev s c with
    | .p (.bool c) => match c with
      | true => K (s.put o.dst (ev s a))
      | false => K (s.put o.dst (ev s b))
    | _ => False
  | .binOp op t x y _ => bin P t (tkOf (T ()) t) s op (ev s x) (ev s y) fun v => K (s.put o.dst v)
  | .unOp op _ x => match op with
    | .not => match ev s x with
      | .p (.bool b) => match b with
        | true => K (s.put o.dst (.p (.bool false)))
        | false => K (s.put o.dst (.p (.bool true)))
      | _ => False
    | .neg => match ev s x with
      | .p (.int k a) => ar k .sub (.lit 0) a fun z => K (s.put o.dst (.p (.int k z)))
      | _ => False
    | _ => False
  | .nilCheck x => match ev s x with
    | .ptr b o' => match hget s.h b with
      | some _ => K (s.put o.dst (.ptr b o'))
      | none => False
    | .p (.vp sy l o') => K (s.put o.dst (.p (.vp sy l o')))
    | _ => False
  | .alloc t => match lget (T ()) t with
    | some ti => match selfed (T ()) t ti.kind with
      | true => match ti.zero with
        | .nilp :: l => K ((s.new (.bld t (pvs l))).put o.dst (.ptr s.n (.lit 0)))
        | _ => False
      | false => K ((s.new (.pure false ti.zero)).put o.dst (.ptr s.n (.lit 0)))
    | none => False
  | .box _ x => match allOk (cellsL (ev s x)) with
    | true => K ((s.new (LB.of (cellsL (ev s x)))).put o.dst (.ptr s.n (.lit 0)))
    | false => False
  | .build t parts => match lget (T ()) t with
    | some ti => match ti.kind.agg with
      | true => match fillL (T ()) ti.kind (pvs ti.zero) (evs s parts.toList) with
        | some cs => K (s.put o.dst (.agg cs))
        | none => False
      | false => False
    | none => False
  | .buildSlice t len parts => match lget (T ()) t with
    | some ti => match ti.kind with
      | .slice e => match lget (T ()) e with
        | some te => match Nat.ble (len * te.size) 10000, Nat.beq (llen (pvs te.zero)) te.size, Nat.ble 1 te.size with
          | true, true, true => match fillL (T ()) ti.kind (reps te.zero len) (evs s parts.toList) with
            | some cs => K ((s.new (LB.of cs)).put o.dst (.sl s.n e te.size (.lit 0) (.lit len)))
            | none => False
          | _, _, _ => False
        | none => False
      | _ => False
    | none => False
  | .load t x => match lget (T ()) t with
    | some ti => match ev s x with
      | .ptr b o' => match hget s.h b with
        | some B => loadB B o' ti fun v => K (s.put o.dst v)
        | none => False
      | .p (.vp sy l o') => getP sy l o' ti.size 0 fun vs => ofCells ti.kind vs fun v => K (s.put o.dst v)
      | _ => False
    | none => False
  | .store t x v => match lget (T ()) t with
    | some ti => match ev s x with
      | .ptr b o' => match Nat.beq (llen (cellsL (ev s v))) ti.size, Nat.ble 1 ti.size with
        | true, true => match hget s.h b with
          | some B => storeB B o' (cellsL (ev s v)) fun B' => K ({ s with h := hset s.h b B' }.put o.dst .nul)
          | none => False
        | _, _ => False
      | _ => False
    | none => False
  | .fieldAddr t x f => match lget (T ()) t with
    | some ti => match ti.kind with
      | .struct fs => match fs[f]? with
        | some (off, ft) => match lget (T ()) ft with
          | some tf => match Nat.ble 1 tf.size with
            | true => match ev s x with
              | .ptr b o' => match hget s.h b with
                | some _ => iadd o' (.lit off) fun z => K (s.put o.dst (.ptr b z))
                | none => False
              | .p (.vp sy l o') => iadd o' (.lit off) fun z => K (s.put o.dst (.p (.vp sy l z)))
              | _ => False
            | false => False
          | none => False
        | none => False
      | _ => False
    | none => False
  | .field t x f => match lget (T ()) t with
    | some ti => match ti.kind with
      | .struct fs => match fs[f]? with
        | some (off, ft) => match lget (T ()) ft with
          | some tf => match ev s x with
            | .agg l => match getM l off tf.size with
              | some vs => ofCells tf.kind vs fun v => K (s.put o.dst v)
              | none => False
            | _ => False
          | none => False
        | none => False
      | _ => False
    | none => False
  | .indexAddr t x i => match lget (T ()) t with
    | some ti => match ev s i with
      | .p (.int _ i) => match ti.kind with
        | .slice e => match lget (T ()) e with
          | some te => match ev s x with
            | .p (.vsl n sy l) => Need (fun _ => 0 ≤ i.val ∧ i.val < n.val) fun _ => imul i te.size fun z => K (s.put o.dst (.p (.vp sy l z)))
            | .sl b _ _ o' n => match hget s.h b with
              | some _ => Need (fun _ => 0 ≤ i.val ∧ i.val < n.val) fun _ => imul i te.size fun z => iadd o' z fun y => K (s.put o.dst (.ptr b y))
              | none => False
            | _ => False
          | none => False
        | .arr n e => match lget (T ()) e with
          | some te => match ev s x with
            | .ptr b o' => match hget s.h b with
              | some _ => Need (fun _ => 0 ≤ i.val ∧ i.val < n) fun _ => imul i te.size fun z => iadd o' z fun y => K (s.put o.dst (.ptr b y))
              | none => False
            | _ => False
          | none => False
        | _ => False
      | _ => False
    | none => False
  | .index t x i => match lget (T ()) t with
    | some ti => match ti.kind with
      | .str => match ev s x, ev s i with
        | .p (.str z), .p (.int _ i) => Need (fun _ => 0 ≤ i.val ∧ i.val < (z ()).size) fun _ => Sum (fun _ => ((z ()).get! i.val.toNat).toNat) fun y => K (s.put o.dst (.p (.int .u8 y)))
        | _, _ => False
      | _ => False
    | none => False
  | .slice t x lo hi none => match lget (T ()) t with
    | some ti => match ti.kind with
      | .str => match ev s x with
        | .p (.str z) => match (lo.map (ev s)).getD (.p (.int .i64 (.lit 0))) with
          | .p (.int _ lo) => match hi.map (ev s) with
            | none => Need (fun _ => 0 ≤ lo.val ∧ lo.val ≤ (z ()).size) fun _ => Str (fun _ => (z ()).extract lo.val.toNat (z ()).size) fun y => K (s.put o.dst (.p (.str y)))
            | some (.p (.int _ hi)) => Need (fun _ => 0 ≤ lo.val ∧ lo.val ≤ hi.val ∧ hi.val ≤ (z ()).size) fun _ => Str (fun _ => (z ()).extract lo.val.toNat hi.val.toNat) fun y => K (s.put o.dst (.p (.str y)))
            | _ => False
          | _ => False
        | _ => False
      | .slice e => match lget (T ()) e with
        | some te => sliceL s te (ev s x) (lo.isSome) ((lo.map (ev s)).getD (.p (.int .i64 (.lit 0)))) (hi.map (ev s)) fun v => K (s.put o.dst v)
        | none => False
      | _ => False
    | none => False
  | .convert src dst x => match lget (T ()) src, lget (T ()) dst with
    | some ts, some ti => match ti.kind with
      | .int k => match ev s x with
        | .p (.int _ a) => match a with
          | .lit n => K (s.put o.dst (.p (.int k (.lit (k.wrap n)))))
          | .sym n => Fit k (fun _ => n) fun z => K (s.put o.dst (.p (.int k z)))
        | _ => False
      | .str => match ev s x with
        | .p (.int _ a) => Str (fun _ => Utf8.encode a.val) fun z => K (s.put o.dst (.p (.str z)))
        | .p (.str z) => K (s.put o.dst (.p (.str z)))
        | y => toStr (T ()) s ts y fun z => K (s.put o.dst (.p (.str z)))
      | _ => False
    | _, _ => False
  | .makeSlice t len cap => match lget (T ()) t with
    | some ti => match ti.kind with
      | .slice e => match lget (T ()) e with
        | some te => match Nat.beq (llen (pvs te.zero)) te.size, Nat.ble 1 te.size with
          | true, true => match ev s len, ev s cap with
            | .p (.int _ n), .p (.int _ m) => Need (fun _ => 0 ≤ n.val ∧ n.val ≤ m.val ∧ m.val * te.bytes ≤ 140737488355328 ∧ m.val ≤ 9223372036854775807) fun _ => madeL te.zero m fun sy l => K ((s.new (.pure sy l)).put o.dst (.sl s.n e te.size (.lit 0) n))
            | _, _ => False
          | _, _ => False
        | none => False
      | _ => False
    | none => False
  | .makeInterface t x => match lget (T ()) t with
    | some ti => match ti.kind with
      | .iface => False
      | _ => K (s.put o.dst (.iface t (ev s x)))
    | none => False
  | .typeAssert x _ t ok => match ok with
    | true => match lget (T ()) t with
      | some ti => match ti.kind with
        | .iface => False
        | _ => match ev s x with
          | .iface u v => match Nat.beq u t with
            | true => K (s.put o.dst (.tup [v, .p (.bool true)]))
            | false => ofCells ti.kind (pvs ti.zero) fun z => K (s.put o.dst (.tup [z, .p (.bool false)]))
          | .p .nilif => ofCells ti.kind (pvs ti.zero) fun z => K (s.put o.dst (.tup [z, .p (.bool false)]))
          | _ => False
      | none => False
    | false => False
  | .extract x i => match ev s x with
    | .tup l => match lnth l i with
      | some v => K (s.put o.dst v)
      | none => False
    | _ => False
  | .range t x => match lget (T ()) t with
    | some ti => match ti.kind, ev s x with
      | .str, .p (.str z) => K ((s.new (.iter z (.lit 0))).put o.dst (.ptr s.n (.lit 0)))
      | _, _ => False
    | none => False
  | .next x isS => match isS with
    | true => match ev s x with
      | .ptr b (.lit m) => match hget s.h b with
        | some (.iter z pos) => match decide (m = 0) with
          | true => NextS z (fun _ => pos.val) fun r => match r with
            | none => K (s.put o.dst (.tup [.p (.bool false)]))
            | some (c, p) => K ({ s with h := hset s.h b (.iter z p) }.put o.dst (.tup [.p (.bool true), .p (.int .i64 pos), .p (.int .i32 c)]))
          | false => False
        | _ => False
      | _ => False
    | false => False
  | .makeFunc fn first cap => match fn, first.toList with
    | .func f, [] => K (s.put o.dst (.fn f (eva s cap.toList)))
    | _, _ => False
  | .call c => match c.callee with
    | .value f => match ev s f with
      | .p (.fn g) => CallF P g (eva s c.args.toList) s.h s.n fun r h n => K ({ s with h := h, n := n }.put o.dst r)
      | .fn g cap => CallF P g (eva s c.args.toList ++ cap) s.h s.n fun r h n => K ({ s with h := h, n := n }.put o.dst r)
      | _ => False
    | .builtin b => match b, eva s c.args.toList with
      | .len, [x] => match c.argTypes.toList[0]? with
        | some t => match lget (T ()) t with
          | some ti => match ti.kind, x with
            | .slice _, .p (.vsl n _ _) => K (s.put o.dst (.p (.int .i64 n)))
            | .slice _, .p .nils => K (s.put o.dst (.p (.int .i64 (.lit 0))))
            | .str, .p (.str z) => Sum (fun _ => (z ()).size) fun y => K (s.put o.dst (.p (.int .i64 y)))
            | .slice _, .sl b _ _ _ n => match hget s.h b with
              | some _ => K (s.put o.dst (.p (.int .i64 n)))
              | none => False
            | _, _ => False
          | none => False
        | none => False
      | .append, [x, y] => match c.argTypes.toList with
        | [t, u] => match lget (T ()) t, Nat.beq t u with
          | some ti, true => match ti.kind with
            | .slice e => match lget (T ()) e with
              | some te => appendL s e te x y fun r s' => K (s'.put o.dst r)
              | none => False
            | _ => False
          | some ti, false => match ti.kind, tkOf (T ()) u with
            | .slice e, .str => match lget (T ()) e with
              | some te => appendS s e te x y fun r s' => K (s'.put o.dst r)
              | none => False
            | _, _ => False
          | _, _ => False
        | _ => False
      | .cap, [x] => match c.argTypes.toList[0]? with
        | some t => match lget (T ()) t with
          | some ti => match ti.kind, x with
            | .slice _, .sl b _ sz o' _ => match hget s.h b with
              | some B => match o' with
                | .lit j => match decide (j = 0) with
                  | true => Cap (fun _ => lenB B) sz fun z => K (s.put o.dst (.p (.int .i64 z)))
                  | false => False
                | _ => False
              | none => False
            | _, _ => False
          | none => False
        | none => False
      | .min, [.p (.int k a), .p (.int _ b)] => Br (fun _ => b.val < a.val) fun c => match c with
        | true => K (s.put o.dst (.p (.int k b)))
        | false => K (s.put o.dst (.p (.int k a)))
      | .max, [.p (.int k a), .p (.int _ b)] => Br (fun _ => a.val < b.val) fun c => match c with
        | true => K (s.put o.dst (.p (.int k b)))
        | false => K (s.put o.dst (.p (.int k a)))
      | .clear, [x] => match c.argTypes.toList[0]? with
        | some t => match lget (T ()) t with
          | some ti => match ti.kind with
            | .slice e => match lget (T ()) e with
              | some te => clearL s te x fun s' => K (s'.put o.dst (.tup []))
              | none => False
            | _ => False
          | none => False
        | none => False
      | _, _ => False
    | _ => False
  | _ => False

/-! ### Code -/
def onth : List Oper → Nat → Option Oper
  | [], _ => none
  | x :: _, 0 => some x
  | _ :: l, n + 1 => onth l n
def yes (s : LS) (ops : List Oper) : Option (Nat × Bool) → Option Bool
  | none => some true
  | some (j, want) => match onth ops j with
    | some o => match o.dst with
      | some d => match tget s.t d with
        | .p (.bool c) => match want with
          | true => some c
          | false => some (!c)
        | .nul => some false
        | _ => none
      | none => some false
    | none => some false
def lops (P : Unit → Program) (T : Unit → TT) (all : List Oper) : List Oper → LS → (LS → Prop) → Prop
  | [], s, K => K s
  | o :: rest, s, K =>
    match yes s all o.guard with
    | some c => match c with
      | true => lop P T o s fun s' => lops P T all rest s' K
      | false => lops P T all rest (s.put o.dst .nul) K
    | none => False

/-- What a state is as well, other names taken for its blocks, and less said of it. -/
inductive Re (n0 : Nat) (s s' : LS) : Prop
  | mk (h : ∀ c0 w0 c a w, c0.N = n0 → Ext c0 w0 c w → St c s a w → ∃ c', Ext c0 w0 c' w ∧ St c' s' a w)
inductive Again (V : Nat → LS → Prop) (n0 k : Nat) (s' : LS) : Prop
  | mk (k' : Nat) (s'' : LS) (hm : k' < k) (hr : Re n0 s' s'') (hv : V k' s'')
def LoopK (V : Nat → LS → Prop) (n0 : Nat) (K : Exit → LS → Prop) (k : Nat) : Exit → LS → Prop
  | .normal, s' => Again V n0 k s'
  | .exit j, s' => K (.exit j) s'
  | .ret, s' => K .ret s'
  | .goto j, s' => K (.goto j) s'
  | .panic c, s' => K (.panic c) s'
  | .outgrown, s' => K .outgrown s'
inductive LoopF (n0 : Nat) (B : Unit → LS → (Exit → LS → Prop) → Prop) (s : LS) (K : Exit → LS → Prop) : Prop
  | mk (V : Nat → LS → Prop) (k0 : Nat) (s0 : LS) (h0 : Re n0 s s0) (hv : V k0 s0) (hr : ∀ k s, V k s → B () s (LoopK V n0 K k))
/-- A region whose operations may be done in more than one order. -/
inductive DrawF (P : Unit → Program) (ops : Unit → Array Oper) (s : LS) (K : LS → Prop) : Prop
  | mk (h : ∀ c a w t Q, St c s a w → (∀ a' w', (∃ c' s', K s' ∧ St c' s' a' w' ∧ Ext c w c' w') → Q Exit.normal a' w') → wpOps (P ()) (ops ()) Q (Region.schedule ((P ()).follows .mixedOrders) (ops ()) t) a w)
/-- A cut: what holds here is enough. -/
def lcode (P : Unit → Program) (T : Unit → TT) (n0 : Nat) : Code → LS → (Exit → LS → Prop) → Prop
  | .skip, s, K => K .normal s
  | .label _, s, K => K .normal s
  | .region _ ops d, s, K => match d with
    | false => lops P T ops.toList ops.toList s fun s' => K .normal s'
    | true => DrawF P (fun _ => ops) s fun s' => K .normal s'
  | .seq a b, s, K => lcode P T n0 a s fun e s' => match e with
    | .normal => lcode P T n0 b s' K
    | .exit j => K (.exit j) s'
    | .ret => K .ret s'
    | .goto _ => False
    | .panic _ => False
    | .outgrown => False
  | .cond c a b, s, K => match ev s c with
    | .p (.bool c) => match c with
      | true => lcode P T n0 a s K
      | false => lcode P T n0 b s K
    | _ => False
  | .block id c, s, K => lcode P T n0 c s fun e s' => match e with
    | .exit j => match Nat.beq j id with
      | true => K .normal s'
      | false => K (.exit j) s'
    | .normal => K .normal s'
    | .ret => K .ret s'
    | .goto _ => False
    | .panic _ => False
    | .outgrown => False
  | .loop c, s, K => LoopF n0 (fun _ s K => lcode P T n0 c s K) s K
  | .exit id, s, K => K (.exit id) s
  | .ret, s, K => K .ret s
  | _, _, _ => False

def one : List LV → LV
  | [v] => v
  | l => .tup l
/-- The end of a call: what comes back, and what the blocks hold, told in the names that the caller has. -/
inductive RetF (n0 : Nat) (rs : List LV) (h : LH) (n : Nat) (K : LV → LH → Nat → Prop) : Prop
  | mk (rs' : List LV) (h' : LH) (n' : Nat) (hr : Re n0 ⟨rs, h, n⟩ ⟨rs', h', n'⟩) (hl : rs'.length = rs.length) (hk : K (one rs') h' n')
def lres (T : Unit → TT) (s : LS) : List ResultVar → (List LV → Prop) → Prop
  | [], K => K []
  | .tmp t :: l, K => lres T s l fun vs => K (tget s.t t :: vs)
  | .cell a t :: l, K => match tget s.t a with
    | .ptr b o => match hget s.h b, lget (T ()) t with
      | some B, some ti => loadB B o ti fun v => lres T s l fun vs => K (v :: vs)
      | _, _ => False
    | _ => False
def undefs : Nat → List LV
  | 0 => []
  | n + 1 => .undef :: undefs n
def lbody (P : Unit → Program) (T : Unit → TT) (cd : Code) (rs : List ResultVar) (nt : Nat) (args : List LV) (h : LH) (n : Nat) (K : LV → LH → Nat → Prop) : Prop :=
  lcode P T n cd ⟨args ++ undefs (nt - llen args), h, n⟩ fun e s' => match e with
    | .normal => lres T s' rs fun vs => RetF n vs s'.h s'.n K
    | .ret => lres T s' rs fun vs => RetF n vs s'.h s'.n K
    | .exit _ => False
    | .goto _ => False
    | .panic _ => False
    | .outgrown => False
end Go.LX
