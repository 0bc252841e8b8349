/-
  The ground of the proof, part 1: the calculus and what is proved with it.
-/
import Derived.WalkKit
import Derived.ProofKit
import Derived.OpenShut
import Derived.IntWalk
import Derived.Below
import Derived.Deep.Draws
import Derived.Laws.BitsLemmas
import Derived.Laws.BitsAllLaws
import Derived.Laws.OwnMore
import Derived.Deep.AppendLies
import Derived.Lib.Hide
import Derived.Carry
import Derived.SliceStrings
import Derived.ChangeSlices
import Derived.Calls
import Derived.KernelRfl
import GoSem.ClaimData
import Derived.Laws.Sem
import Derived.Laws.AppendOwn
import Derived.Laws.StructEq
import Derived.ChangeKeysEq
import Derived.Laws.Cells
import Derived.Laws.CopyRow
import Derived.Laws.Tables
import Derived.DataElems
namespace Go.Proofs.YtcbombkaacjngaaGreatDoor
open Go.RowKit Go.WideShapes Go.ChangeShapes
set_option maxHeartbeats 32000000
theorem and1_i64 (x : Int) : bits .and .i64 x 1 = x % 2 := by
 have h : ((BitVec.ofInt 64 x &&& BitVec.ofInt 64 1).toNat : Int) = x % 2 := by
  rw [BitVec.toNat_and]
  have e1 : (BitVec.ofInt 64 1).toNat = 1 := by decide
  rw [e1,nat_mask1,BitVec.toNat_ofInt]
  omega
 show IntKind.i64.wrap ((BitVec.ofInt 64 x &&& BitVec.ofInt 64 1).toNat : Int) = _
 rw [h,IntKind.wrap_i64]
 omega
section
variable {H : Type} {enc : TypeId × Value → H} {P : Program}
theorem law_post {f : Func} {s : ChangeSpec} {apart fresh handsOn again : Bool} {W W' : World} {args : Array Value} {v : Value} {ds gs : List (DataW H)} {before pa pv : List MemPlace}
  (hW : DataW.Whole enc P f.params.toList s.vars apart W args.toList ds gs before)
  (hres : ∀ (b : Nat) (sp : Nat → Bool) (hd : Bool),DataW.TrodAll enc P W' b sp hd f.resultTypes.toList (v.resultList f.resultTypes.size) (s.fn H (ds ++ gs)).results [])
  (hargs : ∀ sp : Nat → Bool,(∀ p ∈ before,sp p.block = true) → DataW.TrodAll enc P W' 0 sp true f.params.toList args.toList (s.fn H (ds ++ gs)).args pa)
  (hvars : ∀ sp : Nat → Bool,(∀ p ∈ before,sp p.block = true) → DataW.TrodVars enc P W' sp s.vars (s.fn H (ds ++ gs)).vars pv)
  (hps : before = pa ++ pv) (hb : Below W.heap.size W W')
  (hok : ∀ (j : Nat) (t : TypeId) (r : Value),f.resultTypes[j]? = some t → (v.resultList f.resultTypes.size)[j]? = some r → Value.okWide P W' .any 0 t r) :
  s.post enc P f apart fresh handsOn again W args v W' := by
 have hlt : ∀ p ∈ before,p.block < W.heap.size := fun p hp => hW.lt p hp
 have hold : ∀ p ∈ before,(fun b => decide (b < W.heap.size)) p.block = true := fun p hp => decide_eq_true (hlt p hp)
 obtain ⟨p0,q0,h1,h2,h3,hz,hn⟩ := id hW
 refine ⟨ds,gs,before,[],pa,pv,hW,hres _ _ _,hargs _ hold,hvars _ hold,World.keptBut_mono (fun p hp => ⟨hp,Or.inr (List.mem_append.1 (hps ▸ hp))⟩) (hb.frame (· ∈ before)),fun _ => ?_⟩
 refine ⟨hok,_,_,([] ++ pa) ++ pv,⟨[] ++ pa,pv,trodAll_append (hargs _ (fun _ _ => rfl)) (hres _ _ _),hvars _ (fun _ _ => rfl),rfl,?_,?_⟩,?_⟩
 ·intro b off hp
  have hin : MemPlace.cell b off ∈ before := by rw [hps]; simpa using hp
  exact (hb.frozen (p := ⟨b,off,none⟩) (hlt _ hin)).trans (hz b off hin)
 ·intro ha
  have hd := hn ha
  rw [hps] at hd
  simpa using hd
 ·intro p hp _
  rw [hps]
  simpa using hp
end
end Go.Proofs.YtcbombkaacjngaaGreatDoor
namespace Go.Proofs.YtcbombkaacjngaaGreatDoor
open Go.RowKit
set_option maxHeartbeats 32000000
theorem add_block (a : Addr) (n : Nat) : (a.add n).block = a.block := by
 unfold Addr.add; split <;> rfl
structure Sl (w : World) (B size : Nat) (v : Value) (n : Nat) (xs : List Value) : Prop where
 len : xs.length = n * size
 max : n ≤ maxLen
 form : (v = .slice none 0 0 ∧ n = 0) ∨ ∃ a c,v = .slice (some a) n c ∧ n ≤ c ∧ c ≤ maxLen ∧ (0 < n → a.block < B) ∧ ∀ j u,xs[j]? = some u → w.cell? (a.add j) = some u
section
variable {w w' : World} {B B' size n : Nat} {v : Value} {xs : List Value}
end
end Go.Proofs.YtcbombkaacjngaaGreatDoor
namespace Go.Proofs.YtcbombkaacjngaaGreatDoor
open Go.RowKit Go.ChangeShapes Go.WideShapes
set_option maxHeartbeats 32000000
section
variable {H : Type} {enc : TypeId × Value → H} {P : Program} {W : World}
theorem lt_of_cell {w : World} {a : Addr} {v : Value} (h : w.cell? a = some v) : a.block < w.heap.size := by
 rcases Nat.lt_or_ge a.block w.heap.size with h1 | h1
 ·exact h1
 ·simp [World.cell?,Array.getElem?_eq_none h1] at h
end
end Go.Proofs.YtcbombkaacjngaaGreatDoor
namespace Go.LX
open Go
set_option maxHeartbeats 32000000
inductive I where
 | lit (n : Int)
 | sym (n : Int)
def I.val : I → Int
 | .lit n => n
 | .sym n => n
inductive PV where
 | int (k : IntKind) (e : I)
 | bool (b : Bool)
 | str (s : Unit → ByteArray)
 | nilp
 | nils
 | nilif
 | nilfn
 | nilm
 | fn (f : Nat)
 | vsl (n : I) (sy : Bool) (l : List PV)
 | vp (sy : Bool) (l : List PV) (o : I)
 | undef
inductive LV where
 | p (v : PV)
 | ptr (b : Nat) (o : I)
 | sl (b e sz : Nat) (o n : I)
 | sla (b : Nat) (o n : I)
 | mp (b : Nat)
 | agg (l : List LV)
 | tup (l : List LV)
 | iface (t : Nat) (v : LV)
 | fn (f : Nat) (cap : List LV)
 | nul
 | undef
inductive LB where
 | pure (sy : Bool) (l : List PV)
 | mix (l : List LV)
 | iter (s : Unit → ByteArray) (pos : I)
 | fix (g : Nat) (o : Unit → Obj)
 | bld (t : Nat) (l : List LV)
 | set (l : List Int)
 | kv (l v : List Int)
 | frz (l : List PV)
abbrev LH := List (Nat × LB)
structure LS where
 t : List LV
 h : LH
 n : Nat
inductive TK where
 | int (k : IntKind)
 | bool
 | str
 | ptr (e : Nat)
 | slice (e : Nat)
 | struct (fs : List (Nat × Nat))
 | arr (n e : Nat)
 | map (k e : Nat)
 | iface
 | func
 | other
structure TI where
 size : Nat
 bytes : Nat
 zero : List PV
 kind : TK
abbrev TT := List (Nat × TI)
def lget : TT → Nat → Option TI
 | [],_ => none
 | (a,x) :: l,b => match Nat.beq a b with
  | true => some x
  | false => lget l b
def hget : LH → Nat → Option LB
 | [],_ => none
 | (a,x) :: l,b => match Nat.beq a b with
  | true => some x
  | false => hget l b
def hset : LH → Nat → LB → LH
 | [],_,_ => []
 | (a,x) :: l,b,y => match Nat.beq a b with
  | true => (a,y) :: l
  | false => (a,x) :: hset l b y
def hdel : LH → Nat → LH
 | [],_ => []
 | (a,x) :: l,b => match Nat.beq a b with
  | true => hdel l b
  | false => (a,x) :: hdel l b
def LV.ofV : Value → LV
 | .int k n => .p (.int k (.lit n))
 | .bool b => .p (.bool b)
 | .string s => .p (.str fun _ => s)
 | .pointer none => .p .nilp
 | .slice none 0 0 => .p .nils
 | .nilIface => .p .nilif
 | .nilFunc => .p .nilfn
 | .map none => .p .nilm
 | _ => .undef
def tget : List LV → Nat → LV
 | [],_ => .undef
 | x :: _,0 => x
 | _ :: l,n + 1 => tget l n
def tset : List LV → Nat → LV → List LV
 | [],_,_ => []
 | _ :: l,0,v => v :: l
 | x :: l,n + 1,v => x :: tset l n v
def ev (s : LS) : Operand → LV
 | .tmp t => tget s.t t
 | .const v => .ofV v
 | .global _ => .undef
 | .func f => .p (.fn f)
def LS.put (s : LS) : Option Nat → LV → LS
 | none,_ => s
 | some d,v => { s with t := tset s.t d v }
inductive PR (M : Nat → Prop) (w : World) : PV → Value → Prop
 | int (k : IntKind) (e : I) (n : Int) (h : e.val = n) : PR M w (.int k e) (.int k n)
 | bool (b : Bool) : PR M w (.bool b) (.bool b)
 | str (s : Unit → ByteArray) : PR M w (.str s) (.string (s ()))
 | nilp : PR M w .nilp (.pointer none)
 | nils : PR M w .nils (.slice none 0 0)
 | nilif : PR M w .nilif .nilIface
 | nilfn : PR M w .nilfn .nilFunc
 | nilm : PR M w .nilm (.map none)
 | fn (f : Nat) : PR M w (.fn f) (.func (.func f) #[] #[])
 | vsl0 (n : I) (sy : Bool) (l : List PV) (a : Option Addr) (c : Nat) (h : n.val = 0) (hc : c ≤ maxLen) : PR M w (.vsl n sy l) (.slice a 0 c)
 | vsl (n : I) (sy : Bool) (l : List PV) (a : Addr) (k c : Nat) (f : Nat → Value) (h : n.val = k) (hs : a.spot = none) (hM : ¬ M a.block) (hlt : a.block < w.heap.size)
   (hk : k ≤ c) (hc : c ≤ maxLen) (hcell : ∀ (j : Nat) (u : PV),l[j]? = some u → w.cell? (a.add j) = some (f j)) (hrel : ∀ (j : Nat) (u : PV),l[j]? = some u → PR M w u (f j)) :
   PR M w (.vsl n sy l) (.slice (some a) k c)
 | vp (sy : Bool) (l : List PV) (o : I) (a : Addr) (k : Nat) (f : Nat → Value) (h : o.val = k) (hs : a.spot = none) (hM : ¬ M a.block) (hlt : a.block < w.heap.size)
   (hcell : ∀ (j : Nat) (u : PV),l[j]? = some u → w.cell? (a.add j) = some (f j)) (hrel : ∀ (j : Nat) (u : PV),l[j]? = some u → PR M w u (f j)) :
   PR M w (.vp sy l o) (.pointer (some (a.add k)))
 | undef (x : Value) (h : x.oneCell' = true) : PR M w .undef x
structure Ctx where
 m : Nat → Option (Option Nat)
 X : Nat → Prop
 N : Nat
def Ctx.own (c : Ctx) (r : Nat) : Prop := ∃ b,c.m b = some (some r)
def Ctx.mut (c : Ctx) (r : Nat) : Prop := c.X r ∨ c.own r
inductive LR (c : Ctx) (w : World) : LV → Value → Prop
 | p (v : PV) (x : Value) (h : PR c.mut w v x) : LR c w (.p v) x
 | ptr (b : Nat) (o : I) (r k : Nat) (hm : c.m b = some (some r)) (h : o.val = k) : LR c w (.ptr b o) (.pointer (some ⟨r,k,none⟩))
 | goneP (b : Nat) (o : I) (a : Option Addr) (hm : c.m b = none) (hb : b < c.N) : LR c w (.ptr b o) (.pointer a)
 | sl (b e sz : Nat) (o n : I) (r j k cp tot : Nat) (hm : c.m b = some (some r)) (ho : o.val = j) (hn : n.val = k) (hk : k ≤ cp) (hc : cp ≤ maxLen)
   (hs : w.shape? r = some (e,tot)) (ht : j + cp * sz = tot) : LR c w (.sl b e sz o n) (.slice (some ⟨r,j,none⟩) k cp)
 | slv (b e sz : Nat) (o n : I) (hm : c.m b = some none) (ho : o.val = 0) (hn : n.val = 0) : LR c w (.sl b e sz o n) (.slice none 0 0)
 | slz (b e sz : Nat) (o n : I) (a : Option Addr) (r tot : Nat) (hm : c.m b = some (some r)) (ho : o.val = tot) (hn : n.val = 0) (hs : w.shape? r = some (e,tot)) (h0 : 1 ≤ tot) : LR c w (.sl b e sz o n) (.slice a 0 0)
 | goneS (b e sz : Nat) (o n : I) (a : Option Addr) (k cp : Nat) (hm : c.m b = none) (hb : b < c.N) : LR c w (.sl b e sz o n) (.slice a k cp)
 | sla (b : Nat) (o n : I) (r j k cp : Nat) (hm : c.m b = some (some r)) (ho : o.val = j) (hn : n.val = k) (hk : k ≤ cp) (hc : cp ≤ maxLen) : LR c w (.sla b o n) (.slice (some ⟨r,j,none⟩) k cp)
 | goneA (b : Nat) (o n : I) (x : Value) (hm : c.m b = none) (hb : b < c.N) : LR c w (.sla b o n) x
 | mp (b r : Nat) (hm : c.m b = some (some r)) : LR c w (.mp b) (.map (some r))
 | goneM (b : Nat) (x : Value) (hm : c.m b = none) (hb : b < c.N) : LR c w (.mp b) x
 | agg (l : List LV) (x : Array Value) (hl : l.length = x.size) (h : ∀ (j : Nat) (u : LV),l[j]? = some u → LR c w u (x.getD j undef)) : LR c w (.agg l) (.agg x)
 | tup (l : List LV) (x : Array Value) (hl : l.length = x.size) (h : ∀ (j : Nat) (u : LV),l[j]? = some u → LR c w u (x.getD j undef)) : LR c w (.tup l) (.tuple x)
 | iface (t : Nat) (v : LV) (x : Value) (h : LR c w v x) : LR c w (.iface t v) (.iface t x)
 | fn (f : Nat) (l : List LV) (x : Array Value) (hl : l.length = x.size) (h : ∀ (j : Nat) (u : LV),l[j]? = some u → LR c w u (x.getD j undef)) : LR c w (.fn f l) (.func (.func f) #[] x)
 | nul : LR c w .nul Go.undef
 | undef (x : Value) : LR c w .undef x
def BR (c : Ctx) (w : World) : LB → Option Nat → Prop
 | .pure _ l,some r => ∃ cur ty,w.heap[r]? = some (.cells cur ty (0,0)) ∧ l.length ≤ cur.size ∧ ∀ (j : Nat) (u : PV),l[j]? = some u → PR c.mut w u (cur.getD j undef)
 | .pure _ l,none => l = []
 | .mix l,some r => ∃ cur ty,w.heap[r]? = some (.cells cur ty (0,0)) ∧ l.length ≤ cur.size ∧ ∀ (j : Nat) (u : LV),l[j]? = some u → LR c w u (cur.getD j undef)
 | .mix l,none => l = []
 | .iter s pos,some r => ∃ p : Nat,pos.val = p ∧ w.heap[r]? = some (.stringIter (s ()) p)
 | .iter _ _,none => False
 | .fix g o,none => w.heap[g]? = some (o ()) ∧ ¬ c.mut g
 | .fix _ _,some _ => False
 | .bld t l,some r => ∃ cur : Array Value,w.heap[r]? = some (.cells cur t (0,0)) ∧ cur.size = l.length + 1 ∧ (cur.getD 0 Go.undef = .pointer none ∨ cur.getD 0 Go.undef = .pointer (some ⟨r,0,none⟩)) ∧ ∀ (j : Nat) (u : LV),l[j]? = some u → LR c w u (cur.getD (j + 1) undef)
 | .bld _ _,none => False
 | .set l,some r => ∃ (es : Array MapEntry) (clock : Nat),w.heap[r]? = some (.map es clock) ∧ es.toList.map (·.key) = l.map (fun n => Value.int .i64 n) ∧ ∀ e ∈ es.toList,e.val = .agg #[]
 | .set _,none => False
 | .kv l v,some r => ∃ (es : Array MapEntry) (clock : Nat),w.heap[r]? = some (.map es clock) ∧ es.toList.map (·.key) = l.map (fun n => Value.int .i64 n) ∧ es.toList.map (·.val) = v.map (fun n => Value.int .i64 n)
 | .kv _ _,none => False
 | .frz l,some r => ∃ cur ty fr,w.heap[r]? = some (.cells cur ty fr) ∧ l.length ≤ cur.size ∧ ∀ (j : Nat) (u : PV),l[j]? = some u → PR c.mut w u (cur.getD j undef)
 | .frz _,none => False
structure HR (c : Ctx) (w : World) (h : LH) : Prop where
 live : ∀ b B,hget h b = some B → ∃ m,c.m b = some m ∧ BR c w B m
 fresh : ∀ b,c.N ≤ b → c.m b = none
 inj : ∀ b b' r,c.m b = some (some r) → c.m b' = some (some r) → b = b'
 noX : ∀ b r,c.m b = some (some r) → ¬ c.X r
 ltX : ∀ r,c.X r → r < w.heap.size
 lt : ∀ b r,c.m b = some (some r) → r < w.heap.size
structure St (c : Ctx) (s : LS) (a : Act) (w : World) : Prop where
 tl : s.t.length = a.tmps.size
 tr : ∀ (i : Nat) (u : LV),s.t[i]? = some u → LR c w u (a.tmps.getD i undef)
 df : a.defers = []
 hr : HR c w s.h
 nn : c.N = s.n
structure Ext (c : Ctx) (w : World) (c' : Ctx) (w' : World) : Prop where
 os : w'.os = w.os
 tape : w'.tape = w.tape
 output : w'.output = w.output
 size : w.heap.size ≤ w'.heap.size
 X : c'.X = c.X
 N : c.N ≤ c'.N
 old : ∀ b,b < c.N → c'.m b = c.m b ∨ c'.m b = none
 new : ∀ b r,c.N ≤ b → c'.m b = some (some r) → w.heap.size ≤ r ∨ c.own r
 same : ∀ r,r < w.heap.size → ¬ c.own r → w'.heap[r]? = w.heap[r]?
 shape : ∀ b r,b < c.N → c'.m b = some (some r) → w'.shape? r = w.shape? r
def CallSem (P : Program) (f : Nat) (args : List LV) (h : LH) (n : Nat) (K : LV → LH → Nat → Prop) : Prop :=
 ∀ (c : Ctx) (w : World) (xs : Array Value),HR c w h → c.N = n → args.length = xs.size → (∀ (i : Nat) (u : LV),args[i]? = some u → LR c w u (xs.getD i Go.undef)) →
  Calls P f xs w fun e w' => ∃ (c' : Ctx) (r : LV) (v : Value) (h' : LH) (n' : Nat),e = .returned v ∧ K r h' n' ∧ HR c' w' h' ∧ c'.N = n' ∧ LR c' w' r v ∧ Ext c w c' w'
inductive Fit (k : IntKind) (e : Unit → Int) (K : I → Prop) : Prop
 | mk (h1 : k.min ≤ e ()) (h2 : e () ≤ k.max) (hk : ∀ z,z = e () → K (.sym z))
 | lit (n : Int) (h : k.wrap (e ()) = n) (hk : K (.lit n))
 | wrap (hk : ∀ z,z = k.wrap (e ()) → K (.sym z))
inductive Sum (e : Unit → Int) (K : I → Prop) : Prop
 | mk (hk : ∀ z,z = e () → K (.sym z))
 | lit (n : Int) (h : e () = n) (hk : K (.lit n))
inductive Br (p : Unit → Prop) (K : Bool → Prop) : Prop
 | mk (ht : p () → K true) (hf : ¬ p () → K false)
inductive Need (p : Unit → Prop) (K : Unit → Prop) : Prop
 | mk (h : p ()) (hk : K ())
inductive Cell (l : Unit → List PV) (i : Unit → Int) (K : PV → Prop) : Prop
 | mk (v : PV) (h : (l ())[(i ()).toNat]? = some v) (hk : K v)
inductive Upd (l : Unit → List PV) (K : List PV → Prop) : Prop
 | mk (hk : ∀ l',l' = l () → K l')
inductive Str (s : Unit → ByteArray) (K : (Unit → ByteArray) → Prop) : Prop
 | mk (hk : ∀ z,z = s () → K fun _ => z)
 | lit (z : Unit → ByteArray) (h : z () = s ()) (hk : K z)
def bytesOf : List PV → List UInt8 → Prop
 | [],[] => True
 | .int .u8 e :: l,b :: s => e.val = (b.toNat : Int) ∧ bytesOf l s
 | _,_ => False
inductive Bytes (l : Unit → List PV) (K : (Unit → ByteArray) → Prop) : Prop
 | mk (s : List UInt8) (h : bytesOf (l ()) s) (hk : ∀ z,z = ByteArray.mk s.toArray → K fun _ => z)
inductive Room (p q : Unit → Prop) (K K' : Unit → Prop) : Prop
 | new (h : p ()) (hk : K ())
 | within (h : q ()) (hk : K' ())
inductive Cap (l : Unit → Int) (sz : Nat) (K : I → Prop) : Prop
 | mk (hk : ∀ z : Int,l () ≤ z * sz → 0 ≤ z → K (.sym z))
def callable (P : Program) (f : Nat) : Prop := ∃ fn c,P.funcs[f]? = some fn ∧ (fn.name == "runtime.NumGoroutine") = false ∧ fn.body = some c
inductive CallF (P : Unit → Program) (f : Nat) (args : List LV) (h : LH) (n : Nat) (K : LV → LH → Nat → Prop) : Prop
 | mk (hc : callable (P ()) f) (hs : CallSem (P ()) f args h n K)
inductive InvF (P : Unit → Program) (u : LV) (name : String) (args : List LV) (h : LH) (n : Nat) (K : LV → LH → Nat → Prop) : Prop
 | mk (g : Nat) (rv : LV) (hs : ∀ (c : Ctx) (w : World) (v : Value),HR c w h → LR c w u v → ∃ (t : TypeId) (x r : Value),v = .iface t x ∧ (method ((P ()).types.size + Made.depth) t x name).run (P ()) w = .ok (g,r) w ∧ LR c w rv r) (hc : CallF P g (rv :: args) h n K)
inductive NextS (s : Unit → ByteArray) (pos : Unit → Int) (K : Option (I × I) → Prop) : Prop
 | over (h : ((s ()).size : Int) ≤ pos ()) (hk : K none)
 | more (h : pos () < (s ()).size) (hk : ∀ r p,r = ((Utf8.decode (s ()) (pos ()).toNat).1 : Int) → p = pos () + ((Utf8.decode (s ()) (pos ()).toNat).2 : Int) → K (some (.sym r,.sym p)))
 | lit (h : pos () < (s ()).size) (r p : Int) (h1 : ((Utf8.decode (s ()) (pos ()).toNat).1 : Int) = r) (h2 : pos () + ((Utf8.decode (s ()) (pos ()).toNat).2 : Int) = p) (hk : K (some (.lit r,.lit p)))
def iadd (a b : I) (K : I → Prop) : Prop :=
 match a,b with
 | .lit x,.lit y => K (.lit (x + y))
 | a,.lit y => match decide (y = 0) with
  | true => K a
  | false => Sum (fun _ => a.val + y) K
 | .lit x,b => match decide (x = 0) with
  | true => K b
  | false => Sum (fun _ => x + b.val) K
 | a,b => Sum (fun _ => a.val + b.val) K
def imul (a : I) (k : Nat) (K : I → Prop) : Prop :=
 match Nat.beq k 1 with
 | true => K a
 | false => match a with
  | .lit x => K (.lit (x * k))
  | .sym x => Sum (fun _ => x * k) K
def pnth : List PV → Nat → Option PV
 | [],_ => none
 | x :: _,0 => some x
 | _ :: l,n + 1 => pnth l n
def psetO : List PV → Nat → PV → Option (List PV)
 | [],_,_ => none
 | _ :: l,0,v => some (v :: l)
 | x :: l,n + 1,v => match psetO l n v with
  | some l' => some (x :: l')
  | none => none
def putP (l : List PV) (n : Nat) : List PV → Option (List PV)
 | [] => some l
 | u :: us => match psetO l n u with
  | some l' => putP l' (n + 1) us
  | none => none
def lnth : List LV → Nat → Option LV
 | [],_ => none
 | x :: _,0 => some x
 | _ :: l,n + 1 => lnth l n
def lsetO : List LV → Nat → LV → Option (List LV)
 | [],_,_ => none
 | _ :: l,0,v => some (v :: l)
 | x :: l,n + 1,v => match lsetO l n v with
  | some l' => some (x :: l')
  | none => none
def putM (l : List LV) (n : Nat) : List LV → Option (List LV)
 | [] => some l
 | u :: us => match lsetO l n u with
  | some l' => putM l' (n + 1) us
  | none => none
def getM (l : List LV) (o : Nat) : Nat → Option (List LV)
 | 0 => some []
 | k + 1 => match lnth l o with
  | some v => match getM l (o + 1) k with
   | some vs => some (v :: vs)
   | none => none
  | none => none
def updL (l : List PV) (o : Nat) : List PV → List PV
 | [] => l
 | u :: us => updL (l.set o u) (o + 1) us
def pvs : List PV → List LV
 | [] => []
 | v :: l => .p v :: pvs l
def allP : List LV → Option (List PV)
 | [] => some []
 | .p v :: l => match allP l with
  | some us => some (v :: us)
  | none => none
 | _ :: _ => none
def okc : LV → Bool
 | .p _ => true
 | .ptr _ _ => true
 | .sl _ _ _ _ _ => true
 | .iface _ _ => true
 | .fn _ _ => true
 | _ => false
def allOk : List LV → Bool
 | [] => true
 | v :: l => match okc v with
  | true => allOk l
  | false => false
def LB.of (l : List LV) : LB :=
 match allP l with
 | some us => .pure false us
 | none => .mix l
def cellsL : LV → List LV
 | .agg l => l
 | v => [v]
def llen : List LV → Nat
 | [] => 0
 | _ :: l => llen l + 1
def cellAt (sy : Bool) (l : List PV) (o : I) (j : Nat) (K : PV → Prop) : Prop :=
 match sy with
 | false => match o with
  | .lit n => match pnth l (n.toNat + j) with
   | some v => K v
   | none => False
  | .sym n => Cell (fun _ => l) (fun _ => n + j) K
 | true => Cell (fun _ => l) (fun _ => o.val + j) K
def getP (sy : Bool) (l : List PV) (o : I) : Nat → Nat → (List LV → Prop) → Prop
 | 0,_,K => K []
 | k + 1,j,K => cellAt sy l o j fun v => getP sy l o k (j + 1) fun vs => K (.p v :: vs)
def TK.agg : TK → Bool
 | .struct _ => true
 | .arr _ _ => true
 | _ => false
def ofCells (k : TK) (l : List LV) (K : LV → Prop) : Prop :=
 match k.agg with
 | true => K (.agg l)
 | false => match l with
  | [v] => K v
  | _ => False
inductive WhichF (e : Unit → Int) (K : Nat → Prop) : Prop
 | mk (j : Nat) (h : e () = (j : Int)) (hk : K j)
def loadB (B : LB) (o : I) (ti : TI) (K : LV → Prop) : Prop :=
 match B with
 | .pure sy l => getP sy l o ti.size 0 fun vs => ofCells ti.kind vs K
 | .mix l => match o with
  | .lit n => match getM l n.toNat ti.size with
   | some vs => ofCells ti.kind vs K
   | none => False
  | .sym n => WhichF (fun _ => n) fun j => match getM l j ti.size with
   | some vs => ofCells ti.kind vs K
   | none => False
 | .iter _ _ => False
 | .fix _ _ => False
 | .set _ => False
 | .kv _ _ => False
 | .frz _ => False
 | .bld _ l => match o with
  | .lit (.ofNat (n + 1)) => match getM l n ti.size with
   | some vs => ofCells ti.kind vs K
   | none => False
  | _ => False
def storeB (B : LB) (o : I) (vs : List LV) (K : LB → Prop) : Prop :=
 match allOk vs with
 | false => False
 | true => match B with
  | .pure sy l => match allP vs with
   | some us => match sy with
    | false => match o with
     | .lit n => match putP l n.toNat us with
      | some l' => K (.pure false l')
      | none => False
     | .sym n => Need (fun _ => n + us.length ≤ l.length) fun _ => Upd (fun _ => updL l n.toNat us) fun l' => K (.pure true l')
    | true => Need (fun _ => o.val + us.length ≤ l.length) fun _ => Upd (fun _ => updL l o.val.toNat us) fun l' => K (.pure true l')
   | none => match sy with
    | false => match o with
     | .lit n => match putM (pvs l) n.toNat vs with
      | some l' => K (.mix l')
      | none => False
     | .sym n => WhichF (fun _ => n) fun j => match putM (pvs l) j vs with
      | some l' => K (.mix l')
      | none => False
    | true => False
  | .mix l => match o with
   | .lit n => match putM l n.toNat vs with
    | some l' => K (.mix l')
    | none => False
   | .sym n => WhichF (fun _ => n) fun j => match putM l j vs with
    | some l' => K (.mix l')
    | none => False
  | .iter _ _ => False
  | .fix _ _ => False
  | .set _ => False
  | .kv _ _ => False
  | .frz _ => False
  | .bld t l => match o with
   | .lit (.ofNat (n + 1)) => match putM l n vs with
    | some l' => K (.bld t l')
    | none => False
   | .lit (.ofNat 0) => match vs with
    | [.p .nilp] => K (.bld t l)
    | _ => False
   | _ => False
def nz (b : I) (K : Unit → Prop) : Prop :=
 match b with
 | .lit y => match decide (y = 0) with
  | true => False
  | false => K ()
 | .sym y => Need (fun _ => y ≠ 0) K
def arQuo (k : IntKind) (a b : I) (K : I → Prop) : Prop :=
 match a,b with
 | .lit x,.lit y => K (.lit (k.wrap (x.tdiv y)))
 | _,_ => Fit k (fun _ => a.val.tdiv b.val) K
def arRem (a b : I) (K : I → Prop) : Prop :=
 match a,b with
 | .lit x,.lit y => K (.lit (x.tmod y))
 | _,_ => Sum (fun _ => a.val.tmod b.val) K
def ar (k : IntKind) (op : BinOp) (a b : I) (K : I → Prop) : Prop :=
 match op with
 | .add => match a,b with
  | .lit x,.lit y => K (.lit (k.wrap (x + y)))
  | _,_ => Fit k (fun _ => a.val + b.val) K
 | .sub => match a,b with
  | .lit x,.lit y => K (.lit (k.wrap (x - y)))
  | _,_ => Fit k (fun _ => a.val - b.val) K
 | .mul => match a,b with
  | .lit x,.lit y => K (.lit (k.wrap (x * y)))
  | _,_ => Fit k (fun _ => a.val * b.val) K
 | .quo => nz b fun _ => arQuo k a b K
 | .rem => nz b fun _ => arRem a b K
 | .and => Sum (fun _ => k.wrap ((BitVec.ofInt k.bits a.val &&& BitVec.ofInt k.bits b.val).toNat : Int)) K
 | _ => False
def cmpI (op : BinOp) (a b : I) (K : Bool → Prop) : Prop :=
 match op with
 | .lss => match a,b with
  | .lit x,.lit y => K (decide (x < y))
  | _,_ => Br (fun _ => a.val < b.val) K
 | .leq => match a,b with
  | .lit x,.lit y => K (decide (x ≤ y))
  | _,_ => Br (fun _ => a.val ≤ b.val) K
 | .gtr => match a,b with
  | .lit x,.lit y => K (decide (y < x))
  | _,_ => Br (fun _ => b.val < a.val) K
 | .geq => match a,b with
  | .lit x,.lit y => K (decide (y ≤ x))
  | _,_ => Br (fun _ => b.val ≤ a.val) K
 | .eql => match a,b with
  | .lit x,.lit y => K (decide (x = y))
  | _,_ => Br (fun _ => a.val = b.val) K
 | .neq => match a,b with
  | .lit x,.lit y => K (decide (x ≠ y))
  | _,_ => Br (fun _ => a.val ≠ b.val) K
 | _ => False
def isAr : BinOp → Bool
 | .add => true
 | .sub => true
 | .mul => true
 | .quo => true
 | .rem => true
 | .and => true
 | _ => false
def tkOf (T : TT) (t : Nat) : TK :=
 match lget T t with
 | some ti => ti.kind
 | none => .other
def cmpOK (P : Program) (t : Nat) : LV → LV → Bool
 | .p (.int k _),.p (.int k' _) => match P.underlying t with
  | some (.int _) => decide (k = k')
  | _ => false
 | .p (.bool _),.p (.bool _) => match P.underlying t with
  | some .bool => true
  | _ => false
 | .p (.str _),.p (.str _) => match P.underlying t with
  | some .string => true
  | _ => false
 | _,_ => false
def itemsN (P : Program) (e : Nat) : Nat → List LV → List LV → Option (List LV × List LV)
 | 0,l,m => some (l,m)
 | n + 1,x :: l,y :: m => match cmpOK P e x y with
  | true => itemsN P e n l m
  | false => none
 | _,_,_ => none
def fieldsOK (P : Program) : Nat → List Field → List LV → List LV → Bool
 | _,[],l,m => l.isEmpty && m.isEmpty
 | j,f :: fs,l,m => f.name != "_" && f.offset == j && match P.underlying f.type with
  | some (.array n e) => match P.info? e,P.info? f.type,itemsN P e n l m with
   | some i,some i2,some (l',m') => i.size == 1 && i2.size == n && fieldsOK P (j + n) fs l' m'
   | _,_,_ => false
  | _ => match l,m with
   | x :: l,y :: m => cmpOK P f.type x y && fieldsOK P (j + 1) fs l m
   | _,_ => false
def itemsOK (P : Program) (e : Nat) : List LV → List LV → Bool
 | [],[] => true
 | x :: l,y :: m => cmpOK P e x y && itemsOK P e l m
 | _,_ => false
def flatOK (P : Program) (t : Nat) (l m : List LV) : Bool :=
 !P.eqGuardType P.depth t && !P.stoodInHeld t && match P.underlying t with
 | some (.struct fs) => fieldsOK P 0 fs.toList l m
 | some (.array n e) => n == l.length && n == m.length && itemsOK P e l m && match P.info? e with
  | some i => i.size == 1
  | none => false
 | _ => false
def eqLs : List LV → List LV → Prop
 | .p (.int _ a) :: l,.p (.int _ b) :: m => a.val = b.val ∧ eqLs l m
 | .p (.bool a) :: l,.p (.bool b) :: m => a = b ∧ eqLs l m
 | .p (.str a) :: l,.p (.str b) :: m => a () = b () ∧ eqLs l m
 | _,_ => True
inductive AggEq (P : Unit → Program) (t : Nat) (l m : List LV) (K : Bool → Prop) : Prop
 | mk (h : flatOK (P ()) t l m = true) (ht : eqLs l m → K true) (hf : ¬ eqLs l m → K false)
def bin (P : Unit → Program) (t : Nat) (k : TK) (s : LS) (op : BinOp) (x y : LV) (K : LV → Prop) : Prop :=
 match x,y with
 | .agg l,.agg m => match op with
  | .eql => AggEq P t l m fun c => K (.p (.bool c))
  | .neq => AggEq P t l m fun c => match c with
   | true => K (.p (.bool false))
   | false => K (.p (.bool true))
  | _ => False
 | .p (.int k a),.p (.int k' b) => match decide (k = k') with
  | true => match isAr op with
   | true => ar k op a b fun z => K (.p (.int k z))
   | false => cmpI op a b fun c => K (.p (.bool c))
  | false => False
 | .p (.str a),.p (.str b) => match op with
  | .add => Need (fun _ => (a ()).size + (b ()).size ≤ 9223372036854775807) fun _ => Str (fun _ => a () ++ b ()) fun z => K (.p (.str z))
  | .eql => Br (fun _ => a () = b ()) fun c => K (.p (.bool c))
  | .neq => Br (fun _ => a () ≠ b ()) fun c => K (.p (.bool c))
  | _ => False
 | .p (.bool a),.p (.bool b) => match k with
  | .bool => match op with
   | .eql => K (.p (.bool (a == b)))
   | .neq => K (.p (.bool (a != b)))
   | _ => False
  | _ => False
 | .ptr b _,.p .nilp => match k with
  | .ptr _ => match hget s.h b with
   | some _ => match op with
    | .eql => K (.p (.bool false))
    | .neq => K (.p (.bool true))
    | _ => False
   | none => False
  | _ => False
 | .p .nilp,.p .nilp => match k with
  | .ptr _ => match op with
   | .eql => K (.p (.bool true))
   | .neq => K (.p (.bool false))
   | _ => False
  | _ => False
 | _,_ => False
def LS.new (s : LS) (B : LB) : LS := { s with h := (s.n,B) :: s.h,n := s.n + 1 }
def place (T : TT) (k : TK) (i : Nat) : Option (Nat × Nat) :=
 match k with
 | .struct fs => match fs[i]? with
  | some (off,t) => match lget T t with
   | some ti => some (off,ti.size)
   | none => none
  | none => none
 | .arr _ e => match lget T e with
  | some ti => some (i * ti.size,ti.size)
  | none => none
 | .slice e => match lget T e with
  | some ti => some (i * ti.size,ti.size)
  | none => none
 | _ => none
def fillL (T : TT) (k : TK) (cells : List LV) : List (Nat × LV) → Option (List LV)
 | [] => some cells
 | (i,v) :: rest => match place T k i with
  | some (off,size) => match Nat.beq (llen (cellsL v)) size,allOk (cellsL v),Nat.ble 1 size with
   | true,true,true => match putM cells off (cellsL v) with
    | some cs => fillL T k cs rest
    | none => none
   | _,_,_ => none
  | none => none
def evs (s : LS) : List (Nat × Operand) → List (Nat × LV)
 | [] => []
 | (i,x) :: l => (i,ev s x) :: evs s l
def eva (s : LS) : List Operand → List LV
 | [] => []
 | x :: l => ev s x :: eva s l
def reps (z : List PV) : Nat → List LV
 | 0 => []
 | n + 1 => pvs z ++ reps z n
def plen : List PV → Nat
 | [] => 0
 | _ :: l => plen l + 1
def pdrop : List PV → Nat → List PV
 | l,0 => l
 | [],_ + 1 => []
 | _ :: l,n + 1 => pdrop l n
def ptake : List PV → Nat → List PV
 | _,0 => []
 | [],_ + 1 => []
 | x :: l,n + 1 => x :: ptake l n
def partC (l : List PV) (o n : I) (sz : Nat) (K : Bool → List PV → I → Prop) : Prop :=
 Need (fun _ => 0 ≤ o.val ∧ 0 ≤ n.val ∧ o.val + n.val * sz ≤ l.length) fun _ => Upd (fun _ => (l.drop o.val.toNat).take (n.val.toNat * sz)) fun l' => K true l' n
def newCells (s : LS) (te : TI) (y : LV) (K : Bool → List PV → I → Prop) : Prop :=
 match y with
 | .p .nils => K false [] (.lit 0)
 | .p (.vsl n sy l) => Need (fun _ => (l.length : Int) = n.val * te.size) fun _ => K sy l n
 | .sl b _ _ o n => match hget s.h b with
  | some (.pure sy l) => match o with
   | .lit j => match decide (j = 0) with
    | true => Room (fun _ => (l.length : Int) = n.val * te.size) (fun _ => 0 ≤ n.val ∧ n.val * te.size ≤ l.length) (fun _ => K sy l n) fun _ => Upd (fun _ => l.take (n.val.toNat * te.size)) fun l' => K true l' n
    | false => partC l o n te.size K
   | _ => partC l o n te.size K
  | _ => False
 | .sla b o n => match hget s.h b with
  | some (.pure false l) => match o,n with
   | .lit (.ofNat j),.lit (.ofNat k) => match Nat.ble (j + k * te.size) (plen l) with
    | true => K false (ptake (pdrop l j) (k * te.size)) n
    | false => False
   | _,_ => False
  | _ => False
 | _ => False
def catL (sa sb : Bool) (a b : List PV) (K : Bool → List PV → Prop) : Prop :=
 match sa,sb with
 | false,false => K false (a ++ b)
 | _,_ => Upd (fun _ => a ++ b) fun l => K true l
def appendC (s : LS) (e : Nat) (te : TI) (sb : Bool) (b : List PV) (m : I) (x : LV) (K : LV → LS → Prop) : Prop :=
 match x with
 | .p .nils => Need (fun _ => m.val * te.bytes ≤ 140737488355328 ∧ m.val ≤ 9223372036854775807) fun _ => K (.sl s.n e te.size (.lit 0) m) (s.new (.pure sb b))
 | .sl i e' sz (.lit j) n => match hget s.h i with
  | some (.pure sa a) => match decide (j = 0),Nat.beq sz te.size,Nat.beq e' e with
   | true,true,true => Room (fun _ => (a.length : Int) = n.val * te.size ∧ (n.val + m.val) * te.bytes ≤ 140737488355328 ∧ n.val + m.val ≤ 9223372036854775807) (fun _ => (n.val + m.val) * te.size ≤ a.length)
     (fun _ => catL sa sb a b fun sc l => iadd n m fun k => K (.sl s.n e te.size (.lit 0) k) { s with h := (s.n,.pure sc l) :: hdel s.h i,n := s.n + 1 })
     (fun _ => Upd (fun _ => updL a (n.val.toNat * te.size) b) fun l => iadd n m fun k => K (.sl i e te.size (.lit 0) k) { s with h := hset s.h i (.pure true l) })
   | _,_,_ => False
  | _ => False
 | _ => False
def offO (x : LV) : Bool :=
 match x with
 | .sl _ _ _ o _ => match o with
  | .lit j => match decide (j = 0) with
   | true => false
   | false => true
  | .sym _ => true
 | _ => false
def appendO (s : LS) (e : Nat) (te : TI) (b : List PV) (m : I) (x : LV) (K : LV → LS → Prop) : Prop :=
 match x with
 | .sl i e' sz o n => match hget s.h i with
  | some (.pure _ a) => match Nat.beq sz te.size,Nat.beq e' e with
   | true,true => Need (fun _ => 0 ≤ o.val ∧ 0 ≤ n.val ∧ (a.length : Int) = o.val + n.val * te.size ∧ (n.val + m.val) * te.bytes ≤ 140737488355328 ∧ n.val + m.val ≤ 9223372036854775807) fun _ =>
     (Upd (fun _ => a ++ b) fun l => iadd n m fun k => K (.sl i e te.size o k) { s with h := hset s.h i (.pure true l) }) ∧
     (Upd (fun _ => a.drop o.val.toNat ++ b) fun l => iadd n m fun k => K (.sl s.n e te.size (.lit 0) k) { s with h := (s.n,.pure true l) :: s.h,n := s.n + 1 })
   | _,_ => False
  | _ => False
 | _ => False
def appendL (s : LS) (e : Nat) (te : TI) (x y : LV) (K : LV → LS → Prop) : Prop :=
 match allOk (pvs te.zero),Nat.beq (llen (pvs te.zero)) te.size,Nat.ble 1 te.size with
 | true,true,true => newCells s te y fun sb b m => match offO x with
  | true => appendO s e te b m x K
  | false => appendC s e te sb b m x K
 | _,_,_ => False
def bytesPV (s : ByteArray) : List PV := s.data.toList.map fun b => .int .u8 (.sym b.toNat)
def isU8 (te : TI) : Bool :=
 match te.kind with
 | .int k => match k with
  | .u8 => match Nat.beq te.size 1,te.zero with
   | true,[.int _ _] => true
   | _,_ => false
  | _ => false
 | _ => false
def appendS (s : LS) (e : Nat) (te : TI) (x y : LV) (K : LV → LS → Prop) : Prop :=
 match isU8 te with
 | true => match y with
  | .p (.str z) => Need (fun _ => ((z ()).size : Int) ≤ 140737488355328) fun _ => Upd (fun _ => bytesPV (z ())) fun b => Sum (fun _ => (z ()).size) fun m => appendC s e te true b m x K
  | _ => False
 | false => False
def lenB : LB → Nat
 | .pure _ l => l.length
 | .mix l => l.length
 | .iter _ _ => 0
 | .fix _ _ => 0
 | .bld _ _ => 0
 | .set _ => 0
 | .kv _ _ => 0
 | .frz _ => 0
def repsP (z : List PV) : Nat → List PV
 | 0 => []
 | n + 1 => z ++ repsP z n
def madeL (z : List PV) (m : I) (K : Bool → List PV → Prop) : Prop :=
 match m with
 | .lit c => match decide (c ≤ 64) with
  | true => K false (repsP z c.toNat)
  | false => Upd (fun _ => repsP z c.toNat) fun l => K true l
 | .sym c => Upd (fun _ => repsP z c.toNat) fun l => K true l
def copyL (s : LS) (te : TI) (x y : LV) (K : I → LS → Prop) : Prop :=
 match x with
 | .sla b o (.lit (.ofNat (k + 1))) => match hget s.h b,Nat.ble 1 te.size with
  | some B,true => match y with
   | .p (.vsl n sy l) => Need (fun _ => ((k + 1 : Nat) : Int) ≤ n.val) fun _ => getP sy l (.lit 0) ((k + 1) * te.size) 0 fun vs => storeB B o vs fun B' => K (.lit (.ofNat (k + 1))) { s with h := hset s.h b B' }
   | .sl b2 _ _ o2 n => match hget s.h b2 with
    | some (.pure sy l) => Need (fun _ => ((k + 1 : Nat) : Int) ≤ n.val) fun _ => getP sy l o2 ((k + 1) * te.size) 0 fun vs => storeB B o vs fun B' => K (.lit (.ofNat (k + 1))) { s with h := hset s.h b B' }
    | _ => False
   | _ => False
  | _,_ => False
 | _ => False
def isI64 (ti : TI) : Bool :=
 match ti.kind with
 | .int k => match k with
  | .i64 => true
  | _ => false
 | _ => false
inductive UpdI (l : Unit → List Int) (K : List Int → Prop) : Prop
 | mk (hk : ∀ l',l' = l () → K l')
def lookL (T : TT) (s : LS) (k e : Nat) (x i : LV) (K : LV → Prop) : Prop :=
 match lget T k,lget T e with
 | some tk,some te => match isI64 tk,te.zero,te.kind.agg with
  | true,[],true => match x,i with
   | .mp b,.p (.int .i64 n) => match hget s.h b with
    | some (.set l) => Br (fun _ => n.val ∈ l) fun c => K (.tup [.agg [],.p (.bool c)])
    | _ => False
   | _,_ => False
  | _,_,_ => False
 | _,_ => False
def kvGet : List Int → List Int → Int → Option Int
 | a :: l,v :: m,n => match decide (n = a) with
  | true => some v
  | false => kvGet l m n
 | _,_,_ => none
inductive KvAt (l v : List Int) (n : Int) (K : LV → Prop) : Prop
 | mk (x : Int) (h : kvGet l v n = some x) (hk : K (.p (.int .i64 (.sym x))))
def emptyM (T : TT) (e : Nat) : LB :=
 match lget T e with
 | some te => match isI64 te with
  | true => .kv [] []
  | false => .set []
 | none => .set []
def lookV (T : TT) (s : LS) (k e : Nat) (x i : LV) (K : LV → Prop) : Prop :=
 match lget T k,lget T e with
 | some tk,some te => match isI64 tk,isI64 te with
  | true,true => match x,i with
   | .mp b,.p (.int .i64 n) => match hget s.h b with
    | some (.kv l v) => KvAt l v n.val K
    | _ => False
   | _,_ => False
  | _,_ => False
 | _,_ => False
def intoV (s : LS) (x i v : LV) (K : LS → Prop) : Prop :=
 match x,i,v with
 | .mp b,.p (.int .i64 n),.p (.int .i64 y) => match hget s.h b with
  | some (.kv l m) => Need (fun _ => ¬ n.val ∈ l) fun _ => K { s with h := hset s.h b (.kv (l ++ [n.val]) (m ++ [y.val])) }
  | _ => False
 | _,_,_ => False
def intoL (T : TT) (s : LS) (k : Nat) (x i v : LV) (K : LS → Prop) : Prop :=
 match lget T k with
 | some tk => match isI64 tk,v with
  | true,.agg [] => match x,i with
   | .mp b,.p (.int .i64 n) => match hget s.h b with
    | some (.set l) => Need (fun _ => ¬ n.val ∈ l) fun _ => UpdI (fun _ => l ++ [n.val]) fun l' => K { s with h := hset s.h b (.set l') }
    | _ => False
   | _,_ => False
  | true,.p (.int .i64 y) => intoV s x i (.p (.int .i64 y)) K
  | _,_ => False
 | none => False
def clearL (s : LS) (te : TI) (x : LV) (K : LS → Prop) : Prop :=
 match Nat.beq (llen (pvs te.zero)) te.size,Nat.ble 1 te.size with
 | true,true => match x with
  | .p .nils => K s
  | .p (.vsl n _ _) => Need (fun _ => n.val = 0) fun _ => K s
  | .sl b _ sz o n => match Nat.beq sz te.size,hget s.h b with
   | true,some (.pure _ l) => Need (fun _ => 0 ≤ o.val ∧ 0 ≤ n.val ∧ o.val + n.val * te.size ≤ l.length) fun _ => Upd (fun _ => updL l o.val.toNat (repsP te.zero n.val.toNat)) fun l' => K { s with h := hset s.h b (.pure true l') }
   | _,_ => False
  | _ => False
 | _,_ => False
def toStr (T : TT) (s : LS) (ts : TI) (x : LV) (K : (Unit → ByteArray) → Prop) : Prop :=
 match ts.kind with
 | .slice e => match lget T e with
  | some te => match te.kind with
   | .int k => match decide (k = .u8) with
    | true => match x with
     | .p .nils => K fun _ => ⟨#[]⟩
     | .p (.vsl n _ l) => Need (fun _ => n.val ≤ l.length) fun _ => Bytes (fun _ => l.take n.val.toNat) K
     | .sl b _ _ o n => match hget s.h b with
      | some (.pure _ l) => match o with
       | .lit j => match decide (j = 0) with
        | true => Need (fun _ => n.val ≤ l.length) fun _ => Bytes (fun _ => l.take n.val.toNat) K
        | false => False
       | _ => False
      | _ => False
     | _ => False
    | false => False
   | _ => False
  | none => False
 | _ => False
def sliceL (s : LS) (te : TI) (x : LV) (from_ : Bool) (lo : LV) (hi : Option LV) (K : LV → Prop) : Prop :=
 match lo with
 | .p (.int _ lo) => match x with
  | .p (.vsl n _ l) => match hi with
   | some (.p (.int _ hi)) => Need (fun _ => 0 ≤ lo.val ∧ lo.val ≤ hi.val ∧ hi.val ≤ n.val) fun _ => Upd (fun _ => (l.drop (lo.val.toNat * te.size)).take ((hi.val - lo.val).toNat * te.size)) fun l' => Sum (fun _ => hi.val - lo.val) fun z => K (.p (.vsl z true l'))
   | some _ => False
   | none => Need (fun _ => 0 ≤ lo.val ∧ lo.val ≤ n.val) fun _ => Upd (fun _ => l.drop (lo.val.toNat * te.size)) fun l' => Sum (fun _ => n.val - lo.val) fun z => K (.p (.vsl z true l'))
  | .sl b e sz o n => match hget s.h b,from_ with
   | some B,false => match hi with
    | some (.p (.int _ hi)) => Need (fun _ => 0 ≤ hi.val ∧ (hi.val ≤ n.val ∨ (1 ≤ sz ∧ o.val + hi.val * sz ≤ lenB B))) fun _ => K (.sl b e sz o hi)
    | _ => False
   | some _,true => match Nat.beq sz te.size with
    | true => match hi with
     | some (.p (.int _ hi)) => Room (fun _ => 0 ≤ lo.val ∧ lo.val < hi.val ∧ hi.val ≤ n.val) (fun _ => 0 ≤ lo.val ∧ lo.val = hi.val ∧ hi.val ≤ n.val) (fun _ => imul lo te.size fun z => iadd o z fun o' => Sum (fun _ => hi.val - lo.val) fun k => K (.sl b e sz o' k)) fun _ => K (.p (.vsl (.lit 0) false []))
     | some _ => False
     | none => Room (fun _ => 0 ≤ lo.val ∧ lo.val ≤ n.val) (fun _ => 0 ≤ lo.val ∧ lo.val = n.val) (fun _ => imul lo te.size fun z => iadd o z fun o' => Sum (fun _ => n.val - lo.val) fun k => K (.sl b e sz o' k)) fun _ => K (.p (.vsl (.lit 0) false []))
    | false => False
   | _,_ => False
  | _ => False
 | _ => False
def arrL (T : TT) (s : LS) (ar : Nat) (x : LV) (lo hi : Bool) (K : LV → Prop) : Prop :=
 match lo,hi,tkOf T ar with
 | false,false,.arr n _ => match Nat.ble n 10000 with
  | true => match x with
   | .ptr b o => match hget s.h b with
    | some _ => K (.sla b o (.lit (.ofNat n)))
    | none => False
   | _ => False
  | false => False
 | _,_,_ => False
def selfed (T : TT) (t : Nat) (k : TK) : Bool :=
 match k with
 | .struct [(_,p),(_,q)] => match lget T p,lget T q with
  | some tp,some tq => match tp.kind,tq.kind with
   | .ptr e,.slice _ => Nat.beq e t
   | _,_ => false
  | _,_ => false
 | _ => false
def lop (P : Unit → Program) (T : Unit → TT) (o : Oper) (s : LS) (K : LS → Prop) : Prop :=
 match o.op with
 | .move x => K (s.put o.dst (ev s x))
 | .assign x => K (s.put o.dst (ev s x))
 | .pick c a b => match ev s c with
  | .p (.bool c) => match c with
   | true => K (s.put o.dst (ev s a))
   | false => K (s.put o.dst (ev s b))
  | _ => False
 | .binOp op t x y _ => bin P t (tkOf (T ()) t) s op (ev s x) (ev s y) fun v => K (s.put o.dst v)
 | .unOp op _ x => match op with
  | .not => match ev s x with
   | .p (.bool b) => match b with
    | true => K (s.put o.dst (.p (.bool false)))
    | false => K (s.put o.dst (.p (.bool true)))
   | _ => False
  | .neg => match ev s x with
   | .p (.int k a) => ar k .sub (.lit 0) a fun z => K (s.put o.dst (.p (.int k z)))
   | _ => False
  | _ => False
 | .nilCheck x => match ev s x with
  | .ptr b o' => match hget s.h b with
   | some _ => K (s.put o.dst (.ptr b o'))
   | none => False
  | .p (.vp sy l o') => K (s.put o.dst (.p (.vp sy l o')))
  | _ => False
 | .alloc t => match lget (T ()) t with
  | some ti => match selfed (T ()) t ti.kind with
   | true => match ti.zero with
    | .nilp :: l => K ((s.new (.bld t (pvs l))).put o.dst (.ptr s.n (.lit 0)))
    | _ => False
   | false => K ((s.new (.pure false ti.zero)).put o.dst (.ptr s.n (.lit 0)))
  | none => False
 | .box _ x => match allOk (cellsL (ev s x)) with
  | true => K ((s.new (LB.of (cellsL (ev s x)))).put o.dst (.ptr s.n (.lit 0)))
  | false => False
 | .build t parts => match lget (T ()) t with
  | some ti => match ti.kind.agg with
   | true => match fillL (T ()) ti.kind (pvs ti.zero) (evs s parts.toList) with
    | some cs => K (s.put o.dst (.agg cs))
    | none => False
   | false => False
  | none => False
 | .buildSlice t len parts => match lget (T ()) t with
  | some ti => match ti.kind with
   | .slice e => match lget (T ()) e with
    | some te => match Nat.ble (len * te.size) 10000,Nat.beq (llen (pvs te.zero)) te.size,Nat.ble 1 te.size with
     | true,true,true => match fillL (T ()) ti.kind (reps te.zero len) (evs s parts.toList) with
      | some cs => K ((s.new (LB.of cs)).put o.dst (.sl s.n e te.size (.lit 0) (.lit len)))
      | none => False
     | _,_,_ => False
    | none => False
   | _ => False
  | none => False
 | .load t x => match lget (T ()) t with
  | some ti => match ev s x with
   | .ptr b o' => match hget s.h b with
    | some B => loadB B o' ti fun v => K (s.put o.dst v)
    | none => False
   | .p (.vp sy l o') => getP sy l o' ti.size 0 fun vs => ofCells ti.kind vs fun v => K (s.put o.dst v)
   | _ => False
  | none => False
 | .store t x v => match lget (T ()) t with
  | some ti => match ev s x with
   | .ptr b o' => match Nat.beq (llen (cellsL (ev s v))) ti.size,Nat.ble 1 ti.size with
    | true,true => match hget s.h b with
     | some B => storeB B o' (cellsL (ev s v)) fun B' => K ({ s with h := hset s.h b B' }.put o.dst .nul)
     | none => False
    | true,false => match hget s.h b with
     | some (.pure _ _) => K (s.put o.dst .nul)
     | _ => False
    | _,_ => False
   | _ => False
  | none => False
 | .fieldAddr t x f => match lget (T ()) t with
  | some ti => match ti.kind with
   | .struct fs => match fs[f]? with
    | some (off,ft) => match lget (T ()) ft with
     | some tf => match Nat.ble 1 tf.size with
      | true => match ev s x with
       | .ptr b o' => match hget s.h b with
        | some _ => iadd o' (.lit off) fun z => K (s.put o.dst (.ptr b z))
        | none => False
       | .p (.vp sy l o') => iadd o' (.lit off) fun z => K (s.put o.dst (.p (.vp sy l z)))
       | _ => False
      | false => False
     | none => False
    | none => False
   | _ => False
  | none => False
 | .field t x f => match lget (T ()) t with
  | some ti => match ti.kind with
   | .struct fs => match fs[f]? with
    | some (off,ft) => match lget (T ()) ft with
     | some tf => match ev s x with
      | .agg l => match getM l off tf.size with
       | some vs => ofCells tf.kind vs fun v => K (s.put o.dst v)
       | none => False
      | _ => False
     | none => False
    | none => False
   | _ => False
  | none => False
 | .indexAddr t x i => match lget (T ()) t with
  | some ti => match ev s i with
   | .p (.int _ i) => match ti.kind with
    | .slice e => match lget (T ()) e with
     | some te => match ev s x with
      | .p (.vsl n sy l) => Need (fun _ => 0 ≤ i.val ∧ i.val < n.val) fun _ => imul i te.size fun z => K (s.put o.dst (.p (.vp sy l z)))
      | .sl b _ _ o' n => match hget s.h b with
       | some _ => Need (fun _ => 0 ≤ i.val ∧ i.val < n.val) fun _ => imul i te.size fun z => iadd o' z fun y => K (s.put o.dst (.ptr b y))
       | none => False
      | _ => False
     | none => False
    | .arr n e => match lget (T ()) e with
     | some te => match ev s x with
      | .ptr b o' => match hget s.h b with
       | some _ => Need (fun _ => 0 ≤ i.val ∧ i.val < n) fun _ => imul i te.size fun z => iadd o' z fun y => K (s.put o.dst (.ptr b y))
       | none => False
      | _ => False
     | none => False
    | _ => False
   | _ => False
  | none => False
 | .index t x i => match lget (T ()) t with
  | some ti => match ti.kind with
   | .str => match ev s x,ev s i with
    | .p (.str z),.p (.int _ i) => Need (fun _ => 0 ≤ i.val ∧ i.val < (z ()).size) fun _ => Sum (fun _ => ((z ()).get! i.val.toNat).toNat) fun y => K (s.put o.dst (.p (.int .u8 y)))
    | _,_ => False
   | _ => False
  | none => False
 | .slice t x lo hi none => match lget (T ()) t with
  | some ti => match ti.kind with
   | .str => match ev s x with
    | .p (.str z) => match (lo.map (ev s)).getD (.p (.int .i64 (.lit 0))) with
     | .p (.int _ lo) => match hi.map (ev s) with
      | none => Need (fun _ => 0 ≤ lo.val ∧ lo.val ≤ (z ()).size) fun _ => Str (fun _ => (z ()).extract lo.val.toNat (z ()).size) fun y => K (s.put o.dst (.p (.str y)))
      | some (.p (.int _ hi)) => Need (fun _ => 0 ≤ lo.val ∧ lo.val ≤ hi.val ∧ hi.val ≤ (z ()).size) fun _ => Str (fun _ => (z ()).extract lo.val.toNat hi.val.toNat) fun y => K (s.put o.dst (.p (.str y)))
      | _ => False
     | _ => False
    | _ => False
   | .slice e => match lget (T ()) e with
    | some te => sliceL s te (ev s x) (lo.isSome) ((lo.map (ev s)).getD (.p (.int .i64 (.lit 0)))) (hi.map (ev s)) fun v => K (s.put o.dst v)
    | none => False
   | .ptr ar => arrL (T ()) s ar (ev s x) (lo.isSome) (hi.isSome) fun v => K (s.put o.dst v)
   | .arr _ _ => arrL (T ()) s t (ev s x) (lo.isSome) (hi.isSome) fun v => K (s.put o.dst v)
   | _ => False
  | none => False
 | .convert src dst x => match lget (T ()) src,lget (T ()) dst with
  | some ts,some ti => match ti.kind with
   | .int k => match ev s x with
    | .p (.int _ a) => match a with
     | .lit n => K (s.put o.dst (.p (.int k (.lit (k.wrap n)))))
     | .sym n => Fit k (fun _ => n) fun z => K (s.put o.dst (.p (.int k z)))
    | _ => False
   | .str => match ev s x with
    | .p (.int _ a) => Str (fun _ => Utf8.encode a.val) fun z => K (s.put o.dst (.p (.str z)))
    | .p (.str z) => K (s.put o.dst (.p (.str z)))
    | y => toStr (T ()) s ts y fun z => K (s.put o.dst (.p (.str z)))
   | _ => False
  | _,_ => False
 | .makeSlice t len cap => match lget (T ()) t with
  | some ti => match ti.kind with
   | .slice e => match lget (T ()) e with
    | some te => match Nat.beq (llen (pvs te.zero)) te.size,Nat.ble 1 te.size with
     | true,true => match ev s len,ev s cap with
      | .p (.int _ n),.p (.int _ m) => Need (fun _ => 0 ≤ n.val ∧ n.val ≤ m.val ∧ m.val * te.bytes ≤ 140737488355328 ∧ m.val ≤ 9223372036854775807) fun _ => madeL te.zero m fun sy l => K ((s.new (.pure sy l)).put o.dst (.sl s.n e te.size (.lit 0) n))
      | _,_ => False
     | _,_ => False
    | none => False
   | _ => False
  | none => False
 | .makeMap t r => match r,tkOf (T ()) t with
  | none,.map _ e => K ((s.new (emptyM (T ()) e)).put o.dst (.mp s.n))
  | _,_ => False
 | .lookup t x i ok => match ok,tkOf (T ()) t with
  | true,.map k e => lookL (T ()) s k e (ev s x) (ev s i) fun v => K (s.put o.dst v)
  | false,.map k e => lookV (T ()) s k e (ev s x) (ev s i) fun v => K (s.put o.dst v)
  | _,_ => False
 | .mapUpdate t x i v => match tkOf (T ()) t with
  | .map k _ => intoL (T ()) s k (ev s x) (ev s i) (ev s v) fun s' => K (s'.put o.dst .nul)
  | _ => False
 | .makeInterface t x => match lget (T ()) t with
  | some ti => match ti.kind with
   | .iface => False
   | _ => K (s.put o.dst (.iface t (ev s x)))
  | none => False
 | .typeAssert x _ t ok => match ok with
  | true => match lget (T ()) t with
   | some ti => match ti.kind with
    | .iface => False
    | _ => match ev s x with
     | .iface u v => match Nat.beq u t with
      | true => K (s.put o.dst (.tup [v,.p (.bool true)]))
      | false => ofCells ti.kind (pvs ti.zero) fun z => K (s.put o.dst (.tup [z,.p (.bool false)]))
     | .p .nilif => ofCells ti.kind (pvs ti.zero) fun z => K (s.put o.dst (.tup [z,.p (.bool false)]))
     | _ => False
   | none => False
  | false => False
 | .extract x i => match ev s x with
  | .tup l => match lnth l i with
   | some v => K (s.put o.dst v)
   | none => False
  | _ => False
 | .range t x => match lget (T ()) t with
  | some ti => match ti.kind,ev s x with
   | .str,.p (.str z) => K ((s.new (.iter z (.lit 0))).put o.dst (.ptr s.n (.lit 0)))
   | _,_ => False
  | none => False
 | .next x isS => match isS with
  | true => match ev s x with
   | .ptr b (.lit m) => match hget s.h b with
    | some (.iter z pos) => match decide (m = 0) with
     | true => NextS z (fun _ => pos.val) fun r => match r with
      | none => K (s.put o.dst (.tup [.p (.bool false)]))
      | some (c,p) => K ({ s with h := hset s.h b (.iter z p) }.put o.dst (.tup [.p (.bool true),.p (.int .i64 pos),.p (.int .i32 c)]))
     | false => False
    | _ => False
   | _ => False
  | false => False
 | .makeFunc fn first cap => match fn,first.toList with
  | .func f,[] => K (s.put o.dst (.fn f (eva s cap.toList)))
  | _,_ => False
 | .call c => match c.callee with
  | .value f => match ev s f with
   | .p (.fn g) => CallF P g (eva s c.args.toList) s.h s.n fun r h n => K ({ s with h := h,n := n }.put o.dst r)
   | .fn g cap => CallF P g (eva s c.args.toList ++ cap) s.h s.n fun r h n => K ({ s with h := h,n := n }.put o.dst r)
   | _ => False
  | .builtin b => match b,eva s c.args.toList with
   | .len,[x] => match c.argTypes.toList[0]? with
    | some t => match lget (T ()) t with
     | some ti => match ti.kind,x with
      | .slice _,.p (.vsl n _ _) => K (s.put o.dst (.p (.int .i64 n)))
      | .slice _,.p .nils => K (s.put o.dst (.p (.int .i64 (.lit 0))))
      | .str,.p (.str z) => Sum (fun _ => (z ()).size) fun y => K (s.put o.dst (.p (.int .i64 y)))
      | .slice _,.sl b _ _ _ n => match hget s.h b with
       | some _ => K (s.put o.dst (.p (.int .i64 n)))
       | none => False
      | _,_ => False
     | none => False
    | none => False
   | .append,[x,y] => match c.argTypes.toList with
    | [t,u] => match lget (T ()) t,Nat.beq t u with
     | some ti,true => match ti.kind with
      | .slice e => match lget (T ()) e with
       | some te => appendL s e te x y fun r s' => K (s'.put o.dst r)
       | none => False
      | _ => False
     | some ti,false => match ti.kind,tkOf (T ()) u with
      | .slice e,.str => match lget (T ()) e with
       | some te => appendS s e te x y fun r s' => K (s'.put o.dst r)
       | none => False
      | _,_ => False
     | _,_ => False
    | _ => False
   | .cap,[x] => match c.argTypes.toList[0]? with
    | some t => match lget (T ()) t with
     | some ti => match ti.kind,x with
      | .slice _,.sl b _ sz o' _ => match hget s.h b with
       | some B => match o' with
        | .lit j => match decide (j = 0) with
         | true => Cap (fun _ => lenB B) sz fun z => K (s.put o.dst (.p (.int .i64 z)))
         | false => False
        | _ => False
       | none => False
      | _,_ => False
     | none => False
    | none => False
   | .min,[.p (.int k a),.p (.int _ b)] => Br (fun _ => b.val < a.val) fun c => match c with
    | true => K (s.put o.dst (.p (.int k b)))
    | false => K (s.put o.dst (.p (.int k a)))
   | .max,[.p (.int k a),.p (.int _ b)] => Br (fun _ => a.val < b.val) fun c => match c with
    | true => K (s.put o.dst (.p (.int k b)))
    | false => K (s.put o.dst (.p (.int k a)))
   | .copy,[x,y] => match c.argTypes.toList[0]? with
    | some t => match lget (T ()) t with
     | some ti => match ti.kind with
      | .slice e => match lget (T ()) e with
       | some te => copyL s te x y fun z s' => K (s'.put o.dst (.p (.int .i64 z)))
       | none => False
      | _ => False
     | none => False
    | none => False
   | .clear,[x] => match c.argTypes.toList[0]? with
    | some t => match lget (T ()) t with
     | some ti => match ti.kind with
      | .slice e => match lget (T ()) e with
       | some te => clearL s te x fun s' => K (s'.put o.dst (.tup []))
       | none => False
      | _ => False
     | none => False
    | none => False
   | _,_ => False
  | .invoke x name => InvF P (ev s x) name (eva s c.args.toList) s.h s.n fun r h n => K ({ s with h := h,n := n }.put o.dst r)
 | _ => False
def onth : List Oper → Nat → Option Oper
 | [],_ => none
 | x :: _,0 => some x
 | _ :: l,n + 1 => onth l n
def yes (s : LS) (ops : List Oper) : Option (Nat × Bool) → Option Bool
 | none => some true
 | some (j,want) => match onth ops j with
  | some o => match o.dst with
   | some d => match tget s.t d with
    | .p (.bool c) => match want with
     | true => some c
     | false => some (!c)
    | .nul => some false
    | _ => none
   | none => some false
  | none => some false
def lops (P : Unit → Program) (T : Unit → TT) (all : List Oper) : List Oper → LS → (LS → Prop) → Prop
 | [],s,K => K s
 | o :: rest,s,K =>
  match yes s all o.guard with
  | some c => match c with
   | true => lop P T o s fun s' => lops P T all rest s' K
   | false => lops P T all rest (s.put o.dst .nul) K
  | none => False
inductive Re (n0 : Nat) (s s' : LS) : Prop
 | mk (h : ∀ c0 w0 c a w,c0.N = n0 → Ext c0 w0 c w → St c s a w → ∃ c',Ext c0 w0 c' w ∧ St c' s' a w)
inductive Again (V : Nat → LS → Prop) (n0 k : Nat) (s' : LS) : Prop
 | mk (k' : Nat) (s'' : LS) (hm : k' < k) (hr : Re n0 s' s'') (hv : V k' s'')
def LoopK (V : Nat → LS → Prop) (n0 : Nat) (K : Exit → LS → Prop) (k : Nat) : Exit → LS → Prop
 | .normal,s' => Again V n0 k s'
 | .exit j,s' => K (.exit j) s'
 | .ret,s' => K .ret s'
 | .goto j,s' => K (.goto j) s'
 | .panic c,s' => K (.panic c) s'
 | .outgrown,s' => K .outgrown s'
def unK (F : LS → Prop) (K : Exit → LS → Prop) : Exit → LS → Prop
 | .normal,s' => F s'
 | .exit j,s' => K (.exit j) s'
 | .ret,s' => K .ret s'
 | .goto j,s' => K (.goto j) s'
 | .panic c,s' => K (.panic c) s'
 | .outgrown,s' => K .outgrown s'
def unr (B : Unit → LS → (Exit → LS → Prop) → Prop) (K : Exit → LS → Prop) : Nat → LS → Prop
 | 0,_ => False
 | n + 1,s => B () s (unK (unr B K n) K)
inductive LoopF (n0 : Nat) (B : Unit → LS → (Exit → LS → Prop) → Prop) (s : LS) (K : Exit → LS → Prop) : Prop
 | mk (V : Nat → LS → Prop) (k0 : Nat) (s0 : LS) (h0 : Re n0 s s0) (hv : V k0 s0) (hr : ∀ k s,V k s → B () s (LoopK V n0 K k))
 | rounds (n : Nat) (h : unr B K n s)
inductive DrawF (P : Unit → Program) (ops : Unit → Array Oper) (s : LS) (K : LS → Prop) : Prop
 | mk (h : ∀ c a w t Q,St c s a w → (∀ a' w',(∃ c' s',K s' ∧ St c' s' a' w' ∧ Ext c w c' w') → Q Exit.normal a' w') → wpOps (P ()) (ops ()) Q (Region.schedule ((P ()).follows .mixedOrders) (ops ()) t) a w)
def lcode (P : Unit → Program) (T : Unit → TT) (n0 : Nat) : Code → LS → (Exit → LS → Prop) → Prop
 | .skip,s,K => K .normal s
 | .label _,s,K => K .normal s
 | .region _ ops d,s,K => match d with
  | false => lops P T ops.toList ops.toList s fun s' => K .normal s'
  | true => DrawF P (fun _ => ops) s fun s' => K .normal s'
 | .seq a b,s,K => lcode P T n0 a s fun e s' => match e with
  | .normal => lcode P T n0 b s' K
  | .exit j => K (.exit j) s'
  | .ret => K .ret s'
  | .goto _ => False
  | .panic _ => False
  | .outgrown => False
 | .cond c a b,s,K => match ev s c with
  | .p (.bool c) => match c with
   | true => lcode P T n0 a s K
   | false => lcode P T n0 b s K
  | _ => False
 | .block id c,s,K => lcode P T n0 c s fun e s' => match e with
  | .exit j => match Nat.beq j id with
   | true => K .normal s'
   | false => K (.exit j) s'
  | .normal => K .normal s'
  | .ret => K .ret s'
  | .goto _ => False
  | .panic _ => False
  | .outgrown => False
 | .loop c,s,K => LoopF n0 (fun _ s K => lcode P T n0 c s K) s K
 | .exit id,s,K => K (.exit id) s
 | .ret,s,K => K .ret s
 | _,_,_ => False
def one : List LV → LV
 | [v] => v
 | l => .tup l
inductive RetF (n0 : Nat) (rs : List LV) (h : LH) (n : Nat) (K : LV → LH → Nat → Prop) : Prop
 | mk (rs' : List LV) (h' : LH) (n' : Nat) (hr : Re n0 ⟨rs,h,n⟩ ⟨rs',h',n'⟩) (hl : rs'.length = rs.length) (hk : K (one rs') h' n')
def lres (T : Unit → TT) (s : LS) : List ResultVar → (List LV → Prop) → Prop
 | [],K => K []
 | .tmp t :: l,K => lres T s l fun vs => K (tget s.t t :: vs)
 | .cell a t :: l,K => match tget s.t a with
  | .ptr b o => match hget s.h b,lget (T ()) t with
   | some B,some ti => loadB B o ti fun v => lres T s l fun vs => K (v :: vs)
   | _,_ => False
  | _ => False
def undefs : Nat → List LV
 | 0 => []
 | n + 1 => .undef :: undefs n
def lbody (P : Unit → Program) (T : Unit → TT) (cd : Code) (rs : List ResultVar) (nt : Nat) (args : List LV) (h : LH) (n : Nat) (K : LV → LH → Nat → Prop) : Prop :=
 lcode P T n cd ⟨args ++ undefs (nt - llen args),h,n⟩ fun e s' => match e with
  | .normal => lres T s' rs fun vs => RetF n vs s'.h s'.n K
  | .ret => lres T s' rs fun vs => RetF n vs s'.h s'.n K
  | .exit _ => False
  | .goto _ => False
  | .panic _ => False
  | .outgrown => False
end Go.LX
namespace Go.LX
open Go
set_option linter.unusedVariables false
set_option maxHeartbeats 32000000
theorem Ext.refl {c : Ctx} {w : World} {h : LH} (hr : HR c w h) : Ext c w c w :=
 ⟨rfl,rfl,rfl,Nat.le_refl _,rfl,Nat.le_refl _,fun _ _ => .inl rfl,fun b r hb h => (by rw [hr.fresh b hb] at h; cases h),fun _ _ _ => rfl,fun _ _ _ _ => rfl⟩
theorem Ext.trans {c c' c'' : Ctx} {w w' w'' : World} (h : Ext c w c' w') (k : Ext c' w' c'' w'') : Ext c w c'' w'' := by
 refine ⟨k.os.trans h.os,k.tape.trans h.tape,k.output.trans h.output,Nat.le_trans h.size k.size,k.X.trans h.X,Nat.le_trans h.N k.N,fun b hb => ?_,fun b r hb hm => ?_,fun r hr ho => ?_,fun b r hb hm => ?_⟩
 ·rcases k.old b (Nat.lt_of_lt_of_le hb h.N) with e | e
  ·rw [e]; exact h.old b hb
  ·exact .inr e
 ·rcases Nat.lt_or_ge b c'.N with hb' | hb'
  ·rcases k.old b hb' with e | e
   ·exact h.new b r hb (e ▸ hm)
   ·rw [e] at hm; cases hm
  ·rcases k.new b r hb' hm with g | ⟨d,hd⟩
   ·exact .inl (Nat.le_trans h.size g)
   ·rcases Nat.lt_or_ge d c.N with hd' | hd'
    ·rcases h.old d hd' with e | e
     ·exact .inr ⟨d,e ▸ hd⟩
     ·rw [e] at hd; cases hd
    ·exact h.new d r hd' hd
 ·rw [k.same r (Nat.lt_of_lt_of_le hr h.size) ?_,h.same r hr ho]
  rintro ⟨b,hb⟩
  rcases Nat.lt_or_ge b c.N with hbn | hbn
  ·rcases h.old b hbn with e | e
   ·exact ho ⟨b,e ▸ hb⟩
   ·rw [e] at hb; cases hb
  ·rcases h.new b r hbn hb with g | g
   ·omega
   ·exact ho g
 ·have hb' := Nat.lt_of_lt_of_le hb h.N
  rcases k.old b hb' with e | e
  ·rw [k.shape b r hb' hm,h.shape b r hb (e ▸ hm)]
  ·rw [e] at hm; cases hm
theorem World.cell_congr {w w' : World} {a : Addr} (h : w'.heap[a.block]? = w.heap[a.block]?) : w'.cell? a = w.cell? a := by simp [World.cell?,h]
theorem add_block (a : Addr) (n : Nat) : (a.add n).block = a.block := by unfold Addr.add; split <;> rfl
theorem add_lit (r k n : Nat) : (Addr.add ⟨r,k,none⟩ n) = ⟨r,k + n,none⟩ := by
 unfold Addr.add; split
 ·rename_i h; rw [h]; rfl
 ·rfl
theorem mut_ext {c c' : Ctx} {w w' : World} (hf : ∀ b,c.N ≤ b → c.m b = none) (h : Ext c w c' w') {r : Nat} (hr : r < w.heap.size) (hm : ¬ c.mut r) : ¬ c'.mut r := by
 rintro (hx | ⟨b,hb⟩)
 ·exact hm (.inl (h.X ▸ hx))
 ·rcases Nat.lt_or_ge b c.N with hbn | hbn
  ·rcases h.old b hbn with e | e
   ·exact hm (.inr ⟨b,e ▸ hb⟩)
   ·rw [e] at hb; cases hb
  ·rcases h.new b r hbn hb with g | g
   ·omega
   ·exact hm (.inr g)
theorem PR.ext {c c' : Ctx} {w w' : World} (hf : ∀ b,c.N ≤ b → c.m b = none) (h : Ext c w c' w') {u : PV} {x : Value} (hp : PR c.mut w u x) : PR c'.mut w' u x := by
 induction hp with
 | int k e n hn => exact .int k e n hn
 | bool b => exact .bool b
 | str s => exact .str s
 | nilp => exact .nilp
 | nils => exact .nils
 | nilif => exact .nilif
 | nilfn => exact .nilfn
 | nilm => exact .nilm
 | fn f => exact .fn f
 | vsl0 n sy l a k h0 hk => exact .vsl0 n sy l a k h0 hk
 | vsl n sy l a k cp f h0 hs hM hlt hk hcp hcell hrel ih =>
  refine .vsl n sy l a k cp f h0 hs (mut_ext hf h hlt hM) (Nat.lt_of_lt_of_le hlt h.size) hk hcp (fun j u hu => ?_) ih
  exact (World.cell_congr (w := w) (w' := w') (a := a.add j) (by rw [add_block]; exact h.same _ hlt (fun ho => hM (.inr ho)))).trans (hcell j u hu)
 | vp sy l o a k f h0 hs hM hlt hcell hrel ih =>
  refine .vp sy l o a k f h0 hs (mut_ext hf h hlt hM) (Nat.lt_of_lt_of_le hlt h.size) (fun j u hu => ?_) ih
  exact (World.cell_congr (w := w) (w' := w') (a := a.add j) (by rw [add_block]; exact h.same _ hlt (fun ho => hM (.inr ho)))).trans (hcell j u hu)
 | undef x hx => exact .undef x hx
theorem live_lt {c : Ctx} (hf : ∀ b,c.N ≤ b → c.m b = none) {b : Nat} {m : Option Nat} (h : c.m b = some m) : b < c.N := by
 rcases Nat.lt_or_ge b c.N with h1 | h1
 ·exact h1
 ·rw [hf b h1] at h; cases h
theorem LR.ext {c c' : Ctx} {w w' : World} (hf : ∀ b,c.N ≤ b → c.m b = none) (h : Ext c w c' w') {u : LV} {x : Value} (hp : LR c w u x) : LR c' w' u x := by
 induction hp with
 | p v x hv => exact .p v x (hv.ext hf h)
 | ptr b o r k hm ho =>
  have hb := live_lt hf hm
  rcases h.old b hb with e | e
  ·exact .ptr b o r k (e.trans hm) ho
  ·exact .goneP b o _ e (Nat.lt_of_lt_of_le hb h.N)
 | goneP b o a hm hb =>
  refine .goneP b o a ?_ (Nat.lt_of_lt_of_le hb h.N)
  rcases h.old b hb with e | e
  ·rw [e,hm]
  ·exact e
 | sl b e sz o n r j k cp tot hm ho hn hk hc hs ht =>
  have hb := live_lt hf hm
  rcases h.old b hb with e | e
  ·exact .sl b _ sz o n r j k cp tot (e.trans hm) ho hn hk hc ((h.shape b r hb (e.trans hm)).trans hs) ht
  ·exact .goneS b _ sz o n _ _ _ e (Nat.lt_of_lt_of_le hb h.N)
 | slv b e sz o n hm ho hn =>
  have hb := live_lt hf hm
  rcases h.old b hb with e | e
  ·exact .slv b _ sz o n (e.trans hm) ho hn
  ·exact .goneS b _ sz o n _ _ _ e (Nat.lt_of_lt_of_le hb h.N)
 | slz b e sz o n a r tot hm ho hn hs h0 =>
  have hb := live_lt hf hm
  rcases h.old b hb with e | e
  ·exact .slz b _ sz o n a r tot (e.trans hm) ho hn ((h.shape b r hb (e.trans hm)).trans hs) h0
  ·exact .goneS b _ sz o n _ _ _ e (Nat.lt_of_lt_of_le hb h.N)
 | goneS b e sz o n a k cp hm hb =>
  refine .goneS b e sz o n a k cp ?_ (Nat.lt_of_lt_of_le hb h.N)
  rcases h.old b hb with e | e
  ·rw [e,hm]
  ·exact e
 | sla b o n r j k cp hm ho hn hk hc =>
  have hb := live_lt hf hm
  rcases h.old b hb with e | e
  ·exact .sla b o n r j k cp (e.trans hm) ho hn hk hc
  ·exact .goneA b o n _ e (Nat.lt_of_lt_of_le hb h.N)
 | goneA b o n x hm hb =>
  refine .goneA b o n x ?_ (Nat.lt_of_lt_of_le hb h.N)
  rcases h.old b hb with e | e
  ·rw [e,hm]
  ·exact e
 | mp b r hm =>
  have hb := live_lt hf hm
  rcases h.old b hb with e | e
  ·exact .mp b r (e.trans hm)
  ·exact .goneM b _ e (Nat.lt_of_lt_of_le hb h.N)
 | goneM b x hm hb =>
  refine .goneM b x ?_ (Nat.lt_of_lt_of_le hb h.N)
  rcases h.old b hb with e | e
  ·rw [e,hm]
  ·exact e
 | agg l x hl _ ih => exact .agg l x hl ih
 | tup l x hl _ ih => exact .tup l x hl ih
 | iface t v x _ ih => exact .iface t v x ih
 | fn f l x hl _ ih => exact .fn f l x hl ih
 | nul => exact .nul
 | undef x => exact .undef x
theorem BR.ext {c c' : Ctx} {w w' : World} (hf : ∀ b,c.N ≤ b → c.m b = none) (h : Ext c w c' w') {B : LB} {m : Option Nat} (hs : ∀ r,m = some r → w'.heap[r]? = w.heap[r]?) (hb : BR c w B m) : BR c' w' B m := by
 cases B with
 | pure sy l =>
  cases m with
  | none => exact hb
  | some r =>
   obtain ⟨cur,ty,h1,h2,h3⟩ := hb
   exact ⟨cur,ty,(hs r rfl).trans h1,h2,fun j u hu => (h3 j u hu).ext hf h⟩
 | mix l =>
  cases m with
  | none => exact hb
  | some r =>
   obtain ⟨cur,ty,h1,h2,h3⟩ := hb
   exact ⟨cur,ty,(hs r rfl).trans h1,h2,fun j u hu => (h3 j u hu).ext hf h⟩
 | iter s pos =>
  cases m with
  | none => exact hb
  | some r =>
   obtain ⟨p,h1,h2⟩ := hb
   exact ⟨p,h1,(hs r rfl).trans h2⟩
 | bld t l =>
  cases m with
  | none => exact hb
  | some r =>
   obtain ⟨cur,h1,h2,h0,h3⟩ := hb
   exact ⟨cur,(hs r rfl).trans h1,h2,h0,fun j u hu => (h3 j u hu).ext hf h⟩
 | set l =>
  cases m with
  | none => exact hb
  | some r =>
   obtain ⟨es,ck,h1,h2,h3⟩ := hb
   exact ⟨es,ck,(hs r rfl).trans h1,h2,h3⟩
 | kv l vs =>
  cases m with
  | none => exact hb
  | some r =>
   obtain ⟨es,ck,h1,h2,h3⟩ := hb
   exact ⟨es,ck,(hs r rfl).trans h1,h2,h3⟩
 | frz l =>
  cases m with
  | none => exact hb
  | some r =>
   obtain ⟨cur,ty,fr,h1,h2,h3⟩ := hb
   exact ⟨cur,ty,fr,(hs r rfl).trans h1,h2,fun j u hu => (h3 j u hu).ext hf h⟩
 | fix g o =>
  cases m with
  | some r => exact hb
  | none =>
   obtain ⟨h1,h2⟩ := hb
   have hlt : g < w.heap.size := (Array.getElem?_eq_some_iff.1 h1).1
   refine ⟨(h.same g hlt fun ho => h2 (.inr ho)).trans h1,?_⟩
   rintro (hx | ⟨b,hb⟩)
   ·exact h2 (.inl (h.X ▸ hx))
   ·rcases Nat.lt_or_ge b c.N with hb2 | hb2
    ·rcases h.old b hb2 with e | e
     ·exact h2 (.inr ⟨b,e ▸ hb⟩)
     ·rw [e] at hb; cases hb
    ·rcases h.new b g hb2 hb with e | e
     ·omega
     ·exact h2 (.inr e)
theorem nbeq {a b : Nat} (e : ¬ a = b) : Nat.beq a b = false := by
 cases h : Nat.beq a b with
 | false => rfl
 | true => exact absurd (Nat.eq_of_beq_eq_true h) e
theorem hget_cons (a b : Nat) (B : LB) (h : LH) : hget ((a,B) :: h) b = if a = b then some B else hget h b := by
 rw [hget]
 by_cases e : a = b
 ·subst e; rw [if_pos rfl,Nat.beq_refl]
 ·rw [if_neg e]
  have : Nat.beq a b = false := nbeq e
  rw [this]
theorem hget_set {h : LH} {b : Nat} {B C : LB} (hb : hget h b = some B) (d : Nat) : hget (hset h b C) d = if d = b then some C else hget h d := by
 induction h with
 | nil => cases hb
 | cons x h ih =>
  obtain ⟨a,A⟩ := x
  by_cases e : a = b
  ·subst e
   simp only [hset,Nat.beq_refl]
   rw [hget_cons,hget_cons]
   by_cases e2 : d = a
   ·rw [if_pos e2.symm,if_pos e2]
   ·rw [if_neg (fun h => e2 h.symm),if_neg e2,if_neg (fun h => e2 h.symm)]
  ·have hne : Nat.beq a b = false := nbeq e
   simp only [hset,hne]
   rw [hget_cons,if_neg e] at hb
   rw [hget_cons,hget_cons,ih hb]
   by_cases e2 : a = d
   ·subst e2; rw [if_pos rfl,if_neg e,if_pos rfl]
   ·rw [if_neg e2,if_neg e2]
theorem hget_del (h : LH) (b d : Nat) : hget (hdel h b) d = if d = b then none else hget h d := by
 induction h with
 | nil => simp [hdel,hget]
 | cons x h ih =>
  obtain ⟨a,A⟩ := x
  by_cases e : a = b
  ·subst e
   simp only [hdel,Nat.beq_refl]
   rw [ih,hget_cons]
   by_cases e2 : d = a
   ·rw [if_pos e2,if_pos e2]
   ·rw [if_neg e2,if_neg e2,if_neg (fun h => e2 h.symm)]
  ·have hne : Nat.beq a b = false := nbeq e
   simp only [hdel,hne]
   rw [hget_cons,hget_cons,ih]
   by_cases e2 : a = d
   ·subst e2; rw [if_pos rfl,if_neg e,if_pos rfl]
   ·rw [if_neg e2,if_neg e2]
theorem tget_eq : ∀ (l : List LV) (i : Nat),tget l i = l.getD i .undef
 | [],i => by cases i <;> rfl
 | x :: l,0 => rfl
 | x :: l,i + 1 => by rw [tget,tget_eq l i]; rfl
theorem tset_eq : ∀ (l : List LV) (i : Nat) (v : LV),tset l i v = l.set i v
 | [],i,v => by cases i <;> rfl
 | x :: l,0,v => rfl
 | x :: l,i + 1,v => by rw [tset,tset_eq l i v]; rfl
theorem St.slot {c : Ctx} {s : LS} {a : Act} {w : World} (h : St c s a w) (i : Nat) : LR c w (tget s.t i) (a.tmps.getD i undef) := by
 rw [tget_eq,List.getD_eq_getElem?_getD]
 cases e : s.t[i]? with
 | none => exact .undef _
 | some u => exact h.tr i u e
theorem LR.const (c : Ctx) (w : World) (v : Value) : LR c w (.ofV v) v := by
 unfold LV.ofV
 split
 ·exact .p _ _ (.int _ _ _ rfl)
 ·exact .p _ _ (.bool _)
 ·exact .p _ _ (.str _)
 ·exact .p _ _ .nilp
 ·exact .p _ _ .nils
 ·exact .p _ _ .nilif
 ·exact .p _ _ .nilfn
 ·exact .p _ _ .nilm
 ·exact .undef _
theorem St.ev {c : Ctx} {s : LS} {a : Act} {w : World} (h : St c s a w) (x : Operand) : LR c w (ev s x) (a.eval x) := by
 cases x with
 | tmp t => exact h.slot t
 | const v => exact .const _ _ v
 | global g => exact .undef _
 | func f => exact .p _ _ (.fn f)
theorem St.put {c : Ctx} {s : LS} {a : Act} {w : World} (h : St c s a w) {u : LV} {x : Value} (hu : LR c w u x) (d : Option Nat) : St c (s.put d u) (a.put d x) w := by
 cases d with
 | none => exact h
 | some d =>
  refine ⟨?_,?_,h.df,h.hr,h.nn⟩
  ·simp [LS.put,Act.put,tset_eq,h.tl]
  ·intro i v hv
   simp only [LS.put,tset_eq,List.getElem?_set] at hv
   simp only [Act.put,Array.getD_eq_getD_getElem?,Array.getElem?_setIfInBounds]
   by_cases e : d = i
   ·subst e
    rw [if_pos rfl] at hv ⊢
    by_cases e2 : d < s.t.length
    ·rw [if_pos e2] at hv
     rw [if_pos (by rw [← h.tl]; exact e2)]
     cases hv; exact hu
    ·rw [if_neg e2] at hv; cases hv
   ·rw [if_neg e] at hv ⊢
    have := h.tr i v hv
    rwa [Array.getD_eq_getD_getElem?] at this
theorem HR.step {c c' : Ctx} {w w' : World} {h h' : LH} (hr : HR c w h) (he : Ext c w c' w') (hN : c'.N = c.N ∨ c'.N = c.N + 1) (hf : ∀ b,c'.N ≤ b → c'.m b = none)
  (hn : ∀ b,c'.m b = c.m b ∨ c'.m b = none ∨ (b = c.N ∧ (c'.m b = some none ∨ ∃ r,c'.m b = some (some r) ∧ w.heap.size ≤ r ∧ r < w'.heap.size)))
  (hh : ∀ b B,hget h' b = some B → (hget h b = some B ∧ c'.m b = c.m b ∧ ∀ r,c.m b = some (some r) → w'.heap[r]? = w.heap[r]?) ∨ ∃ m,c'.m b = some m ∧ BR c' w' B m) : HR c' w' h' := by
 refine ⟨fun b B hb => ?_,hf,fun b b' r h1 h2 => ?_,fun b r h1 hx => ?_,fun r hx => ?_,fun b r h1 => ?_⟩
 ·rcases hh b B hb with ⟨h1,h2,h3⟩ | h1
  ·obtain ⟨m,hm,hB⟩ := hr.live b B h1
   exact ⟨m,h2.trans hm,hB.ext hr.fresh he fun r hmr => h3 r (hm.trans (by rw [hmr]))⟩
  ·exact h1
 ·have key : ∀ b,c'.m b = some (some r) → c.m b = some (some r) ∨ (b = c.N ∧ w.heap.size ≤ r) := by
   intro b h1
   rcases hn b with e | e | ⟨e0,e | ⟨r1,e,e1,_⟩⟩
   ·exact .inl (e ▸ h1)
   ·rw [e] at h1; cases h1
   ·rw [e] at h1; cases h1
   ·rw [e] at h1; cases h1; exact .inr ⟨e0,e1⟩
  rcases key b h1 with k1 | ⟨k1,l1⟩ <;> rcases key b' h2 with k2 | ⟨k2,l2⟩
  ·exact hr.inj b b' r k1 k2
  ·have := hr.lt b r k1; omega
  ·have := hr.lt b' r k2; omega
  ·rw [k1,k2]
 ·have hx' : c.X r := he.X ▸ hx
  rcases hn b with e | e | ⟨e0,e | ⟨r1,e,e1,_⟩⟩
  ·exact hr.noX b r (e ▸ h1) hx'
  ·rw [e] at h1; cases h1
  ·rw [e] at h1; cases h1
  ·rw [e] at h1; cases h1
   have := hr.ltX r hx'; omega
 ·exact Nat.lt_of_lt_of_le (hr.ltX r (he.X ▸ hx)) he.size
 ·rcases hn b with e | e | ⟨e0,e | ⟨r1,e,e1,e2⟩⟩
  ·exact Nat.lt_of_lt_of_le (hr.lt b r (e ▸ h1)) he.size
  ·rw [e] at h1; cases h1
  ·rw [e] at h1; cases h1
  ·rw [e] at h1; cases h1; exact e2
def Ctx.grow (c : Ctx) (m : Option Nat) : Ctx := { c with m := fun b => if b = c.N then some m else c.m b,N := c.N + 1 }
theorem grow_old (c : Ctx) (m : Option Nat) {b : Nat} (h : b ≠ c.N) : (c.grow m).m b = c.m b := if_neg h
theorem grow_new (c : Ctx) (m : Option Nat) : (c.grow m).m c.N = some m := if_pos rfl
theorem Ext.alloc {c : Ctx} {w : World} {h : LH} (hr : HR c w h) (o : Obj) : Ext c w (c.grow (some w.heap.size)) (w.alloc o) := by
 refine ⟨rfl,rfl,rfl,by simp,rfl,Nat.le_succ _,fun b hb => .inl (grow_old c _ (Nat.ne_of_lt hb)),fun b r hb h => ?_,fun r hr _ => heap_alloc_old w o hr,fun b r hb h => ?_⟩
 ·by_cases e : b = c.N
  ·subst e; rw [grow_new] at h; cases h; exact .inl (Nat.le_refl _)
  ·rw [grow_old c _ e,hr.fresh b hb] at h; cases h
 ·rw [grow_old c _ (Nat.ne_of_lt hb)] at h
  simp only [World.shape?]
  rw [heap_alloc_old w o (hr.lt b r h)]
theorem HR.alloc {c : Ctx} {w : World} {h : LH} (hr : HR c w h) (o : Obj) (B : LB) (hB : BR (c.grow (some w.heap.size)) (w.alloc o) B (some w.heap.size)) : HR (c.grow (some w.heap.size)) (w.alloc o) ((c.N,B) :: h) := by
 refine hr.step (Ext.alloc hr o) (.inr rfl) (fun b hb => ?_) (fun b => ?_) (fun b C hb => ?_)
 ·have hb' : c.N + 1 ≤ b := hb
  rw [grow_old c _ (by omega)]; exact hr.fresh b (by omega)
 ·by_cases e : b = c.N
  ·exact .inr (.inr ⟨e,.inr ⟨w.heap.size,by rw [e,grow_new],Nat.le_refl _,by simp⟩⟩)
  ·exact .inl (grow_old c _ e)
 ·rw [hget_cons] at hb
  by_cases e : c.N = b
  ·rw [if_pos e] at hb; cases hb
   subst e
   exact .inr ⟨_,grow_new c _,hB⟩
  ·rw [if_neg e] at hb
   exact .inl ⟨hb,grow_old c _ (fun h => e h.symm),fun r hrr => heap_alloc_old w o (hr.lt b r hrr)⟩
structure Turn (w w' : World) (r : Nat) : Prop where
 os : w'.os = w.os
 tape : w'.tape = w.tape
 output : w'.output = w.output
 size : w'.heap.size = w.heap.size
 other : ∀ k,k ≠ r → w'.heap[k]? = w.heap[k]?
 shape : w'.shape? r = w.shape? r
theorem Ext.turn {c : Ctx} {w w' : World} {h : LH} (hr : HR c w h) {b r : Nat} (hm : c.m b = some (some r)) (ht : Turn w w' r) : Ext c w c w' := by
 refine ⟨ht.os,ht.tape,ht.output,Nat.le_of_eq ht.size.symm,rfl,Nat.le_refl _,fun _ _ => .inl rfl,fun b r hb h => (by rw [hr.fresh b hb] at h; cases h),fun k _ ho => ht.other k ?_,fun b' k _ hk => ?_⟩
 ·rintro rfl; exact ho ⟨b,hm⟩
 ·by_cases e : k = r
  ·rw [e]; exact ht.shape
  ·simp only [World.shape?,ht.other k e]
theorem HR.turn {c : Ctx} {w w' : World} {h : LH} (hr : HR c w h) {b r : Nat} {B B' : LB} (hb : hget h b = some B) (hm : c.m b = some (some r)) (ht : Turn w w' r) (hB : BR c w' B' (some r)) : HR c w' (hset h b B') := by
 refine hr.step (Ext.turn hr hm ht) (.inl rfl) hr.fresh (fun b => .inl rfl) (fun d C hd => ?_)
 rw [hget_set hb] at hd
 by_cases e : d = b
 ·rw [if_pos e] at hd; cases hd
  exact .inr ⟨_,by rw [e]; exact hm,hB⟩
 ·rw [if_neg e] at hd
  exact .inl ⟨hd,rfl,fun k hk => ht.other k (by rintro rfl; exact e (hr.inj d b k hk hm))⟩
theorem HR.same {c : Ctx} {w w' : World} {h : LH} (hr : HR c w h) (e1 : w'.os = w.os) (e2 : w'.tape = w.tape) (e3 : w'.output = w.output) (e4 : w'.heap = w.heap) : Ext c w c w' ∧ HR c w' h := by
 have he : Ext c w c w' := ⟨e1,e2,e3,by rw [e4]; exact Nat.le_refl _,rfl,Nat.le_refl _,fun _ _ => .inl rfl,fun b r hb h => (by rw [hr.fresh b hb] at h; cases h),fun k _ _ => by rw [e4],fun _ _ _ _ => by simp only [World.shape?,e4]⟩
 exact ⟨he,hr.step he (.inl rfl) hr.fresh (fun b => .inl rfl) (fun d C hd => .inl ⟨hd,rfl,fun k _ => by rw [e4]⟩)⟩
def Ctx.drop (c : Ctx) (b : Nat) : Ctx := { c with m := fun d => if d = b then none else c.m d }
theorem Ext.drop {c : Ctx} {w : World} {h : LH} (hr : HR c w h) (b : Nat) : Ext c w (c.drop b) w := by
 refine ⟨rfl,rfl,rfl,Nat.le_refl _,rfl,Nat.le_refl _,fun d _ => ?_,fun d r hb h => ?_,fun _ _ _ => rfl,fun _ _ _ _ => rfl⟩
 ·by_cases e : d = b
  ·exact .inr (if_pos e)
  ·exact .inl (if_neg e)
 ·simp only [Ctx.drop] at h
  split at h
  ·cases h
  ·rw [hr.fresh d hb] at h; cases h
theorem HR.drop {c : Ctx} {w : World} {h : LH} (hr : HR c w h) (b : Nat) : HR (c.drop b) w (hdel h b) := by
 refine hr.step (Ext.drop hr b) (.inl rfl) (fun d hd => ?_) (fun d => ?_) (fun d C hd => ?_)
 ·simp only [Ctx.drop]; split
  ·rfl
  ·exact hr.fresh d hd
 ·by_cases e : d = b
  ·exact .inr (.inl (if_pos e))
  ·exact .inl (if_neg e)
 ·rw [hget_del] at hd
  split at hd
  ·cases hd
  ·rename_i e
   exact .inl ⟨hd,if_neg e,fun _ _ => rfl⟩
theorem Ext.void {c : Ctx} {w : World} {h : LH} (hr : HR c w h) : Ext c w (c.grow none) w := by
 refine ⟨rfl,rfl,rfl,Nat.le_refl _,rfl,Nat.le_succ _,fun b hb => .inl (grow_old c _ (Nat.ne_of_lt hb)),fun b r hb h => ?_,fun _ _ _ => rfl,fun _ _ _ _ => rfl⟩
 by_cases e : b = c.N
 ·subst e; rw [grow_new] at h; cases h
 ·rw [grow_old c _ e,hr.fresh b hb] at h; cases h
theorem HR.void {c : Ctx} {w : World} {h : LH} (hr : HR c w h) (sy : Bool) : HR (c.grow none) w ((c.N,.pure sy []) :: h) := by
 refine hr.step (Ext.void hr) (.inr rfl) (fun b hb => ?_) (fun b => ?_) (fun b C hb => ?_)
 ·have hb' : c.N + 1 ≤ b := hb
  rw [grow_old c _ (by omega)]; exact hr.fresh b (by omega)
 ·by_cases e : b = c.N
  ·exact .inr (.inr ⟨e,.inl (by rw [e,grow_new])⟩)
  ·exact .inl (grow_old c _ e)
 ·rw [hget_cons] at hb
  by_cases e : c.N = b
  ·rw [if_pos e] at hb; cases hb
   subst e
   exact .inr ⟨_,grow_new c _,rfl⟩
  ·rw [if_neg e] at hb
   exact .inl ⟨hb,grow_old c _ (fun h => e h.symm),fun _ _ => rfl⟩
def Ctx.move (c : Ctx) (i : Nat) : Ctx := { c with m := fun b => if b = i then none else if b = c.N then c.m i else c.m b,N := c.N + 1 }
theorem move_new {c : Ctx} {i : Nat} (h : i < c.N) : (c.move i).m c.N = c.m i := by
 show (if c.N = i then none else if c.N = c.N then c.m i else c.m c.N) = _
 rw [if_neg (by omega),if_pos rfl]
theorem move_old {c : Ctx} {i b : Nat} (h : b ≠ i) (h2 : b ≠ c.N) : (c.move i).m b = c.m b := by simp only [Ctx.move]; rw [if_neg h,if_neg h2]
theorem move_gone {c : Ctx} {i : Nat} : (c.move i).m i = none := if_pos rfl
theorem Ext.move {c : Ctx} {w : World} {h : LH} (hr : HR c w h) {i : Nat} (hi : i < c.N) : Ext c w (c.move i) w := by
 refine ⟨rfl,rfl,rfl,Nat.le_refl _,rfl,Nat.le_succ _,fun b hb => ?_,fun b r hb h => ?_,fun _ _ _ => rfl,fun _ _ _ _ => rfl⟩
 ·by_cases e : b = i
  ·exact .inr (e ▸ move_gone)
  ·exact .inl (move_old e (by omega))
 ·by_cases e : b = c.N
  ·subst e; rw [move_new hi] at h; exact .inr ⟨i,h⟩
  ·rw [move_old (by omega) e,hr.fresh b hb] at h; cases h
theorem HR.move {c : Ctx} {w : World} {h : LH} (hr : HR c w h) {i : Nat} {m : Option Nat} {B : LB} (hm : c.m i = some m) (hBR : BR c w B m) : HR (c.move i) w ((c.N,B) :: hdel h i) := by
 have hi := live_lt hr.fresh hm
 have he := Ext.move hr hi
 have back : ∀ b r,(c.move i).m b = some (some r) → ∃ d,c.m d = some (some r) ∧ ((b = c.N ∧ d = i) ∨ (b ≠ i ∧ b ≠ c.N ∧ d = b)) := by
  intro b r h1
  by_cases e1 : b = i
  ·rw [e1,move_gone] at h1; cases h1
  ·by_cases e2 : b = c.N
   ·rw [e2,move_new hi] at h1; exact ⟨i,h1,.inl ⟨e2,rfl⟩⟩
   ·rw [move_old e1 e2] at h1; exact ⟨b,h1,.inr ⟨e1,e2,rfl⟩⟩
 refine ⟨fun b C hb => ?_,fun b hb => ?_,fun b b' r h1 h2 => ?_,fun b r h1 hx => ?_,hr.ltX,fun b r h1 => ?_⟩
 ·rw [hget_cons] at hb
  by_cases e : c.N = b
  ·rw [if_pos e] at hb; cases hb
   subst e
   exact ⟨m,(move_new hi).trans hm,hBR.ext hr.fresh he fun _ _ => rfl⟩
  ·rw [if_neg e,hget_del] at hb
   split at hb
   ·cases hb
   ·rename_i e1
    obtain ⟨m',hm',hBR'⟩ := hr.live b C hb
    exact ⟨m',(move_old e1 (fun h => e h.symm)).trans hm',hBR'.ext hr.fresh he fun _ _ => rfl⟩
 ·have hb' : c.N + 1 ≤ b := hb
  rw [move_old (by omega) (by omega)]; exact hr.fresh b (by omega)
 ·obtain ⟨d,k1,k2⟩ := back b r h1
  obtain ⟨d',k1',k2'⟩ := back b' r h2
  have := hr.inj d d' r k1 k1'
  rcases k2 with ⟨e1,e2⟩ | ⟨e1,e2,e3⟩ <;> rcases k2' with ⟨e1',e2'⟩ | ⟨e1',e2',e3'⟩ <;> omega
 ·obtain ⟨d,k1,_⟩ := back b r h1
  exact hr.noX d r k1 hx
 ·obtain ⟨d,k1,_⟩ := back b r h1
  exact hr.lt d r k1
theorem St.ext {c c' : Ctx} {s : LS} {a : Act} {w w' : World} (h : St c s a w) (he : Ext c w c' w') {h' : LH} (hr : HR c' w' h') {n' : Nat} (hn : c'.N = n') : St c' { s with h := h',n := n' } a w' :=
 ⟨h.tl,fun i u hu => (h.tr i u hu).ext h.hr.fresh he,h.df,hr,hn⟩
end Go.LX
namespace Go.LX
open Go
set_option maxHeartbeats 32000000
def PV.toV : PV → Value
 | .int k e => .int k e.val
 | .bool b => .bool b
 | .str s => .string (s ())
 | .nilp => .pointer none
 | .nils => .slice none 0 0
 | .nilif => .nilIface
 | .nilfn => .nilFunc
 | .nilm => .map none
 | _ => Go.undef
def zok : PV → Bool
 | .int _ _ => true
 | .bool _ => true
 | .str _ => true
 | .nilp => true
 | .nils => true
 | .nilif => true
 | .nilfn => true
 | .nilm => true
 | _ => false
def kindOk (P : Program) : TK → TypeDesc → Prop
 | .int k,.int k' => k = k'
 | .bool,.bool => True
 | .str,.string => True
 | .ptr e,.pointer e' => e = e'
 | .slice e,.slice e' => e = e'
 | .struct fs,.struct fs' => fs = (fs'.toList.map fun f => (f.offset,f.type)) ∧ (fs'.toList.mapM fun f => (P.info? f.type).map fun i => (f.offset,i.size)).isSome = true
 | .arr n e,.array n' e' => n = n' ∧ e = e' ∧ (P.info? e).isSome = true
 | .map k e,.map k' e' => k = k' ∧ e = e'
 | .iface,.interface _ => True
 | .func,.func _ _ _ => True
 | _,_ => False
structure TIok (P : Program) (t : Nat) (ti : TI) : Prop where
 ok : ∃ i z d,P.info? t = some i ∧ i.size = ti.size ∧ i.bytes = ti.bytes ∧ i.zero = some z ∧ z.cells.toList = ti.zero.map PV.toV ∧ P.underlying t = some d ∧ kindOk P ti.kind d ∧ (ti.kind.agg = true → z = .agg z.cells) ∧ (ti.kind.agg = false → z.cells = #[z])
 zs : ti.zero.all zok = true
def TOK (P : Program) (T : TT) : Prop := ∀ t ti,lget T t = some ti → TIok P t ti
theorem lget_cons (a b : Nat) (x : TI) (T : TT) : lget ((a,x) :: T) b = if a = b then some x else lget T b := by
 rw [lget]
 by_cases e : a = b
 ·subst e; rw [if_pos rfl,Nat.beq_refl]
 ·rw [if_neg e,nbeq e]
theorem tok_nil (P : Program) : TOK P [] := fun _ _ h => by cases h
theorem tok_cons {P : Program} {a : Nat} {x : TI} {T : TT} (h : TIok P a x) (k : TOK P T) : TOK P ((a,x) :: T) := by
 intro t ti ht
 rw [lget_cons] at ht
 by_cases e : a = t
 ·rw [if_pos e] at ht; cases ht; exact e ▸ h
 ·rw [if_neg e] at ht; exact k t ti ht
def Post (K : LS → Prop) (c : Ctx) (w : World) (a' : Act) (w' : World) : Prop := ∃ c' s',K s' ∧ St c' s' a' w' ∧ Ext c w c' w'
section
variable {P : Program} {T : TT} {o : Oper} {s : LS} {K : LS → Prop} {c : Ctx} {a : Act} {w : World} {Q : Exit → Act → World → Prop}
theorem op_val {v : Value} {u : LV} (hs : St c s a w) (hr : (execOp a.eval o).run P w = .ok (.value v) w) (hu : LR c w u v) (hK : K (s.put o.dst u)) : o.wp P a w (Post K c w) Q := by
 unfold Oper.wp
 rw [hr,Oper.upon_value]
 exact ⟨c,_,hK,hs.put hu _,Ext.refl hs.hr⟩
theorem op_world {v : Value} {u : LV} {c' : Ctx} {w' : World} {h' : LH} {n' : Nat} (hs : St c s a w) (hr : (execOp a.eval o).run P w = .ok (.value v) w') (he : Ext c w c' w') (hh : HR c' w' h') (hn : c'.N = n') (hu : LR c' w' u v)
  (hK : K (LS.put { s with h := h',n := n' } o.dst u)) : o.wp P a w (Post K c w) Q := by
 unfold Oper.wp
 rw [hr,Oper.upon_value]
 exact ⟨c',_,hK,(hs.ext he hh hn).put hu _,he⟩
theorem op_skip {c' : Ctx} {w' : World} {h' : LH} {n' : Nat} (hs : St c s a w) (hr : (execOp a.eval o).run P w = .ok .skip w') (he : Ext c w c' w') (hh : HR c' w' h') (hn : c'.N = n')
  (hK : K (LS.put { s with h := h',n := n' } o.dst .nul)) : o.wp P a w (Post K c w) Q := by
 unfold Oper.wp
 rw [hr,Oper.upon_skip]
 exact ⟨c',_,hK,(hs.ext he hh hn).put .nul _,he⟩
theorem lop_move {x : Operand} (ho : o.op = .move x ∨ o.op = .assign x) (hs : St c s a w) (hK : K (s.put o.dst (ev s x))) : o.wp P a w (Post K c w) Q := by
 refine op_val hs (v := a.eval x) ?_ (hs.ev x) hK
 rcases ho with ho | ho <;> simp [execOp,ho]
theorem LR.inv_bool {b : Bool} {v : Value} (h : LR c w (.p (.bool b)) v) : v = .bool b := by
 cases h with | p _ _ h => cases h with | bool => rfl
theorem LR.inv_int {k : IntKind} {e : I} {v : Value} (h : LR c w (.p (.int k e)) v) : v = .int k e.val := by
 cases h with | p _ _ h => cases h with | int _ _ n hn => rw [hn]
theorem LR.inv_str {z : Unit → ByteArray} {v : Value} (h : LR c w (.p (.str z)) v) : v = .string (z ()) := by
 cases h with | p _ _ h => cases h with | str => rfl
theorem LR.of_int (k : IntKind) (e : I) : LR c w (.p (.int k e)) (.int k e.val) := .p _ _ (.int k e _ rfl)
theorem LR.of_bool (b : Bool) : LR c w (.p (.bool b)) (.bool b) := .p _ _ (.bool b)
theorem LR.of_str (z : Unit → ByteArray) : LR c w (.p (.str z)) (.string (z ())) := .p _ _ (.str z)
theorem lop_pick {x y z : Operand} (ho : o.op = .pick x y z) (hs : St c s a w) {b : Bool} (hb : ev s x = .p (.bool b)) (hK : K (s.put o.dst (if b then ev s y else ev s z))) : o.wp P a w (Post K c w) Q := by
 have he : a.eval x = .bool b := LR.inv_bool (hb ▸ hs.ev x)
 refine op_val hs (v := if b then a.eval y else a.eval z) ?_ ?_ hK
 ·simp [execOp,ho,he,asBool]
 ·cases b
  ·exact hs.ev z
  ·exact hs.ev y
theorem wrap_in {k : IntKind} {n : Int} (h1 : k.min ≤ n) (h2 : n ≤ k.max) : k.wrap n = n := by
 cases k <;> simp [IntKind.wrap,IntKind.min,IntKind.max,IntKind.signed,IntKind.bits] at * <;> omega
theorem fit {k : IntKind} {e : Unit → Int} {L : I → Prop} (h : Fit k e L) : ∃ z,z.val = k.wrap (e ()) ∧ L z := by
 cases h with
 | mk h1 h2 hk => exact ⟨.sym (e ()),(wrap_in h1 h2).symm,hk _ rfl⟩
 | lit n h hk => exact ⟨.lit n,h.symm,hk⟩
 | wrap hk => exact ⟨.sym _,rfl,hk _ rfl⟩
theorem sum {e : Unit → Int} {L : I → Prop} (h : Sum e L) : ∃ z,z.val = e () ∧ L z := by
 cases h with
 | mk hk => exact ⟨.sym _,rfl,hk _ rfl⟩
 | lit n h hk => exact ⟨.lit n,h.symm,hk⟩
theorem br {p : Unit → Prop} {L : Bool → Prop} (h : Br p L) : ∃ b : Bool,(b = true ↔ p ()) ∧ L b := by
 cases h with
 | mk ht hf =>
  by_cases e : p ()
  ·exact ⟨true,by simp [e],ht e⟩
  ·exact ⟨false,by simp [e],hf e⟩
theorem need {p : Unit → Prop} {L : Unit → Prop} (h : Need p L) : p () ∧ L () := by
 cases h with | mk h k => exact ⟨h,k⟩
theorem str {z : Unit → ByteArray} {L : (Unit → ByteArray) → Prop} (h : Str z L) : ∃ y : Unit → ByteArray,y () = z () ∧ L y := by
 cases h with
 | mk k => exact ⟨fun _ => z (),rfl,k _ rfl⟩
 | lit y h k => exact ⟨y,h,k⟩
theorem upd {l : Unit → List PV} {L : List PV → Prop} (h : Upd l L) : L (l ()) := by
 cases h with | mk k => exact k _ rfl
theorem nz_sound {b : I} {L : Unit → Prop} (h : nz b L) : b.val ≠ 0 ∧ L () := by
 unfold nz at h
 split at h
 ·split at h
  ·exact h.elim
  ·rename_i e; exact ⟨of_decide_eq_false e,h⟩
 ·exact need h
theorem ar_sound {k : IntKind} {op : BinOp} {x y : I} {L : I → Prop} (h : ar k op x y L) (P : Program) (w : World) (t : TypeId) (xo yo : Operand) :
  ∃ z,L z ∧ ((do eqGuard op t xo yo (.int k x.val) (.int k y.val); binOp op t (.int k x.val) (.int k y.val)) : Sem Value).run P w = .ok (.int k z.val) w := by
 cases op with
 | add =>
  have key : ∃ z : I,z.val = k.wrap (x.val + y.val) ∧ L z := by
   cases x <;> cases y <;> first | exact fit h | exact ⟨_,rfl,h⟩
  obtain ⟨z,hz,hL⟩ := key
  exact ⟨z,hL,by simp [eqGuard,binOp,Op.intArith,hz]⟩
 | sub =>
  have key : ∃ z : I,z.val = k.wrap (x.val - y.val) ∧ L z := by
   cases x <;> cases y <;> first | exact fit h | exact ⟨_,rfl,h⟩
  obtain ⟨z,hz,hL⟩ := key
  exact ⟨z,hL,by simp [eqGuard,binOp,Op.intArith,hz]⟩
 | mul =>
  have key : ∃ z : I,z.val = k.wrap (x.val * y.val) ∧ L z := by
   cases x <;> cases y <;> first | exact fit h | exact ⟨_,rfl,h⟩
  obtain ⟨z,hz,hL⟩ := key
  exact ⟨z,hL,by simp [eqGuard,binOp,Op.intArith,hz]⟩
 | quo =>
  obtain ⟨h0,h⟩ := nz_sound (L := fun _ => arQuo k x y L) h
  have key : ∃ z : I,z.val = k.wrap (x.val.tdiv y.val) ∧ L z := by
   cases x <;> cases y <;> first | exact fit h | exact ⟨_,rfl,h⟩
  obtain ⟨z,hz,hL⟩ := key
  exact ⟨z,hL,by simp [eqGuard,binOp,Op.intDiv,hz,h0]⟩
 | rem =>
  obtain ⟨h0,h⟩ := nz_sound (L := fun _ => arRem x y L) h
  have key : ∃ z : I,z.val = x.val.tmod y.val ∧ L z := by
   cases x <;> cases y <;> first | exact sum h | exact ⟨_,rfl,h⟩
  obtain ⟨z,hz,hL⟩ := key
  exact ⟨z,hL,by simp [eqGuard,binOp,Op.intDiv,hz,h0]⟩
 | and =>
  obtain ⟨z,hz,hL⟩ := sum h
  exact ⟨z,hL,by simp [eqGuard,binOp,Op.intBits,hz]⟩
 | _ => exact h.elim
theorem cmp_sound {k : IntKind} {op : BinOp} {x y : I} {L : Bool → Prop} (h : cmpI op x y L) (P : Program) (w : World) (t : TypeId) (xo yo : Operand) :
  ∃ z,L z ∧ ((do eqGuard op t xo yo (.int k x.val) (.int k y.val); binOp op t (.int k x.val) (.int k y.val)) : Sem Value).run P w = .ok (.bool z) w := by
 cases op with
 | lss =>
  have key : ∃ z : Bool,(z = true ↔ x.val < y.val) ∧ L z := by
   cases x <;> cases y <;> first | exact br h | exact ⟨_,by simp [I.val],h⟩
  obtain ⟨z,hz,hL⟩ := key
  exact ⟨z,hL,by simp [eqGuard,binOp,Op.intCmp]; cases z <;> simp_all⟩
 | leq =>
  have key : ∃ z : Bool,(z = true ↔ x.val ≤ y.val) ∧ L z := by
   cases x <;> cases y <;> first | exact br h | exact ⟨_,by simp [I.val],h⟩
  obtain ⟨z,hz,hL⟩ := key
  exact ⟨z,hL,by simp [eqGuard,binOp,Op.intCmp]; cases z <;> simp_all⟩
 | gtr =>
  have key : ∃ z : Bool,(z = true ↔ y.val < x.val) ∧ L z := by
   cases x <;> cases y <;> first | exact br h | exact ⟨_,by simp [I.val],h⟩
  obtain ⟨z,hz,hL⟩ := key
  exact ⟨z,hL,by simp [eqGuard,binOp,Op.intCmp]; cases z <;> simp_all⟩
 | geq =>
  have key : ∃ z : Bool,(z = true ↔ y.val ≤ x.val) ∧ L z := by
   cases x <;> cases y <;> first | exact br h | exact ⟨_,by simp [I.val],h⟩
  obtain ⟨z,hz,hL⟩ := key
  exact ⟨z,hL,by simp [eqGuard,binOp,Op.intCmp]; cases z <;> simp_all⟩
 | eql =>
  have key : ∃ z : Bool,(z = true ↔ x.val = y.val) ∧ L z := by
   cases x <;> cases y <;> first | exact br h | exact ⟨_,by simp [I.val],h⟩
  obtain ⟨z,hz,hL⟩ := key
  exact ⟨z,hL,by simp [eqGuard,binOp,Op.intCmp]; cases z <;> simp_all⟩
 | neq =>
  have key : ∃ z : Bool,(z = true ↔ x.val ≠ y.val) ∧ L z := by
   cases x <;> cases y <;> first | exact br h | exact ⟨_,by simp [I.val],h⟩
  obtain ⟨z,hz,hL⟩ := key
  exact ⟨z,hL,by simp [eqGuard,binOp,Op.intCmp]; cases z <;> simp_all⟩
 | _ => exact h.elim
theorem str_beq (a b : ByteArray) : (a.toList == b.toList) = decide (a = b) := by
 rw [ByteArray.toList_eq,ByteArray.toList_eq]
 by_cases h : a = b
 ·subst h; simp
 ·rw [decide_eq_false h,beq_eq_false_iff_ne]
  exact fun e => h (Go.WideShapes.bytes_inj e)
theorem tk_ok {P : Program} {T : TT} (hT : TOK P T) {t : Nat} (h : tkOf T t ≠ .other) : ∃ d,P.underlying t = some d ∧ kindOk P (tkOf T t) d := by
 unfold tkOf at *
 cases e : lget T t with
 | none => rw [e] at h; exact absurd rfl h
 | some ti =>
  obtain ⟨⟨i,z,d,_,_,_,_,_,h1,h2,_⟩,_⟩ := hT t ti e
  exact ⟨d,h1,h2⟩
theorem guard0 {op : BinOp} {t : TypeId} {xo yo : Operand} {x y : Value} (h1 : x ≠ .nilIface) (h2 : ∀ l,x ≠ .agg l) : (eqGuard op t xo yo x y).run P w = .ok () w := by
 cases op <;> cases x <;> first | exact absurd rfl h1 | exact absurd rfl (h2 _) | simp [eqGuard]
theorem pointee_of {t e : TypeId} (h : P.underlying t = some (.pointer e)) : P.underlying t = some (.pointer (P.pointee t)) := by
 simp [Program.pointee,h]
theorem part_plain {e : TypeId} {x y : LV} (he : cmpOK P e x y = true) {xs : Array Value} {off : Nat} {v : Value} (hx : xs[off]? = some v) : (part e xs off).run P w = .ok v w := by
 unfold cmpOK at he
 split at he
 ·split at he
  ·rename_i hu; simp [part,isAgg,run_underlying hu,hx]
  ·cases he
 ·split at he
  ·rename_i hu; simp [part,isAgg,run_underlying hu,hx]
  ·cases he
 ·split at he
  ·rename_i hu; simp [part,isAgg,run_underlying hu,hx]
  ·cases he
 ·cases he
theorem cmp_eq {t : Nat} {x y : LV} {l m : List LV} {v u : Value} (h : cmpOK P t x y = true) (hx : LR c w x v) (hy : LR c w y u) (d : Nat) : ∃ b : Bool,(Op.equalIn (d + 1) t v u).run P w = .ok b w ∧ (eqLs (x :: l) (y :: m) ↔ b = true ∧ eqLs l m) := by
 unfold cmpOK at h
 split at h
 ·rename_i k a k' b
  split at h
  ·rename_i k2 hu
   have := of_decide_eq_true h
   subst this
   rw [hx.inv_int,hy.inv_int]
   exact ⟨_,run_equalIn_int w d t k k2 _ _ hu,by simp [eqLs]⟩
  ·cases h
 ·split at h
  ·rename_i hu
   rw [hx.inv_bool,hy.inv_bool]
   exact ⟨_,run_equalIn_bool' w d t _ _ hu,by simp [eqLs]⟩
  ·cases h
 ·split at h
  ·rename_i hu
   rw [hx.inv_str,hy.inv_str]
   exact ⟨_,run_equalIn_string w d t _ _ hu,by rw [str_beq]; simp [eqLs]⟩
  ·cases h
 ·cases h
theorem itemsN_eq {xs ys : Array Value} (d e : Nat) : ∀ (n : Nat) (l m l' m' : List LV) (j : Nat),itemsN P e n l m = some (l',m') → (∀ (i : Nat) (u : LV),i < n → l[i]? = some u → ∃ v,xs[j + i]? = some v ∧ LR c w u v) → (∀ (i : Nat) (u : LV),i < n → m[i]? = some u → ∃ v,ys[j + i]? = some v ∧ LR c w u v) →
  ∃ b : Bool,(Op.eqItems (d + 1) e 1 xs ys (List.range' j n)).run P w = .ok b w ∧ (eqLs l m ↔ b = true ∧ eqLs l' m') ∧ (∀ i : Nat,l'[i]? = l[n + i]?) ∧ (∀ i : Nat,m'[i]? = m[n + i]?)
 | 0,l,m,l',m',j,h,_,_ => by
  simp only [itemsN,Option.some.injEq,Prod.mk.injEq] at h
  obtain ⟨rfl,rfl⟩ := h
  exact ⟨true,by simp [Op.eqItems],by simp,fun i => by rw [Nat.zero_add],fun i => by rw [Nat.zero_add]⟩
 | n + 1,[],m,l',m',j,h,_,_ => by simp [itemsN] at h
 | n + 1,x :: l,[],l',m',j,h,_,_ => by simp [itemsN] at h
 | n + 1,x :: l,y :: m,l',m',j,h,h1,h2 => by
  rw [itemsN] at h
  split at h
  ·rename_i g4
   obtain ⟨v,hv,rv⟩ := h1 0 x (by omega) rfl
   obtain ⟨u,hu,ru⟩ := h2 0 y (by omega) rfl
   obtain ⟨b,e1,e2⟩ := cmp_eq (l := l) (m := m) g4 rv ru d
   obtain ⟨b2,e3,e4,e5,e6⟩ := itemsN_eq d e n l m l' m' (j + 1) h (fun i u hi hu => by have := h1 (i + 1) u (by omega) (by simpa using hu); rwa [show j + 1 + i = j + (i + 1) by omega]) (fun i u hi hu => by have := h2 (i + 1) u (by omega) (by simpa using hu); rwa [show j + 1 + i = j + (i + 1) by omega])
   have p1 := part_plain (w := w) g4 (show xs[j * 1]? = some v by rw [Nat.mul_one]; exact hv)
   have p2 := part_plain (w := w) g4 (show ys[j * 1]? = some u by rw [Nat.mul_one]; exact hu)
   refine ⟨b && b2,?_,?_,fun i => by rw [e5,show n + 1 + i = (n + i) + 1 by omega,List.getElem?_cons_succ],fun i => by rw [e6,show n + 1 + i = (n + i) + 1 by omega,List.getElem?_cons_succ]⟩
   ·rw [List.range'_succ]
    simp only [Op.eqItems,Sem.run_bind,p1,p2,e1,Result.andThen_ok,Sem.run_ite]
    cases b
    ·simp
    ·simp [e3]
   ·rw [e2,e4]; cases b <;> cases b2 <;> simp
  ·cases h
theorem part_arr {t e : TypeId} {n : Nat} {i : TypeInfo} (hu : P.underlying t = some (.array n e)) (hi : P.info? t = some i) (hn : i.size = n) (xs : Array Value) (off : Nat) : (part t xs off).run P w = .ok (.agg (xs.extract off (off + n))) w := by
 have hc : P.cellsOf t = n := by simp [Program.cellsOf,hi,hn]
 simp [part,isAgg,run_underlying hu,run_sizeOf w hi,hc]
theorem fields_eq {xs ys : Array Value} (d : Nat) : ∀ (fs : List Field) (j : Nat) (l m : List LV),fieldsOK P j fs l m = true → (∀ (i : Nat) (u : LV),l[i]? = some u → ∃ v,xs[j + i]? = some v ∧ LR c w u v) → (∀ (i : Nat) (u : LV),m[i]? = some u → ∃ v,ys[j + i]? = some v ∧ LR c w u v) →
  ∃ b : Bool,(Op.eqFields (d + 2) xs ys fs).run P w = .ok b w ∧ (eqLs l m ↔ b = true)
 | [],j,l,m,h,_,_ => by
  cases l with
  | cons x l => cases m <;> simp [fieldsOK] at h
  | nil =>
   cases m with
   | cons y m => simp [fieldsOK] at h
   | nil => exact ⟨true,by simp [Op.eqFields],by simp [eqLs]⟩
 | f :: fs,j,l,m,h,h1,h2 => by
  unfold fieldsOK at h
  simp only [Bool.and_eq_true,bne_iff_ne,ne_eq,beq_iff_eq] at h
  obtain ⟨⟨g1,g2⟩,g3⟩ := h
  split at g3
  ·rename_i n e hu
   split at g3
   ·rename_i i i2 l' m' hi hi2 hN
    simp only [Bool.and_eq_true,beq_iff_eq] at g3
    obtain ⟨⟨k1,k2⟩,k3⟩ := g3
    have hc1 : P.cellsOf e = 1 := by simp [Program.cellsOf,hi,k1]
    have cut : ∀ {zs : Array Value} {l : List LV},(∀ (i : Nat) (u : LV),l[i]? = some u → ∃ v,zs[j + i]? = some v ∧ LR c w u v) → ∀ (i : Nat) (u : LV),i < n → l[i]? = some u → ∃ v,(zs.extract f.offset (f.offset + n))[0 + i]? = some v ∧ LR c w u v := by
     intro zs l hz i u hin hiu
     obtain ⟨v,hv,rv⟩ := hz i u hiu
     refine ⟨v,?_,rv⟩
     rw [Array.getElem?_extract,if_pos (by have := (Array.getElem?_eq_some_iff.1 hv).1; omega),g2,Nat.zero_add]
     exact hv
    obtain ⟨b,e1,e2,e5,e6⟩ := itemsN_eq (P := P) (w := w) (c := c) d e n l m l' m' 0 hN (cut h1) (cut h2)
    obtain ⟨b2,e3,e4⟩ := fields_eq d fs (j + n) l' m' k3 (fun i u hi => by have := h1 (n + i) u (by rw [← e5]; exact hi); rwa [show j + n + i = j + (n + i) by omega]) (fun i u hi => by have := h2 (n + i) u (by rw [← e6]; exact hi); rwa [show j + n + i = j + (n + i) by omega])
    have p1 := part_arr (w := w) hu hi2 k2 xs f.offset
    have p2 := part_arr (w := w) hu hi2 k2 ys f.offset
    have q : (Op.equalIn (d + 2) f.type (.agg (xs.extract f.offset (f.offset + n))) (.agg (ys.extract f.offset (f.offset + n)))).run P w = .ok b w := by
     rw [run_equalIn_array w (d + 1) _ _ hu hi,hc1,List.range_eq_range']
     exact e1
    refine ⟨b && b2,?_,?_⟩
    ·simp only [Op.eqFields,g1,ne_eq,not_false_eq_true,if_true,Sem.run_bind,p1,p2,q,Result.andThen_ok,Sem.run_ite]
     cases b
     ·simp
     ·simp [e3]
    ·rw [e2,e4]; cases b <;> cases b2 <;> simp
   ·cases g3
  ·rename_i hna
   split at g3
   ·rename_i x l y m
    simp only [Bool.and_eq_true] at g3
    obtain ⟨g4,g5⟩ := g3
    obtain ⟨v,hv,rv⟩ := h1 0 x rfl
    obtain ⟨u,hu,ru⟩ := h2 0 y rfl
    obtain ⟨b,e1,e2⟩ := cmp_eq (l := l) (m := m) g4 rv ru (d + 1)
    obtain ⟨b2,e3,e4⟩ := fields_eq d fs (j + 1) l m g5 (fun i u hi => by have := h1 (i + 1) u (by simpa using hi); rwa [show j + 1 + i = j + (i + 1) by omega]) (fun i u hi => by have := h2 (i + 1) u (by simpa using hi); rwa [show j + 1 + i = j + (i + 1) by omega])
    have p1 := part_plain (w := w) g4 (show xs[f.offset]? = some v by rw [g2]; exact hv)
    have p2 := part_plain (w := w) g4 (show ys[f.offset]? = some u by rw [g2]; exact hu)
    refine ⟨b && b2,?_,?_⟩
    ·simp only [Op.eqFields,g1,ne_eq,not_false_eq_true,if_true,Sem.run_bind,p1,p2,e1,Result.andThen_ok,Sem.run_ite]
     cases b
     ·simp
     ·simp [e3]
    ·rw [e2,e4]; cases b <;> cases b2 <;> simp
   ·cases g3
theorem items_eq {xs ys : Array Value} (d e : Nat) : ∀ (l m : List LV) (j : Nat),itemsOK P e l m = true → (∀ (i : Nat) (u : LV),l[i]? = some u → ∃ v,xs[j + i]? = some v ∧ LR c w u v) → (∀ (i : Nat) (u : LV),m[i]? = some u → ∃ v,ys[j + i]? = some v ∧ LR c w u v) →
  ∃ b : Bool,(Op.eqItems (d + 1) e 1 xs ys (List.range' j l.length)).run P w = .ok b w ∧ (eqLs l m ↔ b = true)
 | [],m,j,h,_,_ => by
  cases m with
  | nil => exact ⟨true,by simp [Op.eqItems],by simp [eqLs]⟩
  | cons y m => cases h
 | x :: l,[],j,h,_,_ => by cases h
 | x :: l,y :: m,j,h,h1,h2 => by
  simp only [itemsOK,Bool.and_eq_true] at h
  obtain ⟨g4,g5⟩ := h
  obtain ⟨v,hv,rv⟩ := h1 0 x rfl
  obtain ⟨u,hu,ru⟩ := h2 0 y rfl
  obtain ⟨b,e1,e2⟩ := cmp_eq (l := l) (m := m) g4 rv ru d
  obtain ⟨b2,e3,e4⟩ := items_eq d e l m (j + 1) g5 (fun i u hi => by have := h1 (i + 1) u (by simpa using hi); rwa [show j + 1 + i = j + (i + 1) by omega]) (fun i u hi => by have := h2 (i + 1) u (by simpa using hi); rwa [show j + 1 + i = j + (i + 1) by omega])
  have p1 := part_plain (w := w) g4 (show xs[j * 1]? = some v by rw [Nat.mul_one]; exact hv)
  have p2 := part_plain (w := w) g4 (show ys[j * 1]? = some u by rw [Nat.mul_one]; exact hu)
  refine ⟨b && b2,?_,?_⟩
  ·rw [List.length_cons,List.range'_succ]
   simp only [Op.eqItems,Sem.run_bind,p1,p2,e1,Result.andThen_ok,Sem.run_ite]
   cases b
   ·simp
   ·simp [e3]
  ·rw [e2,e4]; cases b <;> cases b2 <;> simp
theorem agg_eq {t : Nat} {l m : List LV} {xs ys : Array Value} (h : flatOK P t l m = true) (hx : LR c w (.agg l) (.agg xs)) (hy : LR c w (.agg m) (.agg ys)) : ∃ b : Bool,(Op.equalIn 10000 t (.agg xs) (.agg ys)).run P w = .ok b w ∧ (eqLs l m ↔ b = true) ∧ P.eqGuardType P.depth t = false := by
 simp only [flatOK,Bool.and_eq_true,Bool.not_eq_true'] at h
 obtain ⟨⟨g1,g2⟩,g3⟩ := h
 have key : ∀ {l : List LV} {xs : Array Value},LR c w (.agg l) (.agg xs) → ∀ (i : Nat) (u : LV),l[i]? = some u → ∃ v,xs[0 + i]? = some v ∧ LR c w u v := by
  intro l xs hx i u hi
  cases hx with
  | agg _ _ hl hr =>
   have hlt : i < xs.size := by rw [← hl]; exact (List.getElem?_eq_some_iff.1 hi).1
   refine ⟨xs[i],by simp [hlt],?_⟩
   have := hr i u hi
   rwa [Array.getD_eq_getD_getElem?,Array.getElem?_eq_getElem hlt] at this
 split at g3
 ·rename_i fs hu
  have hf : P.fieldsOf t = fs := by simp [Program.fieldsOf,hu]
  obtain ⟨b,e1,e2⟩ := fields_eq (P := P) 9997 fs.toList 0 l m g3 (key hx) (key hy)
  refine ⟨b,?_,e2,g1⟩
  rw [show (10000 : Nat) = 9999 + 1 from rfl,run_equalIn_agg w 9999 t _ _ (by rw [hf]; exact hu) g2,hf]
  exact e1
 ·rename_i n e hu
  simp only [Bool.and_eq_true,beq_iff_eq] at g3
  obtain ⟨⟨⟨k1,k2⟩,k3⟩,k4⟩ := g3
  split at k4
  ·rename_i i hi
   have k4 : i.size = 1 := by simpa using k4
   have hc1 : P.cellsOf e = 1 := by simp [Program.cellsOf,hi,k4]
   obtain ⟨b,e1,e2⟩ := items_eq (P := P) 9998 e l m 0 k3 (key hx) (key hy)
   refine ⟨b,?_,e2,g1⟩
   rw [show (10000 : Nat) = 9999 + 1 from rfl,run_equalIn_array w 9999 xs ys hu hi,hc1,List.range_eq_range',k1]
   exact e1
  ·cases k4
 ·cases g3
theorem lop_bin (hT : TOK P T) {op : BinOp} {t t2 : TypeId} {x y : Operand} (ho : o.op = .binOp op t x y t2) (hs : St c s a w) (h : bin (fun _ => P) t (tkOf T t) s op (ev s x) (ev s y) fun v => K (s.put o.dst v)) : o.wp P a w (Post K c w) Q := by
 have hx := hs.ev x
 have hy := hs.ev y
 have key : ∃ v u,(execOp a.eval o).run P w = .ok (.value v) w ∧ LR c w u v ∧ K (s.put o.dst u) := by
  have hrun : ∀ {v},((do eqGuard op t x y (a.eval x) (a.eval y); binOp op t (a.eval x) (a.eval y)) : Sem Value).run P w = .ok v w → (execOp a.eval o).run P w = .ok (.value v) w := by
   intro v hv
   simp only [execOp,ho]
   rw [Sem.run_bind,hv]
   rfl
  generalize hex : ev s x = lx at *
  generalize hey : ev s y = ly at *
  generalize a.eval x = vx at *
  generalize a.eval y = vy at *
  unfold bin at h
  split at h
  ·rename_i l m
   obtain ⟨xs,hxs⟩ : ∃ xs,vx = .agg xs := by cases hx; exact ⟨_,rfl⟩
   obtain ⟨ys,hys⟩ : ∃ ys,vy = .agg ys := by cases hy; exact ⟨_,rfl⟩
   subst hxs hys
   split at h
   ·obtain ⟨h1,h2,h3⟩ := h
    obtain ⟨b,e1,e2,e3⟩ := agg_eq h1 hx hy
    refine ⟨_,_,hrun (v := .bool b) ?_,LR.of_bool b,?_⟩
    ·rw [Sem.run_bind,run_eqGuard_agg w .eql t x y xs ys e3,Result.andThen_ok,run_eql_struct,e1]; rfl
    ·cases b with
     | true => exact h2 (e2.2 rfl)
     | false => exact h3 (fun h => by cases e2.1 h)
   ·obtain ⟨h1,h2,h3⟩ := h
    obtain ⟨b,e1,e2,e3⟩ := agg_eq h1 hx hy
    refine ⟨_,_,hrun (v := .bool (!b)) ?_,LR.of_bool (!b),?_⟩
    ·rw [Sem.run_bind,run_eqGuard_agg w .neq t x y xs ys e3,Result.andThen_ok,run_neq_struct,e1]; rfl
    ·cases b with
     | true => exact h2 (e2.2 rfl)
     | false => exact h3 (fun h => by cases e2.1 h)
   ·exact h.elim
  ·rename_i k xe k' ye
   split at h
   case h_2 => exact h.elim
   rename_i hkk
   have hkk := of_decide_eq_true hkk
   subst hkk
   cases hx.inv_int; cases hy.inv_int
   revert h
   dsimp only
   split
   all_goals intro h
   ·obtain ⟨z,hL,hr⟩ := ar_sound h P w t x y
    exact ⟨_,_,hrun hr,LR.of_int _ z,hL⟩
   ·obtain ⟨z,hL,hr⟩ := cmp_sound h P w t x y
    exact ⟨_,_,hrun hr,LR.of_bool z,hL⟩
  ·cases hx.inv_str; cases hy.inv_str
   split at h
   ·obtain ⟨h0,h⟩ := need h
    obtain ⟨y,hy,h⟩ := str h
    refine ⟨_,_,hrun (v := .string (y ())) ?_,LR.of_str y,h⟩
    simp [eqGuard,binOp,Op.stringOp,IntKind.max,IntKind.signed,IntKind.bits,hy]
    omega
   ·obtain ⟨z,hz,h⟩ := br h
    refine ⟨_,_,hrun (v := .bool _) ?_,LR.of_bool z,h⟩
    simp [eqGuard,binOp,Op.stringOp]
    rw [str_beq]
    cases z <;> simp_all
   ·obtain ⟨z,hz,h⟩ := br h
    refine ⟨_,_,hrun (v := .bool _) ?_,LR.of_bool z,h⟩
    simp [eqGuard,binOp,Op.stringOp]
    rw [str_beq]
    cases z <;> simp_all
   ·exact h.elim
  ·rename_i b1 b2
   cases hx.inv_bool; cases hy.inv_bool
   split at h
   ·rename_i hk
    obtain ⟨d,hd,hkd⟩ := tk_ok hT (t := t) (by rw [hk]; intro h; cases h)
    rw [hk] at hkd
    cases d <;> first | exact hkd.elim | skip
    split at h
    ·exact ⟨_,_,hrun (v := .bool (b1 == b2)) (by rw [Sem.run_bind,guard0 (by simp) (by simp)]; exact run_eql_bool w t _ _ hd),LR.of_bool _,h⟩
    ·exact ⟨_,_,hrun (v := .bool (b1 != b2)) (by rw [Sem.run_bind,guard0 (by simp) (by simp)]; exact run_neq_bool w t _ _ hd),LR.of_bool _,h⟩
    ·exact h.elim
   ·exact h.elim
  ·rename_i b o'
   split at h
   ·rename_i e hk
    obtain ⟨d,hd,hkd⟩ := tk_ok hT (t := t) (by rw [hk]; intro h; cases h)
    rw [hk] at hkd
    cases d <;> first | exact hkd.elim | skip
    cases hB : hget s.h b with
    | none => rw [hB] at h; exact h.elim
    | some B =>
     rw [hB] at h
     obtain ⟨m,hm,hBR⟩ := hs.hr.live b B hB
     have hvy : vy = .pointer none := by cases hy with | p _ _ h => cases h; rfl
     obtain ⟨ad,hvx⟩ : ∃ ad,vx = .pointer (some ad) := by
      cases hx with
      | ptr _ _ r k hm' _ => exact ⟨_,rfl⟩
      | goneP _ _ _ hm' _ => rw [hm] at hm'; cases hm'
     subst hvx hvy
     dsimp only at h
     split at h
     ·exact ⟨_,_,hrun (v := .bool false) (by rw [Sem.run_bind,guard0 (by simp) (by simp)]; exact run_eql_pointer_nil w t _ (pointee_of hd)),LR.of_bool _,h⟩
     ·exact ⟨_,_,hrun (v := .bool true) (by rw [Sem.run_bind,guard0 (by simp) (by simp)]; exact run_neq_pointer_nil w t _ (pointee_of hd)),LR.of_bool _,h⟩
     ·exact h.elim
   ·exact h.elim
  ·split at h
   ·rename_i e hk
    obtain ⟨d,hd,hkd⟩ := tk_ok hT (t := t) (by rw [hk]; intro h; cases h)
    rw [hk] at hkd
    cases d <;> first | exact hkd.elim | skip
    have hvy : vy = .pointer none := by cases hy with | p _ _ h => cases h; rfl
    have hvx : vx = .pointer none := by cases hx with | p _ _ h => cases h; rfl
    subst hvx hvy
    split at h
    ·exact ⟨_,_,hrun (v := .bool true) (by rw [Sem.run_bind,guard0 (by simp) (by simp)]; exact run_eql_pointer_nil w t _ (pointee_of hd)),LR.of_bool _,h⟩
    ·exact ⟨_,_,hrun (v := .bool false) (by rw [Sem.run_bind,guard0 (by simp) (by simp)]; exact run_neq_pointer_nil w t _ (pointee_of hd)),LR.of_bool _,h⟩
    ·exact h.elim
   ·exact h.elim
  ·exact h.elim
 obtain ⟨v,u,h1,h2,h3⟩ := key
 exact op_val hs h1 h2 h3
end
end Go.LX
namespace Go.LX
open Go
set_option linter.unusedVariables false
set_option maxHeartbeats 32000000
section
variable {P : Program} {T : TT} {c : Ctx} {w : World}
def Rel2 (c : Ctx) (w : World) (l : List LV) (xs : List Value) : Prop := l.length = xs.length ∧ ∀ (j : Nat) (u : LV),l[j]? = some u → ∃ x,xs[j]? = some x ∧ LR c w u x
theorem Rel2.nil : Rel2 c w [] [] := ⟨rfl,fun j u h => by simp at h⟩
theorem Rel2.cons {u : LV} {x : Value} {l : List LV} {xs : List Value} (h : LR c w u x) (k : Rel2 c w l xs) : Rel2 c w (u :: l) (x :: xs) := by
 refine ⟨by simp [k.1],fun j v hj => ?_⟩
 cases j with
 | zero => simp at hj; subst hj; exact ⟨x,rfl,h⟩
 | succ j => simp at hj; obtain ⟨y,h1,h2⟩ := k.2 j v hj; exact ⟨y,by simpa using h1,h2⟩
theorem Rel2.head {u : LV} {l : List LV} {xs : List Value} (h : Rel2 c w (u :: l) xs) : ∃ x ys,xs = x :: ys ∧ LR c w u x ∧ Rel2 c w l ys := by
 cases xs with
 | nil => simp [Rel2] at h
 | cons x ys =>
  obtain ⟨y,h1,h2⟩ := h.2 0 u rfl
  simp at h1; subst h1
  exact ⟨x,ys,rfl,h2,by simpa using h.1,fun j v hj => by obtain ⟨z,h3,h4⟩ := h.2 (j + 1) v (by simpa using hj); exact ⟨z,by simpa using h3,h4⟩⟩
theorem Rel2.getD {l : List LV} {x : Array Value} (h : Rel2 c w l x.toList) : l.length = x.size ∧ ∀ (j : Nat) (u : LV),l[j]? = some u → LR c w u (x.getD j undef) := by
 refine ⟨by simpa using h.1,fun j u hu => ?_⟩
 obtain ⟨y,h1,h2⟩ := h.2 j u hu
 rw [Array.getD_eq_getD_getElem?]
 have : x[j]? = some y := by simpa using h1
 rw [this]; exact h2
theorem Rel2.ofD {l : List LV} {x : Array Value} (h1 : l.length = x.size) (h2 : ∀ (j : Nat) (u : LV),l[j]? = some u → LR c w u (x.getD j undef)) : Rel2 c w l x.toList := by
 refine ⟨by simpa using h1,fun j u hu => ?_⟩
 have hj := (List.getElem?_eq_some_iff.1 hu).1
 have := h2 j u hu
 rw [Array.getD_eq_getD_getElem?] at this
 have hx : x[j]? = some (x[j]'(by omega)) := Array.getElem?_eq_getElem (by omega)
 rw [hx] at this
 exact ⟨_,by simp,this⟩
theorem tok_agg {t : Nat} {ti : TI} (h : TIok P t ti) : (isAgg t).run P w = .ok ti.kind.agg w := by
 obtain ⟨⟨i,z,d,_,_,_,_,_,hu,hk,_⟩,_⟩ := h
 unfold isAgg
 rw [Sem.run_bind,run_underlying hu]
 cases hk' : ti.kind <;> rw [hk'] at hk <;> cases d <;> first | exact hk.elim | rfl
theorem tok_size {t : Nat} {ti : TI} (h : TIok P t ti) : (sizeOf t).run P w = .ok ti.size w := by
 obtain ⟨⟨i,z,d,hi,h1,_⟩,_⟩ := h
 simp [sizeOf,typeInfo,hi,h1]
theorem zero_rel (c : Ctx) (w : World) : ∀ (l : List PV),l.all zok = true → Rel2 c w (pvs l) (l.map PV.toV)
 | [],_ => Rel2.nil
 | v :: l,h => by
  simp only [List.all_cons,Bool.and_eq_true] at h
  refine Rel2.cons (.p _ _ ?_) (zero_rel c w l h.2)
  cases v <;> first | exact .int _ _ _ rfl | exact .bool _ | exact .str _ | exact .nilp | exact .nils | exact .nilif | exact .nilfn | exact .nilm | (exact absurd h.1 (by simp [zok]))
theorem tok_zero {t : Nat} {ti : TI} (h : TIok P t ti) : ∃ z,(zeroValue t).run P w = .ok z w ∧ Rel2 c w (pvs ti.zero) z.cells.toList := by
 obtain ⟨⟨i,z,d,hi,_,_,hz,hc,_⟩,hzs⟩ := h
 refine ⟨z,by simp [zeroValue,typeInfo,hi,hz],?_⟩
 rw [hc]; exact zero_rel c w _ hzs
theorem ofCells_sound {t : Nat} {ti : TI} (hT : TIok P t ti) {vs : List LV} {cs : List Value} {a : Addr} {L : LV → Prop} (hr : Rel2 c w vs cs) (hl : vs.length = ti.size) (hc : ∀ j v,cs[j]? = some v → w.cell? (a.add j) = some v) (h : ofCells ti.kind vs L) :
  ∃ u x,(loadVar t a).run P w = .ok x w ∧ LR c w u x ∧ L u := by
 unfold ofCells at h
 unfold loadVar
 rw [Sem.run_bind,tok_agg hT]
 cases hk : ti.kind.agg with
 | true =>
  rw [hk] at h
  refine ⟨_,.agg cs.toArray,?_,.agg vs cs.toArray (by simp [hr.1]) (Rel2.getD (by simpa using hr)).2,h⟩
  have hlen : ti.size = cs.length := by rw [← hl]; exact hr.1
  simp [tok_size hT,hlen,run_loadCells_list w a cs hc]
 | false =>
  rw [hk] at h
  dsimp only at h
  split at h
  ·obtain ⟨x,ys,rfl,h1,_⟩ := hr.head
   refine ⟨_,x,?_,h1,h⟩
   have h0 : w.cell? a = some x := by simpa [Addr.add] using hc 0 x rfl
   simp [h0]
  ·exact h.elim
theorem pnth_eq : ∀ (l : List PV) (i : Nat),pnth l i = l[i]?
 | [],i => by cases i <;> rfl
 | x :: l,0 => rfl
 | x :: l,i + 1 => by rw [pnth,pnth_eq l i]; rfl
theorem lnth_eq : ∀ (l : List LV) (i : Nat),lnth l i = l[i]?
 | [],i => by cases i <;> rfl
 | x :: l,0 => rfl
 | x :: l,i + 1 => by rw [lnth,lnth_eq l i]; rfl
theorem cell {l : Unit → List PV} {i : Unit → Int} {L : PV → Prop} (h : Cell l i L) : ∃ v,(l ())[(i ()).toNat]? = some v ∧ L v := by
 cases h with | mk v h k => exact ⟨v,h,k⟩
theorem cellAt_sound {sy : Bool} {l : List PV} {o : I} {j n : Nat} {L : PV → Prop} (ho : o.val = n) (h : cellAt sy l o j L) : ∃ v,l[n + j]? = some v ∧ L v := by
 unfold cellAt at h
 cases sy with
 | false =>
  cases o with
  | lit m =>
   dsimp only at h
   rw [pnth_eq] at h
   simp only [I.val] at ho
   subst ho
   rw [Int.toNat_natCast] at h
   cases e : l[n + j]? with
   | none => rw [e] at h; exact h.elim
   | some v => rw [e] at h; exact ⟨v,rfl,h⟩
  | sym m =>
   obtain ⟨v,h1,h2⟩ := cell h
   simp only [I.val] at ho
   refine ⟨v,?_,h2⟩
   rw [← h1]; congr 1; omega
 | true =>
  obtain ⟨v,h1,h2⟩ := cell h
  refine ⟨v,?_,h2⟩
  rw [← h1,ho]; congr 1
theorem getP_sound {sy : Bool} {l : List PV} {o : I} {n : Nat} (ho : o.val = n) : ∀ (k j : Nat) {L : List LV → Prop},getP sy l o k j L → ∃ us : List PV,us.length = k ∧ (∀ i,i < k → l[n + j + i]? = us[i]?) ∧ L (pvs us)
 | 0,j,L,h => ⟨[],rfl,fun i hi => by omega,h⟩
 | k + 1,j,L,h => by
  obtain ⟨v,h1,h2⟩ := cellAt_sound ho h
  obtain ⟨us,h3,h4,h5⟩ := getP_sound ho k (j + 1) h2
  refine ⟨v :: us,by simp [h3],fun i hi => ?_,h5⟩
  cases i with
  | zero => simpa using h1
  | succ i => rw [List.getElem?_cons_succ,← h4 i (by omega)]; congr 1; omega
theorem getM_sound {l : List LV} : ∀ (k o : Nat) {vs : List LV},getM l o k = some vs → vs.length = k ∧ ∀ i,i < k → l[o + i]? = vs[i]?
 | 0,o,vs,h => by cases h; exact ⟨rfl,fun i hi => by omega⟩
 | k + 1,o,vs,h => by
  rw [getM,lnth_eq] at h
  cases e : l[o]? with
  | none => rw [e] at h; cases h
  | some v =>
   rw [e] at h
   dsimp only at h
   cases e2 : getM l (o + 1) k with
   | none => rw [e2] at h; cases h
   | some us =>
    rw [e2] at h; cases h
    obtain ⟨h1,h2⟩ := getM_sound k (o + 1) e2
    refine ⟨by simp [h1],fun i hi => ?_⟩
    cases i with
    | zero => simpa using e
    | succ i => rw [List.getElem?_cons_succ,← h2 i (by omega)]; congr 1; omega
theorem pvs_length : ∀ l : List PV,(pvs l).length = l.length
 | [] => rfl
 | _ :: l => by simp [pvs,pvs_length l]
theorem pvs_get : ∀ (l : List PV) (i : Nat),(pvs l)[i]? = l[i]?.map .p
 | [],i => by cases i <;> rfl
 | x :: l,0 => rfl
 | x :: l,i + 1 => by simp [pvs,pvs_get l i]
theorem cells_at {r n : Nat} {cur : Array Value} {ty : TypeId} (hg : w.heap[r]? = some (.cells cur ty (0,0))) (k : Nat) (hk : n + k ≤ cur.size) :
  ∀ j v,((cur.toList.drop n).take k)[j]? = some v → w.cell? ((⟨r,n,none⟩ : Addr).add j) = some v := by
 intro j v hj
 rw [add_lit]
 simp only [World.cell?,hg]
 rw [List.getElem?_take] at hj
 split at hj
 ·rw [List.getElem?_drop] at hj
  simpa using hj
 ·cases hj
theorem loadB_sound0 {t : Nat} {ti : TI} (hT : TIok P t ti) {B : LB} {o : I} {r n : Nat} {L : LV → Prop} (hB : BR c w B (some r)) (hnb : ∀ t l,B ≠ .bld t l) (ho : o.val = n) (h : loadB B o ti L) :
  ∃ u x,(loadVar t ⟨r,n,none⟩).run P w = .ok x w ∧ LR c w u x ∧ L u := by
 cases B with
 | pure sy l =>
  obtain ⟨cur,ty,hg,hle,hrel⟩ := hB
  obtain ⟨us,h1,h2,h3⟩ := getP_sound ho _ _ h
  have hb : n + ti.size ≤ cur.size ∨ ti.size = 0 := by
   rcases Nat.eq_zero_or_pos ti.size with e | e
   ·exact .inr e
   ·left
    have h4 := h2 (ti.size - 1) (by omega)
    rw [List.getElem?_eq_getElem (by omega : ti.size - 1 < us.length)] at h4
    have := (List.getElem?_eq_some_iff.1 h4).1
    omega
  have hr : Rel2 c w (pvs us) ((cur.toList.drop n).take ti.size) := by
   refine ⟨?_,fun j u hu => ?_⟩
   ·rw [pvs_length,h1,List.length_take,List.length_drop,Array.length_toList]
    rcases hb with hb | hb <;> omega
   ·rw [pvs_get] at hu
    cases e : us[j]? with
    | none => rw [e] at hu; cases hu
    | some v =>
     rw [e] at hu; cases hu
     have hj : j < ti.size := by rw [← h1]; exact (List.getElem?_eq_some_iff.1 e).1
     have hlj := h2 j hj
     rw [e,Nat.add_zero] at hlj
     have hlt := (List.getElem?_eq_some_iff.1 hlj).1
     have hc : cur[n + j]? = some (cur[n + j]'(by omega)) := Array.getElem?_eq_getElem (by omega)
     refine ⟨cur[n + j]'(by omega),?_,.p _ _ ?_⟩
     ·rw [List.getElem?_take,if_pos hj,List.getElem?_drop]; simp
     ·have := hrel (n + j) v hlj
      rwa [Array.getD_eq_getD_getElem?,hc] at this
  refine ofCells_sound hT hr (by rw [pvs_length,h1]) ?_ h3
  intro j v hj
  rcases hb with hb | hb
  ·exact cells_at hg _ hb j v hj
  ·rw [hb] at hj; simp at hj
 | mix l =>
  obtain ⟨cur,ty,hg,hle,hrel⟩ := hB
  unfold loadB at h
  have key : (match getM l n ti.size with | some vs => ofCells ti.kind vs L | none => False) → ∃ u x,(loadVar t ⟨r,n,none⟩).run P w = .ok x w ∧ LR c w u x ∧ L u := by
   intro h
   cases e : getM l n ti.size with
   | none => rw [e] at h; exact h.elim
   | some vs =>
    rw [e] at h
    obtain ⟨h1,h2⟩ := getM_sound _ _ e
    have hb : n + ti.size ≤ cur.size ∨ ti.size = 0 := by
     rcases Nat.eq_zero_or_pos ti.size with e | e
     ·exact .inr e
     ·left
      have h4 := h2 (ti.size - 1) (by omega)
      rw [List.getElem?_eq_getElem (by omega : ti.size - 1 < vs.length)] at h4
      have := (List.getElem?_eq_some_iff.1 h4).1
      omega
    have hr : Rel2 c w vs ((cur.toList.drop n).take ti.size) := by
     refine ⟨?_,fun j u hu => ?_⟩
     ·rw [h1,List.length_take,List.length_drop,Array.length_toList]
      rcases hb with hb | hb <;> omega
     ·have hj : j < ti.size := by rw [← h1]; exact (List.getElem?_eq_some_iff.1 hu).1
      have hlj := h2 j hj
      rw [hu] at hlj
      have hlt := (List.getElem?_eq_some_iff.1 hlj).1
      have hc : cur[n + j]? = some (cur[n + j]'(by omega)) := Array.getElem?_eq_getElem (by omega)
      refine ⟨cur[n + j]'(by omega),?_,?_⟩
      ·rw [List.getElem?_take,if_pos hj,List.getElem?_drop]; simp
      ·have := hrel (n + j) u hlj
       rwa [Array.getD_eq_getD_getElem?,hc] at this
    refine ofCells_sound hT hr h1 ?_ h
    intro j v hj
    rcases hb with hb | hb
    ·exact cells_at hg _ hb j v hj
    ·rw [hb] at hj; simp at hj
  cases o with
  | sym m =>
   cases h with
   | mk j hj hk =>
    have : j = n := by have hj : m = (j : Int) := hj; have ho : m = (n : Int) := ho; omega
    subst this
    exact key hk
  | lit m =>
   simp only [I.val] at ho
   subst ho
   dsimp only at h
   rw [Int.toNat_natCast] at h
   exact key h
 | iter s pos => exact h.elim
 | set l => exact h.elim
 | kv l vs => exact h.elim
 | frz l => exact h.elim
 | fix g o => exact h.elim
 | bld t l => exact absurd rfl (hnb t l)
theorem getM_cons {x : LV} {l : List LV} : ∀ {k n : Nat},getM (x :: l) (n + 1) k = getM l n k
 | 0,n => by rw [getM,getM]
 | k + 1,n => by rw [getM,getM,lnth,getM_cons (k := k)]
theorem BR.bmix {t r : Nat} {l : List LV} (h : BR c w (.bld t l) (some r)) : BR c w (.mix (.undef :: l)) (some r) := by
 obtain ⟨cur,h1,h2,_,h3⟩ := h
 refine ⟨cur,t,h1,by rw [List.length_cons]; omega,fun j u hu => ?_⟩
 cases j with
 | zero => simp at hu; subst hu; exact .undef _
 | succ j => rw [List.getElem?_cons_succ] at hu; exact h3 j u hu
theorem loadB_sound {t : Nat} {ti : TI} (hT : TIok P t ti) {B : LB} {o : I} {r n : Nat} {L : LV → Prop} (hB : BR c w B (some r)) (ho : o.val = n) (h : loadB B o ti L) :
  ∃ u x,(loadVar t ⟨r,n,none⟩).run P w = .ok x w ∧ LR c w u x ∧ L u := by
 cases B with
 | bld b l =>
  refine loadB_sound0 hT hB.bmix (fun _ _ e => by cases e) ho ?_
  simp only [loadB] at h
  split at h
  ·rename_i m
   show (match getM (.undef :: l) (m + 1) ti.size with | some vs => ofCells ti.kind vs L | none => False)
   rw [getM_cons]; exact h
  ·exact h.elim
 | pure sy l => exact loadB_sound0 hT hB (fun _ _ e => by cases e) ho h
 | mix l => exact loadB_sound0 hT hB (fun _ _ e => by cases e) ho h
 | iter s pos => exact loadB_sound0 hT hB (fun _ _ e => by cases e) ho h
 | set l => exact loadB_sound0 hT hB (fun _ _ e => by cases e) ho h
 | kv l vs => exact loadB_sound0 hT hB (fun _ _ e => by cases e) ho h
 | frz l => exact loadB_sound0 hT hB (fun _ _ e => by cases e) ho h
 | fix g o => exact loadB_sound0 hT hB (fun _ _ e => by cases e) ho h
theorem okc_one {u : LV} {x : Value} (h : LR c w u x) (hu : okc u = true) : x.oneCell' = true := by
 cases h with
 | p v x hp => cases hp <;> first | rfl | assumption
 | ptr => rfl
 | goneP => rfl
 | sl => rfl
 | slv => rfl
 | slz => rfl
 | goneS => rfl
 | sla => exact absurd hu (by simp [okc])
 | goneA => exact absurd hu (by simp [okc])
 | mp => exact absurd hu (by simp [okc])
 | goneM => exact absurd hu (by simp [okc])
 | agg => exact absurd hu (by simp [okc])
 | tup => exact absurd hu (by simp [okc])
 | iface => rfl
 | fn => rfl
 | nul => exact absurd hu (by simp [okc])
 | undef => exact absurd hu (by simp [okc])
theorem allOk_mem : ∀ {l : List LV},allOk l = true → ∀ u ∈ l,okc u = true
 | [],_,u,hu => by cases hu
 | v :: l,h,u,hu => by
  rw [allOk] at h
  cases e : okc v with
  | false => rw [e] at h; cases h
  | true =>
   rw [e] at h
   rcases List.mem_cons.1 hu with rfl | hu
   ·exact e
   ·exact allOk_mem h u hu
theorem Rel2.ones {l : List LV} {xs : List Value} (h : Rel2 c w l xs) (hk : allOk l = true) : ∀ x ∈ xs,x.oneCell' = true := by
 intro x hx
 obtain ⟨j,hj⟩ := List.getElem?_of_mem hx
 have hjl : j < l.length := by rw [h.1]; exact (List.getElem?_eq_some_iff.1 hj).1
 obtain ⟨y,h1,h2⟩ := h.2 j _ (List.getElem?_eq_getElem hjl)
 rw [hj] at h1; cases h1
 exact okc_one h2 (allOk_mem hk _ (List.getElem_mem hjl))
theorem cells_rel {u : LV} {x : Value} (h : LR c w u x) (hk : allOk (cellsL u) = true) : Rel2 c w (cellsL u) x.cells.toList := by
 cases h with
 | agg l x hl hr => exact Rel2.ofD hl hr
 | p v x hp =>
  have h1 := okc_one (.p v x hp) (allOk_mem hk _ (List.mem_singleton.2 rfl))
  have : x.cells = #[x] := by cases x <;> first | rfl | cases h1
  rw [this]; exact Rel2.cons (.p v x hp) Rel2.nil
 | tup l x hl hr => exact absurd hk (by simp [cellsL,allOk,okc])
 | sla => exact absurd hk (by simp [cellsL,allOk,okc])
 | goneA => exact absurd hk (by simp [cellsL,allOk,okc])
 | mp => exact absurd hk (by simp [cellsL,allOk,okc])
 | goneM => exact absurd hk (by simp [cellsL,allOk,okc])
 | nul => exact absurd hk (by simp [cellsL,allOk,okc])
 | undef => exact absurd hk (by simp [cellsL,allOk,okc])
 | ptr b o r k hm ho => exact Rel2.cons (.ptr b o r k hm ho) Rel2.nil
 | goneP b o a hm hb => exact Rel2.cons (.goneP b o a hm hb) Rel2.nil
 | sl b e sz o n r j k cp tot hm ho hn hk' hc hs ht => exact Rel2.cons (.sl b e sz o n r j k cp tot hm ho hn hk' hc hs ht) Rel2.nil
 | slv b e sz o n hm ho hn => exact Rel2.cons (.slv b e sz o n hm ho hn) Rel2.nil
 | slz b e sz o n a r tot hm ho hn hs h0 => exact Rel2.cons (.slz b e sz o n a r tot hm ho hn hs h0) Rel2.nil
 | goneS b e sz o n a k cp hm hb => exact Rel2.cons (.goneS b e sz o n a k cp hm hb) Rel2.nil
 | iface t v x h => exact Rel2.cons (.iface t v x h) Rel2.nil
 | fn f l x hl h => exact Rel2.cons (.fn f l x hl h) Rel2.nil
theorem llen_eq : ∀ l : List LV,llen l = l.length
 | [] => rfl
 | _ :: l => by simp [llen,llen_eq l]
def over {α : Type} (l : List α) (n : Nat) (us : List α) : List α := l.take n ++ us ++ l.drop (n + us.length)
theorem over_get {α : Type} (l us : List α) (n : Nat) (h : n + us.length ≤ l.length) (j : Nat) : (over l n us)[j]? = if j < n then l[j]? else if j < n + us.length then us[j - n]? else l[j]? := by
 unfold over
 by_cases h1 : j < n
 ·rw [if_pos h1,List.append_assoc,List.getElem?_append_left (by rw [List.length_take]; omega),List.getElem?_take,if_pos h1]
 ·rw [if_neg h1]
  have hl : (l.take n).length = n := by rw [List.length_take]; omega
  by_cases h2 : j < n + us.length
  ·rw [if_pos h2,List.getElem?_append_left (by rw [List.length_append,hl]; omega),List.getElem?_append_right (by omega),hl]
  ·rw [if_neg h2,List.getElem?_append_right (by rw [List.length_append,hl]; omega),List.length_append,hl,List.getElem?_drop]
   congr 1; omega
theorem over_length {α : Type} (l us : List α) (n : Nat) (h : n + us.length ≤ l.length) : (over l n us).length = l.length := by
 unfold over; simp only [List.length_append,List.length_take,List.length_drop]; omega
theorem set_over {α : Type} (l us : List α) (u : α) (n : Nat) (h : n + (us.length + 1) ≤ l.length) : over (l.set n u) (n + 1) us = over l n (u :: us) := by
 apply List.ext_getElem?
 intro j
 rw [over_get _ _ _ (by simp; omega),over_get _ _ _ (by simpa using h),List.getElem?_set]
 simp only [List.length_cons]
 by_cases h1 : j < n
 ·rw [if_pos (by omega),if_neg (by omega),if_pos h1]
 ·by_cases h2 : j = n
  ·subst h2; rw [if_pos (by omega),if_pos rfl,if_pos (by omega),if_neg h1,if_pos (by omega)]; simp
  ·rw [if_neg (by omega : ¬ j < n + 1),if_neg h1]
   by_cases h3 : j < n + 1 + us.length
   ·rw [if_pos h3,if_pos (by omega)]
    have : j - n = (j - (n + 1)) + 1 := by omega
    rw [this,List.getElem?_cons_succ]
   ·rw [if_neg h3,if_neg (by omega),if_neg (by omega)]
theorem updL_eq : ∀ (us : List PV) (l : List PV) (n : Nat),n + us.length ≤ l.length → updL l n us = over l n us
 | [],l,n,h => by simp [updL,over]
 | u :: us,l,n,h => by
  rw [updL,updL_eq us (l.set n u) (n + 1) (by simp at h ⊢; omega),set_over l us u n (by simpa using h)]
theorem psetO_eq : ∀ (l : List PV) (n : Nat) (v : PV) {l' : List PV},psetO l n v = some l' → n < l.length ∧ l' = l.set n v
 | [],n,v,l',h => by cases n <;> cases h
 | x :: l,0,v,l',h => by cases h; exact ⟨by simp,rfl⟩
 | x :: l,n + 1,v,l',h => by
  rw [psetO] at h
  cases e : psetO l n v with
  | none => rw [e] at h; cases h
  | some m =>
   rw [e] at h; cases h
   obtain ⟨h1,h2⟩ := psetO_eq l n v e
   exact ⟨by simp; omega,by rw [h2]; rfl⟩
theorem lsetO_eq : ∀ (l : List LV) (n : Nat) (v : LV) {l' : List LV},lsetO l n v = some l' → n < l.length ∧ l' = l.set n v
 | [],n,v,l',h => by cases n <;> cases h
 | x :: l,0,v,l',h => by cases h; exact ⟨by simp,rfl⟩
 | x :: l,n + 1,v,l',h => by
  rw [lsetO] at h
  cases e : lsetO l n v with
  | none => rw [e] at h; cases h
  | some m =>
   rw [e] at h; cases h
   obtain ⟨h1,h2⟩ := lsetO_eq l n v e
   exact ⟨by simp; omega,by rw [h2]; rfl⟩
theorem putP_eq : ∀ (us l : List PV) (n : Nat) {l' : List PV},putP l n us = some l' → n ≤ l.length → n + us.length ≤ l.length ∧ l' = over l n us
 | [],l,n,l',h,hn => by cases h; exact ⟨by simpa using hn,by simp [over]⟩
 | u :: us,l,n,l',h,hn => by
  rw [putP] at h
  cases e : psetO l n u with
  | none => rw [e] at h; cases h
  | some m =>
   rw [e] at h
   obtain ⟨h1,h2⟩ := psetO_eq l n u e
   subst h2
   obtain ⟨h3,h4⟩ := putP_eq us _ (n + 1) h (by simp; omega)
   simp at h3
   exact ⟨by simp; omega,by rw [h4,set_over l us u n (by omega)]⟩
theorem putM_eq : ∀ (us l : List LV) (n : Nat) {l' : List LV},putM l n us = some l' → n ≤ l.length → n + us.length ≤ l.length ∧ l' = over l n us
 | [],l,n,l',h,hn => by cases h; exact ⟨by simpa using hn,by simp [over]⟩
 | u :: us,l,n,l',h,hn => by
  rw [putM] at h
  cases e : lsetO l n u with
  | none => rw [e] at h; cases h
  | some m =>
   rw [e] at h
   obtain ⟨h1,h2⟩ := lsetO_eq l n u e
   subst h2
   obtain ⟨h3,h4⟩ := putM_eq us _ (n + 1) h (by simp; omega)
   simp at h3
   exact ⟨by simp; omega,by rw [h4,set_over l us u n (by omega)]⟩
theorem allP_eq : ∀ (l : List LV) {us : List PV},allP l = some us → l = pvs us
 | [],us,h => by cases h; rfl
 | v :: l,us,h => by
  cases v <;> try (cases h; done)
  rw [allP] at h
  cases e : allP l with
  | none => rw [e] at h; cases h
  | some m => rw [e] at h; cases h; rw [pvs,allP_eq l e]
theorem turn_row {r : Nat} {cur cs : Array Value} {ty : TypeId} (hg : w.heap[r]? = some (.cells cur ty (0,0))) (hs : cs.size = cur.size) : Turn w (w.setRow r cs) r := by
 refine ⟨rfl,rfl,rfl,by simp,fun k hk => setRow_other w r k cs hk,?_⟩
 simp only [World.shape?,setRow_heap w r cur cs ty (0,0) hg,hg,hs]
theorem storeB_sound {h : LH} {B : LB} {b r n : Nat} {o : I} {vs : List LV} {xs : List Value} {L : LB → Prop} (hr : HR c w h) (hb : hget h b = some B) (hm : c.m b = some (some r)) (hB : BR c w B (some r)) (ho : o.val = n) (hv : Rel2 c w vs xs) (hz : 0 < vs.length)
  (hk : storeB B o vs L) : ∃ B' cur ty,L B' ∧ w.heap[r]? = some (.cells cur ty (0,0)) ∧ n + xs.length ≤ cur.size ∧ allOk vs = true ∧ Turn w (w.setRow r (over cur.toList n xs).toArray) r ∧ BR c (w.setRow r (over cur.toList n xs).toArray) B' (some r) := by
 unfold storeB at hk
 cases hok : allOk vs with
 | false => rw [hok] at hk; exact hk.elim
 | true =>
  rw [hok] at hk
  dsimp only at hk
  have pureCase : ∀ sy l us sy',B = .pure sy l → vs = pvs us → n + us.length ≤ l.length → L (.pure sy' (over l n us)) → ∃ B' cur ty,L B' ∧ w.heap[r]? = some (.cells cur ty (0,0)) ∧ n + xs.length ≤ cur.size ∧ true = true ∧ Turn w (w.setRow r (over cur.toList n xs).toArray) r ∧ BR c (w.setRow r (over cur.toList n xs).toArray) B' (some r) := by
   intro sy l us sy' e1 e2 hn hL
   subst e1 e2
   obtain ⟨cur,ty,hg,hle,hrel⟩ := hB
   have hxl : xs.length = us.length := by rw [← hv.1,pvs_length]
   have hnx : n + xs.length ≤ cur.size := by omega
   have ht := turn_row (w := w) (cs := (over cur.toList n xs).toArray) hg (by rw [List.size_toArray,over_length _ _ _ (by simpa using hnx),Array.length_toList])
   have he := Ext.turn hr hm ht
   refine ⟨_,cur,ty,hL,hg,hnx,rfl,ht,_,ty,setRow_heap w r cur _ ty (0,0) hg,?_,fun j u hu => ?_⟩
   ·rw [over_length _ _ _ hn,List.size_toArray,over_length _ _ _ (by simpa using hnx),Array.length_toList]; exact hle
   ·refine PR.ext hr.fresh he ?_
    rw [over_get _ _ _ hn] at hu
    rw [Array.getD_eq_getD_getElem?,List.getElem?_toArray,over_get _ _ _ (by simpa using hnx),hxl]
    by_cases h1 : j < n
    ·rw [if_pos h1] at hu ⊢
     have := hrel j u hu
     rwa [Array.getD_eq_getD_getElem?,← Array.getElem?_toList] at this
    ·rw [if_neg h1] at hu ⊢
     by_cases h2 : j < n + us.length
     ·rw [if_pos h2] at hu ⊢
      obtain ⟨x,h3,h4⟩ := hv.2 (j - n) (.p u) (by rw [pvs_get,hu]; rfl)
      rw [h3]
      cases h4 with | p _ _ h => exact h
     ·rw [if_neg h2] at hu ⊢
      have := hrel j u hu
      rwa [Array.getD_eq_getD_getElem?,← Array.getElem?_toList] at this
  have mixCase : ∀ l l0,(B = .mix l ∨ ∃ sy,B = .pure sy l0 ∧ l = pvs l0) → n + vs.length ≤ l.length → L (.mix (over l n vs)) → ∃ B' cur ty,L B' ∧ w.heap[r]? = some (.cells cur ty (0,0)) ∧ n + xs.length ≤ cur.size ∧ true = true ∧ Turn w (w.setRow r (over cur.toList n xs).toArray) r ∧ BR c (w.setRow r (over cur.toList n xs).toArray) B' (some r) := by
   intro l l0 e1 hn hL
   have hB' : ∃ cur ty,w.heap[r]? = some (.cells cur ty (0,0)) ∧ l.length ≤ cur.size ∧ ∀ (j : Nat) (u : LV),l[j]? = some u → LR c w u (cur.getD j undef) := by
    rcases e1 with rfl | ⟨sy,rfl,rfl⟩
    ·exact hB
    ·obtain ⟨cur,ty,h1,h2,h3⟩ := hB
     refine ⟨cur,ty,h1,by rw [pvs_length]; exact h2,fun j u hu => ?_⟩
     rw [pvs_get] at hu
     cases e : l0[j]? with
     | none => rw [e] at hu; cases hu
     | some v => rw [e] at hu; cases hu; exact .p _ _ (h3 j v e)
   obtain ⟨cur,ty,hg,hle,hrel⟩ := hB'
   have hxl : xs.length = vs.length := hv.1.symm
   have hnx : n + xs.length ≤ cur.size := by omega
   have ht := turn_row (w := w) (cs := (over cur.toList n xs).toArray) hg (by rw [List.size_toArray,over_length _ _ _ (by simpa using hnx),Array.length_toList])
   have he := Ext.turn hr hm ht
   refine ⟨_,cur,ty,hL,hg,hnx,rfl,ht,_,ty,setRow_heap w r cur _ ty (0,0) hg,?_,fun j u hu => ?_⟩
   ·rw [over_length _ _ _ hn,List.size_toArray,over_length _ _ _ (by simpa using hnx),Array.length_toList]; exact hle
   ·refine LR.ext hr.fresh he ?_
    rw [over_get _ _ _ hn] at hu
    rw [Array.getD_eq_getD_getElem?,List.getElem?_toArray,over_get _ _ _ (by simpa using hnx),hxl]
    by_cases h1 : j < n
    ·rw [if_pos h1] at hu ⊢
     have := hrel j u hu
     rwa [Array.getD_eq_getD_getElem?,← Array.getElem?_toList] at this
    ·rw [if_neg h1] at hu ⊢
     by_cases h2 : j < n + vs.length
     ·rw [if_pos h2] at hu ⊢
      obtain ⟨x,h3,h4⟩ := hv.2 (j - n) u hu
      rw [h3]; exact h4
     ·rw [if_neg h2] at hu ⊢
      have := hrel j u hu
      rwa [Array.getD_eq_getD_getElem?,← Array.getElem?_toList] at this
  have small : ∀ {l : List PV} {us : List PV} {l'},putP l n us = some l' → 0 < us.length → n ≤ l.length := by
   intro l us l' h0 hp
   cases us with
   | nil => simp at hp
   | cons u us =>
    rw [putP] at h0
    cases e : psetO l n u with
    | none => rw [e] at h0; cases h0
    | some m => have := (psetO_eq l n u e).1; omega
  have smallM : ∀ {l : List LV} {us : List LV} {l'},putM l n us = some l' → 0 < us.length → n ≤ l.length := by
   intro l us l' h0 hp
   cases us with
   | nil => simp at hp
   | cons u us =>
    rw [putM] at h0
    cases e : lsetO l n u with
    | none => rw [e] at h0; cases h0
    | some m => have := (lsetO_eq l n u e).1; omega
  cases B with
  | pure sy l =>
   dsimp only at hk
   cases hp : allP vs with
   | some us =>
    rw [hp] at hk
    have e2 := allP_eq vs hp
    have hlen : us.length = vs.length := by rw [e2,pvs_length]
    cases sy with
    | false =>
     cases o with
     | lit m =>
      simp only [I.val] at ho
      subst ho
      dsimp only at hk
      rw [Int.toNat_natCast] at hk
      cases e : putP l n us with
      | none => rw [e] at hk; exact hk.elim
      | some l' =>
       rw [e] at hk
       obtain ⟨h1,h2⟩ := putP_eq us l n e (small e (by omega))
       subst h2
       exact pureCase _ l us _ rfl e2 h1 hk
     | sym m =>
      obtain ⟨h1,h2⟩ := need hk
      simp only [I.val] at ho
      subst ho
      have h2 := upd h2
      rw [Int.toNat_natCast,updL_eq us l n (by omega)] at h2
      exact pureCase _ l us _ rfl e2 (by omega) h2
    | true =>
     obtain ⟨h1,h2⟩ := need hk
     rw [ho] at h1
     have h2 := upd h2
     rw [ho,Int.toNat_natCast,updL_eq us l n (by omega)] at h2
     exact pureCase _ l us _ rfl e2 (by omega) h2
   | none =>
    rw [hp] at hk
    cases sy with
    | true => exact hk.elim
    | false =>
     cases o with
     | sym m =>
      cases hk with
      | mk j hj hk =>
       have hjn : j = n := by have hj : m = (j : Int) := hj; have ho : m = (n : Int) := ho; omega
       subst hjn
       cases e : putM (pvs l) j vs with
       | none => rw [e] at hk; exact hk.elim
       | some l' =>
        rw [e] at hk
        obtain ⟨h1,h2⟩ := putM_eq vs (pvs l) j e (smallM e hz)
        subst h2
        exact mixCase _ l (.inr ⟨_,rfl,rfl⟩) h1 hk
     | lit m =>
      simp only [I.val] at ho
      subst ho
      dsimp only at hk
      rw [Int.toNat_natCast] at hk
      cases e : putM (pvs l) n vs with
      | none => rw [e] at hk; exact hk.elim
      | some l' =>
       rw [e] at hk
       obtain ⟨h1,h2⟩ := putM_eq vs (pvs l) n e (smallM e hz)
       subst h2
       exact mixCase _ l (.inr ⟨_,rfl,rfl⟩) h1 hk
  | mix l =>
   cases o with
   | sym m =>
    cases hk with
    | mk j hj hk =>
     have hjn : j = n := by have hj : m = (j : Int) := hj; have ho : m = (n : Int) := ho; omega
     subst hjn
     cases e : putM l j vs with
     | none => rw [e] at hk; exact hk.elim
     | some l' =>
      rw [e] at hk
      obtain ⟨h1,h2⟩ := putM_eq vs l j e (smallM e hz)
      subst h2
      exact mixCase l [] (.inl rfl) h1 hk
   | lit m =>
    simp only [I.val] at ho
    subst ho
    dsimp only at hk
    rw [Int.toNat_natCast] at hk
    cases e : putM l n vs with
    | none => rw [e] at hk; exact hk.elim
    | some l' =>
     rw [e] at hk
     obtain ⟨h1,h2⟩ := putM_eq vs l n e (smallM e hz)
     subst h2
     exact mixCase l [] (.inl rfl) h1 hk
  | iter s pos => exact hk.elim
  | set l => exact hk.elim
  | kv l vs => exact hk.elim
  | frz l => exact hk.elim
  | fix g o => exact hk.elim
  | bld t l =>
   obtain ⟨cur,hg,hle,h0,hrel⟩ := hB
   dsimp only at hk
   split at hk
   ·rename_i m
    cases e : putM l m vs with
    | none => rw [e] at hk; exact hk.elim
    | some l' =>
     rw [e] at hk
     have ho : m + 1 = n := by simpa [I.val] using Int.ofNat.inj ho
     subst ho
     obtain ⟨h1,h2⟩ := putM_eq vs l m e (by
      cases vs with
      | nil => simp at hz
      | cons u us =>
       rw [putM] at e
       cases e2 : lsetO l m u with
       | none => rw [e2] at e; cases e
       | some m2 => have := (lsetO_eq l m u e2).1; omega)
     subst h2
     have hxl : xs.length = vs.length := hv.1.symm
     have hnx : m + 1 + xs.length ≤ cur.size := by omega
     have ht := turn_row (w := w) (cs := (over cur.toList (m + 1) xs).toArray) hg (by rw [List.size_toArray,over_length _ _ _ (by simpa using hnx),Array.length_toList])
     have he := Ext.turn hr hm ht
     refine ⟨_,cur,t,hk,hg,hnx,rfl,ht,_,setRow_heap w r cur _ t (0,0) hg,?_,?_,fun j u hu => ?_⟩
     ·rw [over_length _ _ _ h1,List.size_toArray,over_length _ _ _ (by simpa using hnx),Array.length_toList]; exact hle
     ·rw [Array.getD_eq_getD_getElem?,List.getElem?_toArray,over_get _ _ _ (by simpa using hnx),if_pos (Nat.succ_pos m),Array.getElem?_toList,← Array.getD_eq_getD_getElem?]
      exact h0
     ·refine LR.ext hr.fresh he ?_
      rw [over_get _ _ _ h1] at hu
      rw [Array.getD_eq_getD_getElem?,List.getElem?_toArray,over_get _ _ _ (by simpa using hnx),hxl]
      by_cases h1 : j < m
      ·rw [if_pos h1] at hu
       rw [if_pos (by omega)]
       have := hrel j u hu
       rwa [Array.getD_eq_getD_getElem?,← Array.getElem?_toList] at this
      ·rw [if_neg h1] at hu
       rw [if_neg (by omega)]
       by_cases h2 : j < m + vs.length
       ·rw [if_pos h2] at hu
        rw [if_pos (by omega)]
        obtain ⟨x,h3,h4⟩ := hv.2 (j - m) u hu
        have : j + 1 - (m + 1) = j - m := by omega
        rw [this,h3]; exact h4
       ·rw [if_neg h2] at hu
        rw [if_neg (by omega)]
        have := hrel j u hu
        rwa [Array.getD_eq_getD_getElem?,← Array.getElem?_toList] at this
   ·split at hk
    ·have ho : 0 = n := by simpa [I.val] using Int.ofNat.inj ho
     subst ho
     obtain ⟨x,xs',rfl,hx,hv'⟩ := hv.head
     have hxs : xs' = [] := List.eq_nil_of_length_eq_zero hv'.1.symm
     subst hxs
     have hxn : x = .pointer none := by cases hx with | p _ _ hp => cases hp; rfl
     subst hxn
     have hnx : 0 + [Value.pointer none].length ≤ cur.size := by simp; omega
     have ht := turn_row (w := w) (cs := (over cur.toList 0 [Value.pointer none]).toArray) hg (by rw [List.size_toArray,over_length _ _ _ (by simpa using hnx),Array.length_toList])
     have he := Ext.turn hr hm ht
     refine ⟨_,cur,t,hk,hg,hnx,rfl,ht,_,setRow_heap w r cur _ t (0,0) hg,?_,.inl ?_,fun j u hu => ?_⟩
     ·rw [List.size_toArray,over_length _ _ _ (by simpa using hnx),Array.length_toList]; exact hle
     ·rw [Array.getD_eq_getD_getElem?,List.getElem?_toArray,over_get _ _ _ (by simpa using hnx)]; rfl
     ·refine LR.ext hr.fresh he ?_
      rw [Array.getD_eq_getD_getElem?,List.getElem?_toArray,over_get _ _ _ (by simpa using hnx),if_neg (by omega),if_neg (by simp)]
      have := hrel j u hu
      rwa [Array.getD_eq_getD_getElem?,← Array.getElem?_toList] at this
    ·exact hk.elim
   ·exact hk.elim
end
end Go.LX
namespace Go.LX
open Go
set_option maxHeartbeats 32000000
section
variable {P : Program} {T : TT} {o : Oper} {s : LS} {K : LS → Prop} {c : Ctx} {a : Act} {w w' : World} {Q : Exit → Act → World → Prop}
theorem runv {sm : Sem Value} {x : Value} (h : sm.run P w = .ok x w') : ((do pure (Next.value (← sm))) : Sem Next).run P w = .ok (.value x) w' := by
 rw [Sem.run_bind,h]; rfl
theorem runu {sm : Sem Unit} (h : sm.run P w = .ok () w') : ((do sm; pure Next.skip) : Sem Next).run P w = .ok .skip w' := by
 rw [Sem.run_bind,h]; rfl
theorem BR.of {cs : List LV} {xs : Array Value} {r : Nat} {ty : TypeId} (hg : w.heap[r]? = some (.cells xs ty (0,0))) (hrel : Rel2 c w cs xs.toList) : BR c w (LB.of cs) (some r) := by
 unfold LB.of
 have hl : cs.length = xs.size := by simpa using hrel.1
 cases e : allP cs with
 | none =>
  exact ⟨xs,ty,hg,Nat.le_of_eq hl,hrel.getD.2⟩
 | some us =>
  have e2 := allP_eq cs e
  subst e2
  rw [pvs_length] at hl
  refine ⟨xs,ty,hg,Nat.le_of_eq hl,fun j u hu => ?_⟩
  have := hrel.getD.2 j (.p u) (by rw [pvs_get,hu]; rfl)
  cases this with | p _ _ h => exact h
theorem Rel2.ext {h : LH} {c' : Ctx} {cs : List LV} {xs : List Value} (hr : HR c w h) (he : Ext c w c' w') (hrel : Rel2 c w cs xs) : Rel2 c' w' cs xs :=
 ⟨hrel.1,fun j u hu => let ⟨x,h1,h2⟩ := hrel.2 j u hu; ⟨x,h1,h2.ext hr.fresh he⟩⟩
theorem HR.newB {h : LH} {cs : List LV} {xs : Array Value} (ty : TypeId) (hr : HR c w h) (hrel : Rel2 c w cs xs.toList) :
  HR (c.grow (some w.heap.size)) (w.alloc (.cells xs ty)) ((c.N,LB.of cs) :: h) :=
 hr.alloc _ _ (BR.of (heap_alloc_new w _) (hrel.ext hr (Ext.alloc hr _)))
theorem allP_pvs : ∀ l : List PV,allP (pvs l) = some l
 | [] => rfl
 | v :: l => by simp [pvs,allP,allP_pvs l]
theorem of_pvs (l : List PV) : LB.of (pvs l) = .pure false l := by unfold LB.of; rw [allP_pvs]
theorem op_new {cs : List LV} {xs : Array Value} {ty : TypeId} {v : Value} {u : LV} (hs : St c s a w) (hrel : Rel2 c w cs xs.toList) (hr : (execOp a.eval o).run P w = .ok (.value v) (w.alloc (.cells xs ty)))
  (hu : LR (c.grow (some w.heap.size)) (w.alloc (.cells xs ty)) u v) (hK : K ((s.new (LB.of cs)).put o.dst u)) : o.wp P a w (Post K c w) Q :=
 op_world hs hr (Ext.alloc hs.hr _) (hs.hr.newB ty hrel) (show c.N + 1 = s.n + 1 by rw [hs.nn]) hu (by rw [hs.nn]; exact hK)
theorem lop_alloc (hT : TOK P T) {t : TypeId} {ti : TI} (ht : lget T t = some ti) (ho : o.op = .alloc t) (hs : St c s a w) (hK : K ((s.new (.pure false ti.zero)).put o.dst (.ptr s.n (.lit 0)))) : o.wp P a w (Post K c w) Q := by
 obtain ⟨z,hz,hrel⟩ := tok_zero (c := c) (w := w) (hT t ti ht)
 refine op_new hs (cs := pvs ti.zero) (xs := z.cells) (ty := t) (v := .pointer (some ⟨w.heap.size,0,none⟩)) hrel ?_ ?_ (by rw [of_pvs]; exact hK)
 ·unfold execOp; rw [ho]
  refine runv ?_
  unfold Instr.alloc
  rw [Sem.run_bind,hz]
  simp [newVar,newRow]
 ·rw [← hs.nn]; exact .ptr _ _ _ 0 (grow_new c _) rfl
theorem lop_allocB (hT : TOK P T) {t : TypeId} {ti : TI} {l : List PV} (ht : lget T t = some ti) (hz : ti.zero = .nilp :: l) (ho : o.op = .alloc t) (hs : St c s a w) (hK : K ((s.new (.bld t (pvs l))).put o.dst (.ptr s.n (.lit 0)))) : o.wp P a w (Post K c w) Q := by
 obtain ⟨z,hz2,hrel⟩ := tok_zero (c := c) (w := w) (hT t ti ht)
 have hr : (execOp a.eval o).run P w = .ok (.value (.pointer (some ⟨w.heap.size,0,none⟩))) (w.alloc (.cells z.cells t)) := by
  unfold execOp; rw [ho]
  refine runv ?_
  unfold Instr.alloc
  rw [Sem.run_bind,hz2]
  simp [newVar,newRow]
 rw [hz] at hrel
 have hrel := hrel.ext hs.hr (Ext.alloc hs.hr (.cells z.cells t))
 have hBR : BR (c.grow (some w.heap.size)) (w.alloc (.cells z.cells t)) (.bld t (pvs l)) (some w.heap.size) := by
  have hsz := hrel.1
  rw [pvs_length,List.length_cons,Array.length_toList] at hsz
  refine ⟨z.cells,heap_alloc_new w _,by rw [pvs_length]; exact hsz.symm,.inl ?_,fun j u hu => ?_⟩
  ·obtain ⟨x,h1,h2⟩ := hrel.2 0 (.p .nilp) rfl
   rw [Array.getElem?_toList] at h1
   rw [Array.getD_eq_getD_getElem?,h1]
   cases h2 with | p _ _ hp => cases hp; rfl
  ·obtain ⟨x,h1,h2⟩ := hrel.2 (j + 1) u hu
   rw [Array.getElem?_toList] at h1
   rw [Array.getD_eq_getD_getElem?,h1]
   exact h2
 refine op_world hs hr (Ext.alloc hs.hr _) (hs.hr.alloc _ _ hBR) (show c.N + 1 = s.n + 1 by rw [hs.nn]) (u := .ptr s.n (.lit 0)) ?_ (by rw [hs.nn]; exact hK)
 rw [← hs.nn]; exact .ptr _ _ _ 0 (grow_new c _) rfl
theorem lop_box {t : TypeId} {x : Operand} (ho : o.op = .box t x) (hs : St c s a w) (hok : allOk (cellsL (ev s x)) = true) (hK : K ((s.new (LB.of (cellsL (ev s x)))).put o.dst (.ptr s.n (.lit 0)))) : o.wp P a w (Post K c w) Q := by
 refine op_new hs (cs := cellsL (ev s x)) (xs := (a.eval x).cells) (ty := t) (v := .pointer (some ⟨w.heap.size,0,none⟩)) (cells_rel (hs.ev x) hok) ?_ ?_ hK
 ·unfold execOp; rw [ho]
  refine runv ?_
  simp [Instr.box,newVar,newRow]
 ·rw [← hs.nn]; exact .ptr _ _ _ 0 (grow_new c _) rfl
theorem zip_over (us : List Value) (off : Nat) : ∀ (cells : Array Value) (k : Nat),off + k + us.length ≤ cells.size →
  ((us.zipIdx k).foldl (fun cs (x : Value × Nat) => cs.setIfInBounds (off + x.2) x.1) cells).toList = over cells.toList (off + k) us := by
 induction us with
 | nil => intro cells k h; simp [over]
 | cons u us ih =>
  intro cells k h
  rw [List.zipIdx_cons,List.foldl_cons,ih _ (k + 1) (by simp at h ⊢; omega)]
  simp only [Array.toList_setIfInBounds]
  rw [show off + (k + 1) = off + k + 1 by omega,set_over _ _ _ _ (by simp at h ⊢; omega)]
theorem fill_sound {pl : Nat → Option (Nat × Nat)} {k : TK} (hp : ∀ i off sz,place T k i = some (off,sz) → pl i = some (off,sz)) : ∀ (ps : List (Nat × LV)) (qs : List (Nat × Value)) (cells : List LV) (arr : Array Value) {cs : List LV},
  ps.length = qs.length → (∀ (j : Nat) (p : Nat × LV),ps[j]? = some p → ∃ x,qs[j]? = some (p.1,x) ∧ LR c w p.2 x) → Rel2 c w cells arr.toList → fillL T k cells ps = some cs → ∃ arr',Instr.fill pl arr qs = some arr' ∧ Rel2 c w cs arr'.toList ∧ arr'.size = arr.size
 | [],qs,cells,arr,cs,hl,_,hrel,h => by
  cases qs with
  | nil => cases h; exact ⟨arr,rfl,hrel,rfl⟩
  | cons q qs => simp at hl
 | (i,v) :: ps,qs,cells,arr,cs,hl,hq,hrel,h => by
  cases qs with
  | nil => simp at hl
  | cons q qs =>
   obtain ⟨x,h1,h2⟩ := hq 0 (i,v) rfl
   simp at h1; subst h1
   rw [fillL] at h
   cases e : place T k i with
   | none => rw [e] at h; cases h
   | some os =>
    obtain ⟨off,sz⟩ := os
    rw [e] at h
    dsimp only at h
    split at h
    ·rename_i e1 e2 e3
     cases e4 : putM cells off (cellsL v) with
     | none => rw [e4] at h; cases h
     | some cells' =>
      rw [e4] at h
      dsimp only at h
      have hsz : (cellsL v).length = sz := by rw [← llen_eq]; exact Nat.eq_of_beq_eq_true e1
      have hpos : 1 ≤ sz := Nat.le_of_ble_eq_true e3
      have hcv := cells_rel h2 e2
      have hoff : off ≤ cells.length := by
       cases hc : cellsL v with
       | nil => rw [hc] at hsz; simp at hsz; omega
       | cons u us =>
        rw [hc,putM] at e4
        cases e5 : lsetO cells off u with
        | none => rw [e5] at e4; cases e4
        | some m => have := (lsetO_eq cells off u e5).1; omega
      obtain ⟨h5,h6⟩ := putM_eq _ cells off e4 hoff
      have hcl : (cellsL v).length = x.cells.size := by simpa using hcv.1
      have hcells : cells.length = arr.size := by simpa using hrel.1
      have hz := zip_over x.cells.toList off arr 0 (by rw [Array.length_toList]; omega)
      have hz' : (x.cells.zipIdx.foldl (fun cs (y : Value × Nat) => cs.setIfInBounds (off + y.2) y.1) arr).toList = over arr.toList off x.cells.toList := by
       rw [← Array.foldl_toList,Array.toList_zipIdx]; exact hz
      refine (fun hh => ?_) (fill_sound hp ps qs cells' (x.cells.zipIdx.foldl (fun cs (y : Value × Nat) => cs.setIfInBounds (off + y.2) y.1) arr) (by simpa using hl) (fun j p hj => by obtain ⟨y,h7,h8⟩ := hq (j + 1) p (by simpa using hj); exact ⟨y,by simpa using h7,h8⟩) ?_ h)
      ·obtain ⟨arr',h7,h8,h10⟩ := hh
       have h11 := congrArg List.length hz'
       rw [over_length _ _ _ (by simp; omega),Array.length_toList,Array.length_toList] at h11
       refine ⟨arr',?_,h8,h10.trans h11⟩
       rw [Instr.fill,hp i off sz e]
       dsimp only
       have h9 : (decide (x.cells.size ≠ sz) || decide (off + x.cells.size > arr.size)) = false := by
        simp; omega
       simp only [h9]
       exact h7
      ·rw [hz',h6]
       refine ⟨by rw [over_length _ _ _ h5,over_length _ _ _ (by simp; omega)]; exact hrel.1,fun j u hu => ?_⟩
       rw [over_get _ _ _ h5] at hu
       rw [over_get _ _ _ (by simp; omega)]
       have hxl : x.cells.toList.length = (cellsL v).length := hcv.1.symm
       rw [hxl]
       by_cases g1 : j < off
       ·rw [if_pos g1] at hu ⊢; exact hrel.2 j u hu
       ·rw [if_neg g1] at hu ⊢
        by_cases g2 : j < off + (cellsL v).length
        ·rw [if_pos g2] at hu ⊢; exact hcv.2 _ u hu
        ·rw [if_neg g2] at hu ⊢; exact hrel.2 j u hu
    ·cases h
theorem evs_rel (hs : St c s a w) : ∀ (ps : List (Nat × Operand)),(evs s ps).length = (ps.map fun (i,x) => (i,a.eval x)).length ∧ ∀ (j : Nat) (p : Nat × LV),(evs s ps)[j]? = some p → ∃ x,(ps.map fun (i,x) => (i,a.eval x))[j]? = some (p.1,x) ∧ LR c w p.2 x
 | [] => ⟨rfl,fun j p h => by simp [evs] at h⟩
 | (i,x) :: ps => by
  obtain ⟨h1,h2⟩ := evs_rel hs ps
  refine ⟨by simp [evs] at h1 ⊢; exact h1,fun j p h => ?_⟩
  cases j with
  | zero => simp [evs] at h; subst h; exact ⟨_,rfl,hs.ev x⟩
  | succ j => simp [evs] at h; obtain ⟨y,h3,h4⟩ := h2 j p h; exact ⟨y,by simpa using h3,h4⟩
end
end Go.LX
namespace Go.LX
open Go
set_option maxHeartbeats 32000000
section
variable {P : Program} {T : TT} {o : Oper} {s : LS} {K : LS → Prop} {c : Ctx} {a : Act} {w w' : World} {Q : Exit → Act → World → Prop}
theorem zero_cells {t : Nat} {ti : TI} (hT : TIok P t ti) : ∃ z,(∀ w,(zeroValue t).run P w = .ok z w) ∧ z.cells.toList = ti.zero.map PV.toV ∧ ∀ c w,Rel2 c w (pvs ti.zero) z.cells.toList := by
 obtain ⟨⟨i,z,d,hi,_,_,hz,hc,_⟩,hzs⟩ := hT
 exact ⟨z,fun w => by simp [zeroValue,typeInfo,hi,hz],hc,fun c w => by rw [hc]; exact zero_rel c w _ hzs⟩
theorem mapM_get {α β : Type} (f : α → Option β) : ∀ (l : List α) {m : List β},l.mapM f = some m → ∀ (i : Nat) (x : α),l[i]? = some x → ∃ y,f x = some y ∧ m[i]? = some y
 | [],m,h,i,x,hx => by simp at hx
 | z :: l,m,h,i,x,hx => by
  simp only [List.mapM_cons,Option.bind_eq_bind,Option.pure_def] at h
  cases e1 : f z with
  | none => simp [e1] at h
  | some y =>
   cases e2 : l.mapM f with
   | none => simp [e1,e2] at h
   | some ys =>
    simp [e1,e2] at h
    subst h
    cases i with
    | zero => simp at hx; subst hx; exact ⟨y,e1,rfl⟩
    | succ i => simp at hx; obtain ⟨z',h1,h2⟩ := mapM_get f l e2 i x hx; exact ⟨z',h1,by simpa using h2⟩
theorem lop_build (hT : TOK P T) {t : TypeId} {parts : Array (Nat × Operand)} {ti : TI} {cs : List LV} (ht : lget T t = some ti) (hk : ti.kind.agg = true) (ho : o.op = .build t parts) (hs : St c s a w)
  (hf : fillL T ti.kind (pvs ti.zero) (evs s parts.toList) = some cs) (hK : K (s.put o.dst (.agg cs))) : o.wp P a w (Post K c w) Q := by
 obtain ⟨hl,hq⟩ := evs_rel hs parts.toList
 obtain ⟨⟨i,z,d,hi,hsz,_,hz,hzc,hu,hkd,_⟩,hzs⟩ := hT t ti ht
 have hzr : Rel2 c w (pvs ti.zero) z.cells.toList := by rw [hzc]; exact zero_rel c w _ hzs
 have hmap : (parts.map fun (i,x) => (i,a.eval x)).toList = parts.toList.map fun (i,x) => (i,a.eval x) := by simp
 have fin : ∀ {pl : Nat → Option (Nat × Nat)},(∀ i off sz,place T ti.kind i = some (off,sz) → pl i = some (off,sz)) → (∀ arr',Instr.fill pl z.cells (parts.map fun (i,x) => (i,a.eval x)).toList = some arr' → P.built t (parts.map fun (i,x) => (i,a.eval x)).toList = some arr') →
   o.wp P a w (Post K c w) Q := by
  intro pl h1 h2
  obtain ⟨arr',h3,h4,_⟩ := fill_sound (c := c) (w := w) h1 _ _ _ z.cells hl hq hzr hf
  refine op_val hs (v := .agg arr') ?_ (.agg cs arr' h4.getD.1 h4.getD.2) hK
  unfold execOp; rw [ho]
  exact runv (run_build w t _ arr' (h2 arr' (by rw [hmap]; exact h3)))
 cases hkind : ti.kind with
 | struct fs =>
  rw [hkind] at hkd
  cases d <;> try exact hkd.elim
  rename_i fields
  obtain ⟨hfs,hpl⟩ := hkd
  obtain ⟨pls,hpl⟩ := Option.isSome_iff_exists.1 hpl
  refine fin (pl := fun i => pls.toArray[i]?) (fun i off sz hp => ?_) (fun arr' h => ?_)
  ·rw [hkind] at hp
   simp only [place] at hp
   cases e : fs[i]? with
   | none => rw [e] at hp; cases hp
   | some p =>
    obtain ⟨off',ft⟩ := p
    rw [e] at hp
    dsimp only at hp
    cases e2 : lget T ft with
    | none => rw [e2] at hp; cases hp
    | some tf =>
     rw [e2] at hp
     cases hp
     rw [hfs,List.getElem?_map] at e
     cases e3 : fields.toList[i]? with
     | none => rw [e3] at e; cases e
     | some f =>
      rw [e3] at e
      cases e
      obtain ⟨y,h1,h2⟩ := mapM_get _ _ hpl i f e3
      obtain ⟨⟨i',_,_,hi',hsz',_⟩,_⟩ := hT _ tf e2
      rw [hi'] at h1
      cases h1
      rw [← hsz']
      simpa using h2
  ·simp only [Program.built,hi,hu,hz,hpl]
   exact h
 | arr n e =>
  rw [hkind] at hkd
  cases d <;> try exact hkd.elim
  rename_i n' e'
  obtain ⟨rfl,rfl,hie⟩ := hkd
  obtain ⟨ie,hie⟩ := Option.isSome_iff_exists.1 hie
  refine fin (pl := fun i => some (i * ie.size,ie.size)) (fun i off sz hp => ?_) (fun arr' h => ?_)
  ·rw [hkind] at hp
   simp only [place] at hp
   cases e2 : lget T e with
   | none => rw [e2] at hp; cases hp
   | some te =>
    rw [e2] at hp
    obtain ⟨⟨i',_,_,hi',hsz',_⟩,_⟩ := hT e te e2
    rw [hie] at hi'
    cases hi'
    rw [hsz']
    exact hp
  ·simp only [Program.built,hi,hu,hz,hie]
   exact h
 | _ => rw [hkind] at hk; cases hk
theorem reps_rel (c : Ctx) (w : World) {z : List PV} {zs : Array Value} (h : Rel2 c w (pvs z) zs.toList) (hz : 0 < zs.size) (n : Nat) : Rel2 c w (reps z n) ((Array.range (n * zs.size)).map (zs[· % zs.size]!)).toList := by
 have hl : ∀ n,(reps z n).length = n * zs.size := by
  intro n
  induction n with
  | zero => simp [reps]
  | succ n ih => rw [reps,List.length_append,ih,h.1,Nat.succ_mul]; simp; omega
 have hg : ∀ n j,j < n * zs.size → (reps z n)[j]? = (pvs z)[j % zs.size]? := by
  intro n
  induction n with
  | zero => intro j hj; omega
  | succ n ih =>
   intro j hj
   have hzl : (pvs z).length = zs.size := by simpa using h.1
   rw [reps]
   by_cases h1 : j < zs.size
   ·rw [List.getElem?_append_left (by omega),Nat.mod_eq_of_lt h1]
   ·rw [List.getElem?_append_right (by omega),hzl,ih _ (by rw [Nat.succ_mul] at hj; omega)]
    congr 1
    rw [Nat.mod_eq_sub_mod (by omega : j ≥ zs.size)]
 refine ⟨by rw [hl]; simp,fun j u hu => ?_⟩
 have hj : j < n * zs.size := by rw [← hl n]; exact (List.getElem?_eq_some_iff.1 hu).1
 rw [hg n j hj] at hu
 obtain ⟨x,h1,h2⟩ := h.2 _ u hu
 refine ⟨x,?_,h2⟩
 have hm : j % zs.size < zs.size := Nat.mod_lt _ hz
 simp only [Array.toList_map,Array.toList_range,List.getElem?_map,List.getElem?_range hj,Option.map_some]
 have h3 : zs[j % zs.size]? = some x := by simpa using h1
 rw [getElem!_def,h3]
theorem lop_buildSlice (hT : TOK P T) {t e len : Nat} {parts : Array (Nat × Operand)} {ti te : TI} {cs : List LV} (ht : lget T t = some ti) (hk : ti.kind = .slice e) (hte : lget T e = some te) (hlen : len * te.size ≤ 10000) (ho : o.op = .buildSlice t len parts) (hs : St c s a w)
  (hf : fillL T ti.kind (reps te.zero len) (evs s parts.toList) = some cs) (hzl : te.zero.length = te.size) (h1 : 1 ≤ te.size) (hK : K ((s.new (LB.of cs)).put o.dst (.sl s.n e te.size (.lit 0) (.lit len)))) : o.wp P a w (Post K c w) Q := by
 obtain ⟨z,hz,hzc,hzr⟩ := zero_cells (hT e te hte)
 obtain ⟨hl,hq⟩ := evs_rel hs parts.toList
 obtain ⟨⟨i,z',d,hi,hsz,_,hz',_,hu,hkd,_⟩,_⟩ := hT t ti ht
 rw [hk] at hkd hf
 cases d <;> try exact hkd.elim
 rename_i e'
 have hkd : e = e' := hkd
 subst hkd
 have hse := tok_size (w := w) (hT e te hte)
 have hzs : z.cells.size = te.size := by
  have : z.cells.toList.length = te.zero.length := by rw [hzc,List.length_map]
  rw [Array.length_toList] at this; omega
 have hpl2 : ∀ i off sz,place T (.slice e) i = some (off,sz) → (fun i => some (i * te.size,te.size)) i = some (off,sz) := by
  intro i off sz hp
  simp only [place,hte] at hp
  exact hp
 have hrel0 := reps_rel c w (hzr c w) (by omega) len
 rw [hzs] at hrel0
 obtain ⟨arr',h3,h4,h5⟩ := fill_sound (c := c) (w := w) hpl2 _ _ _ _ hl hq hrel0 hf
 have hlens : arr'.size = len * te.size := by rw [h5]; simp
 have hmap : (parts.map fun (i,x) => (i,a.eval x)).toList = parts.toList.map fun (i,x) => (i,a.eval x) := by simp
 have hrun : (execOp a.eval o).run P w = .ok (.value (.slice (some ⟨w.heap.size,0,none⟩) len len)) (w.alloc (.cells arr' e)) := by
  unfold execOp; rw [ho]
  refine runv ?_
  have hbig : ¬ len * te.size > 2 ^ 24 := by omega
  by_cases h0 : len * te.size = 0
  ·have e0 : (Array.range (len * te.size)).map (fun j => z.cells[j % te.size]!) = (#[] : Array Value) := by rw [h0]; simp
   rw [e0] at h3
   have e1 : (Array.map (fun _ => (default : Value)) (Array.range 0)) = (#[] : Array Value) := by simp
   have hmap2 : (List.map (fun x : Nat × Operand => (x.fst,a.eval x.snd)) parts.toList) = parts.toList.map fun (i,x) => (i,a.eval x) := rfl
   simp [Instr.buildSlice,run_underlying hu,hse,h0,newRow]
   rw [e1,hmap2,h3]
   simp
  ·simp only at h3
   simp [Instr.buildSlice,run_underlying hu,hse,hbig,h0,hz,hzs,h3,newRow]
 refine op_new hs (u := .sl s.n e te.size (.lit 0) (.lit len)) h4 hrun ?_ hK
 rw [← hs.nn]
 refine .sl _ _ _ _ _ w.heap.size 0 len len (len * te.size) (grow_new c _) rfl rfl (Nat.le_refl _) ?_ ?_ (by omega)
 ·unfold maxLen
  have : len ≤ len * te.size := Nat.le_mul_of_pos_right _ h1
  omega
 ·rw [World.shape?,heap_alloc_new]
  simp only [hlens]
theorem lop_load (hT : TOK P T) {t : TypeId} {x : Operand} {ti : TI} (ht : lget T t = some ti) (ho : o.op = .load t x) (hs : St c s a w)
  (h : match ev s x with
   | .ptr b o' => match hget s.h b with
    | some B => loadB B o' ti fun v => K (s.put o.dst v)
    | none => False
   | .p (.vp sy l o') => getP sy l o' ti.size 0 fun vs => ofCells ti.kind vs fun v => K (s.put o.dst v)
   | _ => False) : o.wp P a w (Post K c w) Q := by
 have hx := hs.ev x
 have hrun : ∀ {ad v},a.eval x = .pointer (some ad) → (loadVar t ad).run P w = .ok v w → (execOp a.eval o).run P w = .ok (.value v) w := by
  intro ad v h1 h2
  unfold execOp; rw [ho]
  refine runv ?_
  simp [Instr.loadAt,h1,Instr.sureAddr,h2]
 split at h
 ·rename_i b o' hev
  rw [hev] at hx
  cases hB : hget s.h b with
  | none => rw [hB] at h; exact h.elim
  | some B =>
   rw [hB] at h
   obtain ⟨m,hm,hBR⟩ := hs.hr.live b B hB
   generalize hvx : a.eval x = vx at hx
   cases hx with
   | goneP _ _ _ hm' _ => rw [hm] at hm'; cases hm'
   | ptr _ _ r k hm' hk =>
    rw [hm] at hm'; cases hm'
    obtain ⟨u,v,h1,h2,h3⟩ := loadB_sound (hT t ti ht) hBR hk h
    exact op_val hs (hrun hvx h1) h2 h3
 ·rename_i sy l o' hev
  rw [hev] at hx
  generalize hvx : a.eval x = vx at hx
  cases hx with
  | p _ _ hp =>
   cases hp with
   | vp _ _ _ ad k f hk hsp hM hlt hcell hrel =>
    obtain ⟨us,h1,h2,h3⟩ := getP_sound hk _ _ h
    have hr : Rel2 c w (pvs us) ((List.range ti.size).map fun i => f (k + i)) := by
     refine ⟨by rw [pvs_length,h1]; simp,fun j u hu => ?_⟩
     rw [pvs_get] at hu
     cases e : us[j]? with
     | none => rw [e] at hu; cases hu
     | some v =>
      rw [e] at hu; cases hu
      have hj : j < ti.size := by rw [← h1]; exact (List.getElem?_eq_some_iff.1 e).1
      have h4 := h2 j hj
      rw [e,Nat.add_zero] at h4
      exact ⟨f (k + j),by simp [hj],.p _ _ (hrel _ _ h4)⟩
    obtain ⟨u,v,h5,h6,h7⟩ := ofCells_sound (a := ad.add k) (hT t ti ht) hr (by rw [pvs_length,h1]) (fun j v hj => by
     simp only [List.getElem?_map] at hj
     by_cases hjl : j < ti.size
     ·rw [List.getElem?_range hjl] at hj
      cases hj
      have h4 := h2 j hjl
      rw [List.getElem?_eq_getElem (show j < us.length by omega),Nat.add_zero] at h4
      rw [Addr.add_add]
      exact hcell _ _ h4
     ·rw [List.getElem?_eq_none (by simp; omega)] at hj; cases hj) h3
    exact op_val hs (hrun hvx h5) h6 h7
 ·exact h.elim
theorem lop_store (hT : TOK P T) {t : TypeId} {x y : Operand} {ti : TI} (ht : lget T t = some ti) (ho : o.op = .store t x y) (hs : St c s a w)
  (h : match ev s x with
   | .ptr b o' => match Nat.beq (llen (cellsL (ev s y))) ti.size,Nat.ble 1 ti.size with
    | true,true => match hget s.h b with
     | some B => storeB B o' (cellsL (ev s y)) fun B' => K ({ s with h := hset s.h b B' }.put o.dst .nul)
     | none => False
    | true,false => match hget s.h b with
     | some (.pure _ _) => K (s.put o.dst .nul)
     | _ => False
    | _,_ => False
   | _ => False) : o.wp P a w (Post K c w) Q := by
 have hx := hs.ev x
 split at h
 ·rename_i b o' hev
  rw [hev] at hx
  split at h
  ·rename_i e1 e2
   have e1 := Nat.eq_of_beq_eq_true e1
   have e2 := Nat.le_of_ble_eq_true e2
   rw [llen_eq] at e1
   cases hB : hget s.h b with
   | none => rw [hB] at h; exact h.elim
   | some B =>
    rw [hB] at h
    obtain ⟨m,hm,hBR⟩ := hs.hr.live b B hB
    generalize hvx : a.eval x = vx at hx
    cases hx with
    | goneP _ _ _ hm' _ => rw [hm] at hm'; cases hm'
    | ptr _ _ r k hm' hk =>
     rw [hm] at hm'; cases hm'
     have hok : allOk (cellsL (ev s y)) = true := by
      cases e : allOk (cellsL (ev s y)) with
      | true => rfl
      | false =>
       dsimp only at h
       unfold storeB at h
       rw [e] at h
       exact h.elim
     have hv := cells_rel (hs.ev y) hok
     obtain ⟨B',cur,ty,h1,hg,h3,_,h5,h6⟩ := storeB_sound hs.hr hB hm hBR hk hv (by omega) h
     refine op_skip hs (w' := w.setRow r (over cur.toList k (a.eval y).cells.toList).toArray) ?_ (Ext.turn hs.hr hm h5) (hs.hr.turn hB hm h5 h6) hs.nn h1
     unfold execOp; rw [ho]
     refine runu ?_
     simp only [Instr.storeAt,hvx,Instr.sureAddr]
     have hsz : (a.eval y).cells.size = ti.size := by rw [← e1,hv.1]; simp
     have hst := run_storeCells_at P r k ty (a.eval y).cells.toList 0 cur w hg (by simpa using h3) (hv.ones hok)
     simp only [Nat.add_zero] at hst
     simp [storeVar,tok_size (hT t ti ht),hsz,hst,over]
  ·rename_i e1 e2
   have e1 := Nat.eq_of_beq_eq_true e1
   rw [llen_eq] at e1
   have e0 : ti.size = 0 := by
    rcases Nat.eq_zero_or_pos ti.size with h1 | h1
    ·exact h1
    ·rw [Nat.ble_eq_true_of_le h1] at e2; cases e2
   split at h
   ·rename_i sy l hB
    obtain ⟨m,hm,hBR⟩ := hs.hr.live b _ hB
    generalize hvx : a.eval x = vx at hx
    cases hx with
    | goneP _ _ _ hm' _ => rw [hm] at hm'; cases hm'
    | ptr _ _ r k hm' hk =>
     have hcs : cellsL (ev s y) = [] := List.eq_nil_of_length_eq_zero (by omega)
     have hv := cells_rel (hs.ev y) (by rw [hcs]; rfl)
     have hsz : (a.eval y).cells.size = 0 := by
      have := hv.1
      rw [hcs] at this
      simpa using this.symm
     refine op_skip hs (w' := w) ?_ (Ext.refl hs.hr) hs.hr hs.nn h
     unfold execOp; rw [ho]
     refine runu ?_
     simp only [Instr.storeAt,hvx,Instr.sureAddr]
     have hem : (a.eval y).cells = #[] := Array.eq_empty_of_size_eq_zero hsz
     simp [storeVar,tok_size (hT t ti ht),e0,hem,storeCells]
   ·exact h.elim
  ·exact h.elim
 ·exact h.elim
end
end Go.LX
namespace Go.LX
open Go
set_option maxHeartbeats 32000000
section
variable {P : Program} {T : TT} {o : Oper} {s : LS} {K : LS → Prop} {c : Ctx} {a : Act} {w w' : World} {Q : Exit → Act → World → Prop}
theorem iadd_sound {x y : I} {L : I → Prop} (h : iadd x y L) : ∃ z,z.val = x.val + y.val ∧ L z := by
 unfold iadd at h
 split at h
 ·exact ⟨_,rfl,h⟩
 ·split at h
  ·rename_i e
   have e := of_decide_eq_true e
   exact ⟨_,by simp [I.val,e],h⟩
  ·obtain ⟨z,h1,h2⟩ := sum h; exact ⟨z,h1,h2⟩
 ·split at h
  ·rename_i e
   have e := of_decide_eq_true e
   exact ⟨_,by simp [I.val,e],h⟩
  ·obtain ⟨z,h1,h2⟩ := sum h; exact ⟨z,h1,h2⟩
 ·obtain ⟨z,h1,h2⟩ := sum h; exact ⟨z,h1,h2⟩
theorem imul_sound {x : I} {k : Nat} {L : I → Prop} (h : imul x k L) : ∃ z,z.val = x.val * k ∧ L z := by
 unfold imul at h
 split at h
 ·rename_i e
  have e := Nat.eq_of_beq_eq_true e
  exact ⟨x,by simp [e],h⟩
 ·split at h
  ·exact ⟨_,rfl,h⟩
  ·obtain ⟨z,h1,h2⟩ := sum h; exact ⟨z,h1,h2⟩
theorem live_ptr {b : Nat} {o' : I} {B : LB} {x : Value} (hs : St c s a w) (hx : LR c w (.ptr b o') x) (hB : hget s.h b = some B) : ∃ r k : Nat,c.m b = some (some r) ∧ o'.val = (k : Int) ∧ x = .pointer (some ⟨r,k,none⟩) := by
 obtain ⟨m,hm,_⟩ := hs.hr.live b B hB
 cases hx with
 | goneP _ _ _ hm' _ => rw [hm] at hm'; cases hm'
 | ptr _ _ r k hm' hk => exact ⟨r,k,hm',hk,rfl⟩
theorem lop_nilCheck {x : Operand} (ho : o.op = .nilCheck x) (hs : St c s a w)
  (h : match ev s x with
   | .ptr b o' => match hget s.h b with
    | some _ => K (s.put o.dst (.ptr b o'))
    | none => False
   | .p (.vp sy l o') => K (s.put o.dst (.p (.vp sy l o')))
   | _ => False) : o.wp P a w (Post K c w) Q := by
 have hx := hs.ev x
 split at h
 ·rename_i b o' hev
  rw [hev] at hx
  cases hB : hget s.h b with
  | none => rw [hB] at h; exact h.elim
  | some B =>
   rw [hB] at h
   obtain ⟨r,k,hm,hk,hv⟩ := live_ptr hs hx hB
   exact op_val hs (v := .pointer (some ⟨r,k,none⟩)) (by simp [execOp,ho,hv]) (.ptr _ _ _ _ hm hk) h
 ·rename_i sy l o' hev
  rw [hev] at hx
  generalize hvx : a.eval x = vx at hx
  cases hx with
  | p _ _ hp =>
   cases hp with
   | vp _ _ _ ad k f hk hsp hM hlt hcell hrel => exact op_val hs (v := .pointer (some (ad.add k))) (by simp [execOp,ho,hvx]) (.p _ _ (.vp _ _ _ ad k f hk hsp hM hlt hcell hrel)) h
 ·exact h.elim
theorem place_off {t : Nat} {ti : TI} {fs : List (Nat × Nat)} {f off ft : Nat} (hT : TIok P t ti) (hk : ti.kind = .struct fs) (hf : fs[f]? = some (off,ft)) : ∃ fields fd,P.underlying t = some (.struct fields) ∧ fields[f]? = some fd ∧ fd.offset = off ∧ fd.type = ft := by
 obtain ⟨⟨i,z,d,hi,hsz,_,hz,hzc,hu,hkd,_⟩,hzs⟩ := hT
 rw [hk] at hkd
 cases d <;> try exact hkd.elim
 rename_i fields
 obtain ⟨hfs,_⟩ := hkd
 rw [hfs,List.getElem?_map] at hf
 cases e : fields.toList[f]? with
 | none => rw [e] at hf; cases hf
 | some fd => rw [e] at hf; cases hf; exact ⟨fields,fd,hu,by simpa using e,rfl,rfl⟩
theorem lop_fieldAddr (hT : TOK P T) {t : TypeId} {x : Operand} {f off ft : Nat} {ti tf : TI} {fs : List (Nat × Nat)} (ht : lget T t = some ti) (hk : ti.kind = .struct fs) (hf : fs[f]? = some (off,ft)) (htf : lget T ft = some tf) (h1 : 1 ≤ tf.size)
  (ho : o.op = .fieldAddr t x f) (hs : St c s a w)
  (h : match ev s x with
   | .ptr b o' => match hget s.h b with
    | some _ => iadd o' (.lit off) fun z => K (s.put o.dst (.ptr b z))
    | none => False
   | .p (.vp sy l o') => iadd o' (.lit off) fun z => K (s.put o.dst (.p (.vp sy l z)))
   | _ => False) : o.wp P a w (Post K c w) Q := by
 have hx := hs.ev x
 obtain ⟨fields,fd,hu,hfd,hoff,hft⟩ := place_off (hT t ti ht) hk hf
 have hsz : (sizeOf fd.type).run P w = .ok tf.size w := by rw [hft]; exact tok_size (hT ft tf htf)
 have hrun : ∀ {ad},a.eval x = .pointer (some ad) → (execOp a.eval o).run P w = .ok (.value (.pointer (some (ad.add off)))) w := by
  intro ad h2
  unfold execOp; rw [ho]
  refine runv ?_
  have hz : ¬ tf.size = 0 := by omega
  simp [Instr.fieldAt,run_underlying hu,hfd,h2,Instr.sureAddr,fieldPlace,hsz,hz,hoff]
 split at h
 ·rename_i b o' hev
  rw [hev] at hx
  cases hB : hget s.h b with
  | none => rw [hB] at h; exact h.elim
  | some B =>
   rw [hB] at h
   obtain ⟨z,hz,hK⟩ := iadd_sound h
   obtain ⟨r,k,hm,hk',hvx⟩ := live_ptr hs hx hB
   refine op_val hs (hrun hvx) ?_ hK
   rw [add_lit]
   exact .ptr _ _ _ _ hm (by rw [hz,hk']; simp [I.val])
 ·rename_i sy l o' hev
  rw [hev] at hx
  obtain ⟨z,hz,hK⟩ := iadd_sound h
  generalize hvx : a.eval x = vx at hx
  cases hx with
  | p _ _ hp =>
   cases hp with
   | vp _ _ _ ad k g hk' hsp hM hlt hcell hrel =>
    refine op_val hs (hrun hvx) ?_ hK
    rw [Addr.add_add]
    exact .p _ _ (.vp _ _ _ ad (k + off) g (by rw [hz,hk']; simp [I.val]) hsp hM hlt hcell hrel)
 ·exact h.elim
theorem getM_part {t : Nat} {ti : TI} (hT : TIok P t ti) {l vs : List LV} {x : Array Value} {off : Nat} {L : LV → Prop} (hrel : Rel2 c w l x.toList) (hg : getM l off ti.size = some vs) (h : ofCells ti.kind vs L) :
  ∃ u v,(part t x off).run P w = .ok v w ∧ LR c w u v ∧ L u := by
 obtain ⟨h1,h2⟩ := getM_sound _ _ hg
 have hr : Rel2 c w vs ((x.toList.drop off).take ti.size) := by
  have hb : off + ti.size ≤ x.size ∨ ti.size = 0 := by
   rcases Nat.eq_zero_or_pos ti.size with e | e
   ·exact .inr e
   ·left
    have h4 := h2 (ti.size - 1) (by omega)
    rw [List.getElem?_eq_getElem (show ti.size - 1 < vs.length by omega)] at h4
    have := (List.getElem?_eq_some_iff.1 h4).1
    have hl := hrel.1
    simp at hl
    omega
  refine ⟨?_,fun j u hu => ?_⟩
  ·rw [h1,List.length_take,List.length_drop,Array.length_toList]
   rcases hb with hb | hb <;> omega
  ·have hj : j < ti.size := by rw [← h1]; exact (List.getElem?_eq_some_iff.1 hu).1
   have hlj := h2 j hj
   rw [hu] at hlj
   obtain ⟨y,h5,h6⟩ := hrel.2 _ u hlj
   exact ⟨y,by rw [List.getElem?_take,if_pos hj,List.getElem?_drop]; exact h5,h6⟩
 unfold ofCells at h
 unfold part
 rw [Sem.run_bind,tok_agg hT]
 cases hk : ti.kind.agg with
 | true =>
  rw [hk] at h
  refine ⟨_,.agg (x.extract off (off + ti.size)),by simp [tok_size hT],.agg vs _ ?_ ?_,h⟩
  ·have := hr.1
   simp only [List.length_take,List.length_drop,Array.length_toList] at this
   rw [this]; simp only [Array.size_extract]; omega
  ·have e : (x.extract off (off + ti.size)).toList = (x.toList.drop off).take ti.size := by
    simp [Array.toList_extract,List.extract_eq_take_drop]
   exact (Rel2.getD (by rw [e]; exact hr)).2
 | false =>
  rw [hk] at h
  dsimp only at h
  split at h
  ·obtain ⟨y,ys,he,h3,_⟩ := hr.head
   have h5 : x[off]? = some y := by
    have : ((x.toList.drop off).take ti.size)[0]? = some y := by rw [he]; rfl
    rw [List.getElem?_take] at this
    split at this
    ·rw [List.getElem?_drop] at this; simpa using this
    ·cases this
   exact ⟨_,y,by simp [h5],h3,h⟩
  ·exact h.elim
theorem lop_field (hT : TOK P T) {t : TypeId} {x : Operand} {f off ft : Nat} {ti tf : TI} {fs : List (Nat × Nat)} {l vs : List LV} (ht : lget T t = some ti) (hk : ti.kind = .struct fs) (hf : fs[f]? = some (off,ft)) (htf : lget T ft = some tf)
  (ho : o.op = .field t x f) (hs : St c s a w) (hx0 : ev s x = .agg l) (hg : getM l off tf.size = some vs) (h : ofCells tf.kind vs fun v => K (s.put o.dst v)) : o.wp P a w (Post K c w) Q := by
 have hx := hs.ev x
 rw [hx0] at hx
 obtain ⟨fields,fd,hu,hfd,hoff,hft⟩ := place_off (hT t ti ht) hk hf
 generalize hvx : a.eval x = vx at hx
 cases hx with
 | agg _ xs hl hr =>
  obtain ⟨u,v,h1,h2,h3⟩ := getM_part (hT ft tf htf) (Rel2.ofD hl hr) hg h
  refine op_val hs ?_ h2 h3
  unfold execOp; rw [ho]
  refine runv ?_
  simp [Instr.field,run_underlying hu,hfd,hvx,asAgg,hft,hoff,h1]
theorem lop_indexAddr (hT : TOK P T) {t : TypeId} {x y : Operand} {e : Nat} {k : IntKind} {i : I} {ti te : TI} (ht : lget T t = some ti) (hk : ti.kind = .slice e) (hte : lget T e = some te) (hi : ev s y = .p (.int k i)) (ho : o.op = .indexAddr t x y) (hs : St c s a w)
  (h : match ev s x with
   | .p (.vsl n sy l) => Need (fun _ => 0 ≤ i.val ∧ i.val < n.val) fun _ => imul i te.size fun z => K (s.put o.dst (.p (.vp sy l z)))
   | .sl b _ _ o' n => match hget s.h b with
    | some _ => Need (fun _ => 0 ≤ i.val ∧ i.val < n.val) fun _ => imul i te.size fun z => iadd o' z fun y => K (s.put o.dst (.ptr b y))
    | none => False
   | _ => False) : o.wp P a w (Post K c w) Q := by
 have hx := hs.ev x
 have hy : a.eval y = .int k i.val := LR.inv_int (hi ▸ hs.ev y)
 obtain ⟨⟨_,_,d,_,_,_,_,_,hu,hkd,_⟩,_⟩ := hT t ti ht
 rw [hk] at hkd
 cases d <;> try exact hkd.elim
 rename_i e'
 have hkd : e = e' := hkd
 subst hkd
 have hse := tok_size (w := w) (hT e te hte)
 have hrun : ∀ {ad n cp},a.eval x = .slice (some ad) n cp → 0 ≤ i.val → i.val < (n : Int) → (execOp a.eval o).run P w = .ok (.value (.pointer (some (ad.add (i.val.toNat * te.size))))) w := by
  intro ad n cp h2 h3 h4
  unfold execOp; rw [ho]
  refine runv ?_
  simp [Instr.indexAt,asIntOf,hy,run_underlying hu,h2,hse,h3,h4]
 split at h
 ·rename_i n sy l hev
  rw [hev] at hx
  obtain ⟨⟨h1,h2⟩,h3⟩ := need h
  obtain ⟨z,hz,hK⟩ := imul_sound h3
  generalize hvx : a.eval x = vx at hx
  cases hx with
  | p _ _ hp =>
   cases hp with
   | vsl0 _ _ _ ad cp h0 _ => omega
   | vsl _ _ _ ad n' cp g hn hsp hM hlt hle hcp hcell hrel =>
    obtain ⟨j,hj⟩ : ∃ j : Nat,i.val = j := ⟨i.val.toNat,by omega⟩
    refine op_val hs (hrun hvx h1 (by omega)) ?_ hK
    refine .p _ _ (.vp _ _ _ ad (i.val.toNat * te.size) g ?_ hsp hM hlt hcell hrel)
    rw [hz,hj]; simp
 ·rename_i b e1 sz o' n hev
  rw [hev] at hx
  cases hB : hget s.h b with
  | none => rw [hB] at h; exact h.elim
  | some B =>
   rw [hB] at h
   obtain ⟨⟨h1,h2⟩,h3⟩ := need h
   obtain ⟨z,hz,h4⟩ := imul_sound h3
   obtain ⟨z2,hz2,hK⟩ := iadd_sound h4
   obtain ⟨m,hm,_⟩ := hs.hr.live b B hB
   generalize hvx : a.eval x = vx at hx
   obtain ⟨j,hj⟩ : ∃ j : Nat,i.val = j := ⟨i.val.toNat,by omega⟩
   cases hx with
   | goneS _ _ _ _ _ _ _ _ hm' _ => rw [hm] at hm'; cases hm'
   | slv _ _ _ _ _ hm' ho' hn' => omega
   | slz _ _ _ _ _ _ _ _ _ _ hn' => omega
   | sl _ _ _ _ _ r j' k' cp tot hm' ho' hn' hk' hc hs' ht' =>
    refine op_val hs (hrun hvx h1 (by omega)) ?_ hK
    rw [add_lit]
    exact .ptr _ _ _ _ hm' (by rw [hz2,ho',hz,hj]; simp)
 ·exact h.elim
theorem lop_indexArr (hT : TOK P T) {t : TypeId} {x y : Operand} {e n b : Nat} {k : IntKind} {i o' : I} {ti te : TI} (ht : lget T t = some ti) (hk : ti.kind = .arr n e) (hte : lget T e = some te) (hi : ev s y = .p (.int k i)) (ho : o.op = .indexAddr t x y) (hs : St c s a w)
  (hx0 : ev s x = .ptr b o') (hB : ∃ B,hget s.h b = some B)
  (h : Need (fun _ => 0 ≤ i.val ∧ i.val < n) fun _ => imul i te.size fun z => iadd o' z fun y => K (s.put o.dst (.ptr b y))) : o.wp P a w (Post K c w) Q := by
 have hx := hs.ev x
 rw [hx0] at hx
 obtain ⟨B,hB⟩ := hB
 obtain ⟨r,j0,hm,hj0,hvx⟩ := live_ptr hs hx hB
 have hy : a.eval y = .int k i.val := LR.inv_int (hi ▸ hs.ev y)
 obtain ⟨⟨_,_,d,_,_,_,_,_,hu,hkd,_⟩,_⟩ := hT t ti ht
 rw [hk] at hkd
 cases d <;> try exact hkd.elim
 rename_i n' e'
 obtain ⟨rfl,rfl,_⟩ := hkd
 have hse := tok_size (w := w) (hT e te hte)
 obtain ⟨⟨h1,h2⟩,h3⟩ := need h
 obtain ⟨z,hz,h4⟩ := imul_sound h3
 obtain ⟨z2,hz2,hK⟩ := iadd_sound h4
 obtain ⟨j,hj⟩ : ∃ j : Nat,i.val = j := ⟨i.val.toNat,by omega⟩
 refine op_val hs (v := .pointer (some ⟨r,j0 + i.val.toNat * te.size,none⟩)) ?_ (.ptr _ _ _ _ hm (by rw [hz2,hj0,hz,hj]; simp)) hK
 unfold execOp; rw [ho]
 refine runv ?_
 simp [Instr.indexAt,asIntOf,hy,run_underlying hu,hvx,Instr.sureAddr,hse,h1,h2,add_lit]
end
end Go.LX
namespace Go.LX
abbrev i6 (x : Int) : LV := .p (.int .i64 (.sym x))
abbrev hpB (b c e t : Nat) (w : Int) : Nat × LB := (b, .mix [.ptr c (.lit 0), .sl e t 1 (.lit 0) (.sym w)])
abbrev hpC (c d t u : Nat) (n : Int) : Nat × LB := (c, .mix [.sl d t u (.lit 0) (.sym n)])
abbrev hpP (k : Nat) (l : List PV) : Nat × LB := (k, .pure true l)
abbrev hpA (a b f g t : Nat) (w p s c : Int) : Nat × LB := (a, .mix [.ptr b (.lit 0), .ptr f (.lit 0), .sl g t 1 (.lit 0) (.sym w), .p (.int .i64 (.sym p)), .p (.int .i64 (.sym s)), .p (.int .i64 (.sym c))])
abbrev hpD (c d t u : Nat) (n : Int) (d2 t2 u2 : Nat) (n2 : Int) : Nat × LB := (c, .mix [.sl d t u (.lit 0) (.sym n), .sl d2 t2 u2 (.lit 0) (.sym n2)])
abbrev hpF (k : Nat) (z : ByteArray) (o : Bool) : Nat × LB := (k, .pure false [.str fun _ => z, .bool o])
abbrev hpR (a b g t : Nat) (w : Int) (f : Nat) (p s c : Int) : Nat × LB := (a, .mix [.ptr b (.lit 0), .sl g t 1 (.lit 0) (.sym w), .ptr f (.lit 0), .p (.int .i64 (.sym p)), .p (.int .i64 (.sym s)), .p (.int .i64 (.sym c))])
end Go.LX
