/-
  The ground of the proof, part 6: the calculus and what is proved with it.
-/
import Derived.Test.YtjfdfbpgckilpaaGreatDoorBe
import Derived.Laws.OwnMore
import Derived.Deep.AppendLies
import Derived.Deep.Draws
import Derived.Lib.Hide
import Derived.ProofKit
import Derived.OpenShut
import Derived.Carry
import Derived.SliceStrings
import Derived.ChangeSlices
import Derived.Test.YtjfdfbpgckilpaaGreatDoorBd
import Derived.ChangeArms
import Derived.Test.YtjfdfbpgckilpaaGreatDoorRows
import Derived.Shelf.Strings.Builder1
import Derived.Shelf.Strings.Builder2
import Derived.Shelf.Strings.BuilderF
import Derived.Shelf.Strings.BuilderK
import Derived.Shelf.LaysM
import Derived.Shelf.Strconv.Itoa3
import Derived.Shelf.LaysC
import Derived.Shelf.Strconv.AtoiAll
import Derived.Shelf.Sort.Plain
import Derived.Shelf.Strings.Prefix
import Derived.Shelf.Strings.Repeat
import Derived.Ground.Names2Prog
import Derived.Shelf.Slices.Clone
import Derived.Shelf.Slices.SearchI
import Derived.Shelf.Slices.In.SortNone
import Derived.Shelf.Slices.Empties
import Derived.Test.YtjfdfbpgckilpaaGreatDoorProg
namespace Go.Proofs.YtjfdfbpgckilpaaGreatDoor
open Go.RowKit
set_option maxHeartbeats 32000000
theorem add_block (a : Addr) (n : Nat) : (a.add n).block = a.block := by
 unfold Addr.add; split <;> rfl
structure Sl (w : World) (B size : Nat) (v : Value) (n : Nat) (xs : List Value) : Prop where
 len : xs.length = n * size
 max : n ≤ maxLen
 form : (v = .slice none 0 0 ∧ n = 0) ∨ ∃ a c,v = .slice (some a) n c ∧ n ≤ c ∧ c ≤ maxLen ∧ (0 < n → a.block < B) ∧ ∀ j u,xs[j]? = some u → w.cell? (a.add j) = some u
section
variable {w w' : World} {B B' size n : Nat} {v : Value} {xs : List Value}
theorem Sl.nil : Sl w B size (.slice none 0 0) 0 [] := ⟨by simp,Nat.zero_le _,.inl ⟨rfl,rfl⟩⟩
theorem Sl.pos (h : Sl w B size v n xs) {j : Nat} {u : Value} (hu : xs[j]? = some u) : 0 < n := by
 have h1 := (List.getElem?_eq_some_iff.1 hu).1
 rw [h.len] at h1
 rcases Nat.eq_zero_or_pos n with rfl | h2
 ·simp at h1
 ·exact h2
theorem Sl.keep (h : Sl w B size v n xs) (hk : ∀ p : Addr,p.block < B → w'.cell? p = w.cell? p) : Sl w' B size v n xs := by
 refine ⟨h.len,h.max,?_⟩
 rcases h.form with e | ⟨a,c,e,h1,h2,h3,h4⟩
 ·exact .inl e
 ·exact .inr ⟨a,c,e,h1,h2,h3,fun j u hu => (hk _ (by rw [add_block]; exact h3 (h.pos hu))).trans (h4 j u hu)⟩
theorem Sl.below (h : Sl w B size v n xs) (hb : Below B w w') : Sl w' B size v n xs := h.keep fun _ hp => hb.cell hp
theorem Sl.step (h : Sl w B size v n xs) (hB : B ≤ w.heap.size) (k : Below w.heap.size w w') : Sl w' B size v n xs := h.keep fun _ hp => k.cell (Nat.lt_of_lt_of_le hp hB)
theorem Sl.drewN (h : Sl w B size v n xs) (k : Nat) : Sl (w.drewN k) B size v n xs := h.keep fun _ _ => rfl
theorem Sl.more (h : Sl w B size v n xs) (hB : B ≤ B') : Sl w B' size v n xs := by
 refine ⟨h.len,h.max,?_⟩
 rcases h.form with e | ⟨a,c,e,h1,h2,h3,h4⟩
 ·exact .inl e
 ·exact .inr ⟨a,c,e,h1,h2,fun h => Nat.lt_of_lt_of_le (h3 h) hB,h4⟩
theorem Sl.alloc (h : Sl w B size v n xs) (hB : B ≤ w.heap.size) (o : Obj) : Sl (w.alloc o) B size v n xs := h.keep fun p hp => World.cell?_alloc_lt w o p (by omega)
theorem Sl.take {a : Addr} {c : Nat} (h : Sl w B 1 (.slice (some a) n c) n xs) {k : Nat} (hk : k ≤ n) : Sl w B 1 (.slice (some a) k c) k (xs.take k) := by
 have hl := h.len
 refine ⟨by rw [List.length_take,hl]; omega,by have := h.max; omega,?_⟩
 rcases h.form with ⟨e,_⟩ | ⟨a',c',e,h1,h2,h3,h4⟩
 ·cases e
 ·cases e
  exact .inr ⟨a,c,rfl,by omega,h2,fun hh => h3 (by omega),fun j u hu => h4 j u (by rw [List.getElem?_take] at hu; split at hu; exact hu; cases hu)⟩
theorem Sl.cell {a : Addr} {c : Nat} (h : Sl w B size (.slice (some a) n c) n xs) {k : Nat} {u : Value} (hk : xs[k]? = some u) : w.cell? (a.add k) = some u := by
 rcases h.form with ⟨e,_⟩ | ⟨a',c',e,h1,h2,h3,h4⟩
 ·cases e
 ·cases e; exact h4 k u hk
theorem Sl.cap {a : Addr} {c : Nat} (h : Sl w B size (.slice (some a) n c) n xs) : n ≤ c ∧ c ≤ maxLen ∧ (0 < n → a.block < B) := by
 rcases h.form with ⟨e,_⟩ | ⟨a',c',e,h1,h2,h3,h4⟩
 ·cases e
 ·cases e; exact ⟨h1,h2,h3⟩
theorem Sl.some_ (h : Sl w B size v n xs) (hn : 0 < n) : ∃ a c,v = .slice (some a) n c := by
 rcases h.form with ⟨_,rfl⟩ | ⟨a,c,e,_⟩
 ·omega
 ·exact ⟨a,c,e⟩
theorem Sl.is_slice (h : Sl w B size v n xs) : ∃ A c,v = .slice A n c := by
 rcases h.form with ⟨rfl,rfl⟩ | ⟨a,c,rfl,_⟩
 ·exact ⟨_,_,rfl⟩
 ·exact ⟨_,_,rfl⟩
theorem Sl.of_own {base : Nat} {e : TypeId} (h : w.ownsRow base e size v n xs) : Sl w w.heap.size size v n xs := by
 obtain ⟨h1,h2⟩ := h
 rcases h2 with ⟨rfl,rfl⟩ | ⟨g,cap,cur,rfl,hb,hh,hn,hc,hz,ht⟩
 ·exact ⟨h1,Nat.zero_le _,.inl ⟨rfl,rfl⟩⟩
 ·have hg : g < w.heap.size := by
   rcases Nat.lt_or_ge g w.heap.size with hlt | hge
   ·exact hlt
   ·rw [Array.getElem?_eq_none hge] at hh; cases hh
  refine ⟨h1,Nat.le_trans hn hc,.inr ⟨⟨g,0,none⟩,cap,rfl,hn,hc,fun _ => hg,fun j u hu => ?_⟩⟩
  have hj : (Addr.add ⟨g,0,none⟩ j) = ⟨g,j,none⟩ := by
   unfold Addr.add; split
   ·rename_i h0; rw [h0]
   ·simp
  rw [hj,cell_of_row w g j cur e (0,0) hh]
  rw [← ht,List.getElem?_take] at hu
  split at hu
  ·simpa using hu
  ·cases hu
theorem add_zero_off (g j : Nat) : (Addr.add ⟨g,0,none⟩ j) = ⟨g,j,none⟩ := by
 unfold Addr.add; split
 ·rename_i h0; rw [h0]
 ·simp
theorem Sl.lit (w : World) (cs : Array Value) (t : TypeId) (c : Nat) (hn : n * size = cs.size) (hc : n ≤ c) (hm : c ≤ maxLen) : Sl (w.alloc (.cells cs t)) (w.heap.size + 1) size (.slice (some ⟨w.heap.size,0,none⟩) n c) n cs.toList := by
 refine ⟨by simp [hn],Nat.le_trans hc hm,.inr ⟨_,c,rfl,hc,hm,fun _ => Nat.lt_succ_self _,fun j u hu => ?_⟩⟩
 rw [add_zero_off,cell_of_row (w.alloc (.cells cs t)) w.heap.size j cs t (0,0) (heap_alloc_new w _)]
 simpa using hu
end
end Go.Proofs.YtjfdfbpgckilpaaGreatDoor
namespace Go.Proofs.YtjfdfbpgckilpaaGreatDoor
open Go.RowKit Go.ChangeShapes Go.WideShapes
set_option maxHeartbeats 32000000
section
variable {H : Type} {enc : TypeId × Value → H} {P : Program} {W : World}
theorem lt_of_cell {w : World} {a : Addr} {v : Value} (h : w.cell? a = some v) : a.block < w.heap.size := by
 rcases Nat.lt_or_ge a.block w.heap.size with h1 | h1
 ·exact h1
 ·simp [World.cell?,Array.getElem?_eq_none h1] at h
theorem open_ints_sl {t e : TypeId} {k : IntKind} {base : Nat} {v : Value} {d : DataW H} {ps : List MemPlace} (ht : P.underlying t = some (.slice e)) (he : P.underlying e = some (.int k)) (hc : P.cellsOf e = 1)
  (hval : Value.okWide P W .any base t v) (h : DataW.Trod enc P W 0 (fun _ => true) true t v d ps) : ∃ zs : List Int,Sl W W.heap.size 1 v zs.length (zs.map (Value.int k)) ∧ ∀ n ∈ zs,(Lit.int k n).wf = true := by
 obtain ⟨a0,len,cap,rfl⟩ := okWide_slice ht hval
 obtain ⟨fuel,hf⟩ := h
 rcases open_ints ht he hc hf with ⟨hcs,_⟩ | ⟨a,len',cap',zs,hcs,_,hl,hm,hz,_,hcell,hwz⟩
 ·simp only [Value.cells] at hcs
  cases hcs
  exact ⟨[],Sl.nil,by simp⟩
 ·simp only [Value.cells] at hcs
  cases hcs
  simp only [if_true] at hz
  have hlt : (zs.take len).length = len := by rw [List.length_take]; omega
  refine ⟨zs.take len,?_,fun n hn => hwz n (List.mem_of_mem_take hn)⟩
  rw [hlt]
  refine ⟨by rw [List.length_map,hlt]; omega,Nat.le_trans hl hm,.inr ⟨a,cap,rfl,hl,hm,fun hp => lt_of_cell (a := a.add 0) (hcell 0 (by omega)),fun j u hu => ?_⟩⟩
  rw [List.getElem?_map] at hu
  obtain ⟨z,hz2,rfl⟩ := Option.map_eq_some_iff.1 hu
  rw [List.getElem?_take] at hz2
  split at hz2
  ·have hj : j < zs.length := (List.getElem?_eq_some_iff.1 hz2).1
   rw [hcell j hj,List.getD_eq_getElem?_getD,hz2]; rfl
  ·cases hz2
theorem open_strs_sl {t e : TypeId} {base : Nat} {v : Value} {d : DataW H} {ps : List MemPlace} (ht : P.underlying t = some (.slice e)) (he : P.underlying e = some .string) (hc : P.cellsOf e = 1)
  (hval : Value.okWide P W .any base t v) (h : DataW.Trod enc P W 0 (fun _ => true) true t v d ps) : ∃ ss : List ByteArray,Sl W W.heap.size 1 v ss.length (ss.map Value.string) ∧ ∀ s ∈ ss,s.size ≤ maxLen := by
 obtain ⟨a0,len,cap,rfl⟩ := okWide_slice ht hval
 obtain ⟨fuel,hf⟩ := h
 rcases open_strings ht he hc hf with ⟨hcs,_⟩ | ⟨a,len',cap',zs,hcs,_,hl,hm,hz,_,hcell,hwz⟩
 ·simp only [Value.cells] at hcs
  cases hcs
  exact ⟨[],Sl.nil,by simp⟩
 ·simp only [Value.cells] at hcs
  cases hcs
  simp only [if_true] at hz
  have hlt : (zs.take len).length = len := by rw [List.length_take]; omega
  refine ⟨zs.take len,?_,fun n hn => hwz n (List.mem_of_mem_take hn)⟩
  rw [hlt]
  refine ⟨by rw [List.length_map,hlt]; omega,Nat.le_trans hl hm,.inr ⟨a,cap,rfl,hl,hm,fun hp => lt_of_cell (a := a.add 0) (hcell 0 (by omega)),fun j u hu => ?_⟩⟩
  rw [List.getElem?_map] at hu
  obtain ⟨z,hz2,rfl⟩ := Option.map_eq_some_iff.1 hu
  rw [List.getElem?_take] at hz2
  split at hz2
  ·have hj : j < zs.length := (List.getElem?_eq_some_iff.1 hz2).1
   rw [hcell j hj,List.getD_eq_getElem?_getD,hz2]; rfl
  ·cases hz2
end
end Go.Proofs.YtjfdfbpgckilpaaGreatDoor
namespace Go.Proofs.YtjfdfbpgckilpaaGreatDoor
open Go Go.LX Go.RowKit
set_option maxHeartbeats 32000000
theorem vsl_gen {w : World} {size n : Nat} {v : Value} {xs : List Value} (hsz : 0 < size) (h : Sl w w.heap.size size v n xs) {m : Int} {l : List PV} (hm : m = n) (hl : l.length = n * size) (hrel : ∀ (j : Nat) (u : PV),l[j]? = some u → ∃ x,xs[j]? = some x ∧ PR Ctx.empty.mut w u x) :
  LR Ctx.empty w (.p (.vsl (.sym m) true l)) v := by
 have h0 : (I.sym m).val = n := hm
 rcases h.form with ⟨rfl,rfl⟩ | ⟨a,c,rfl,h1,h2,h3,h4⟩
 ·exact .p _ _ (.vsl0 _ _ _ _ _ h0 (Nat.zero_le _))
 ·rcases Nat.eq_zero_or_pos n with rfl | hn
  ·exact .p _ _ (.vsl0 _ _ _ _ _ h0 h2)
  ·have hlen : 0 < l.length := by rw [hl]; exact Nat.mul_pos hn hsz
   obtain ⟨x0,hx0,_⟩ := hrel 0 l[0] (List.getElem?_eq_getElem hlen)
   have hc := h4 0 x0 hx0
   have hsp : a.spot = none := by
    have : w.cell? a = some x0 := hc
    unfold World.cell? at this
    split at this
    ·split at this
     ·cases this
     ·rename_i hns
      cases hs : a.spot with
      | none => rfl
      | some _ => rw [hs] at hns; exact absurd rfl hns
    ·cases this
   refine .p _ _ (.vsl _ _ _ a n c (fun j => xs.getD j Go.undef) h0 hsp (fun hM => ?_) (h3 hn) h1 h2 (fun j u hu => ?_) (fun j u hu => ?_))
   ·rcases hM with hx | ⟨b,hb⟩
    ·exact hx
    ·cases hb
   ·obtain ⟨x,hx,_⟩ := hrel j u hu
    rw [h4 j x hx,List.getD_eq_getElem?_getD,hx]; rfl
   ·obtain ⟨x,hx,hp⟩ := hrel j u hu
    rw [List.getD_eq_getElem?_getD,hx]; exact hp
theorem vsl_ints {w : World} {k : IntKind} {v : Value} {zs : List Int} (h : Sl w w.heap.size 1 v zs.length (zs.map (Value.int k))) {m : Int} {l : List PV} (hm : m = zs.length) (hl : l = zs.map fun z => PV.int k (.sym z)) : LR Ctx.empty w (.p (.vsl (.sym m) true l)) v := by
 subst hl
 refine vsl_gen Nat.one_pos h hm (by simp) fun j u hu => ?_
 rw [List.getElem?_map] at hu
 cases hz : zs[j]? with
 | none => rw [hz] at hu; cases hu
 | some z =>
  rw [hz] at hu
  cases hu
  exact ⟨.int k z,by rw [List.getElem?_map,hz]; rfl,.int k _ z rfl⟩
end Go.Proofs.YtjfdfbpgckilpaaGreatDoor
namespace Go.Proofs.YtjfdfbpgckilpaaGreatDoor
open Go Go.LX Go.RowKit Go.ChangeShapes Go.WideShapes
set_option maxHeartbeats 32000000
inductive CK where
 | i (k : IntKind)
 | b
 | s
def CK.is : CK → Option TypeDesc → Bool
 | .i k,some (.int k') => decide (k = k')
 | .b,some .bool => true
 | .s,some .string => true
 | _,_ => false
def CK.ok : CK → Value → Prop
 | .i k,x => ∃ n,x = .int k n ∧ (Lit.int k n).wf = true
 | .b,x => ∃ b,x = .bool b
 | .s,x => ∃ s,x = .string s ∧ s.size ≤ maxLen
def rowOK (P : Program) (e : TypeId) (sh : List CK) : Bool :=
 match P.underlying e with
 | some (.struct fs) => P.cellsOf e == sh.length && fs.size == sh.length && (List.range sh.length).all fun i => match fs[i]?,sh[i]? with
  | some f,some k => f.offset == i && P.cellsOf f.type == 1 && k.is (P.underlying f.type)
  | _,_ => false
 | _ => false
section
variable {H : Type} {enc : TypeId × Value → H} {P : Program} {W : World}
theorem ck_trod {k : CK} {t : TypeId} {base fuel : Nat} {spare : Nat → Bool} {held : Bool} {cs : List Value} {x : DataW H × List MemPlace} (hk : k.is (P.underlying t) = true) (h : DataW.trod enc P W base spare held fuel t cs = some x) : ∃ c,cs = [c] ∧ k.ok c := by
 unfold CK.is at hk
 split at hk
 ·rename_i k1 k2 hu
  have hk := of_decide_eq_true hk
  subst hk
  obtain ⟨n,h1,_,h2⟩ := DataW.trod_int hu h
  exact ⟨_,h1,n,rfl,h2⟩
 ·rename_i hu
  obtain ⟨b,h1,_⟩ := DataW.trod_bool hu h
  exact ⟨_,h1,b,rfl⟩
 ·rename_i hu
  obtain ⟨s,h1,_,h2⟩ := DataW.trod_string hu h
  exact ⟨_,h1,s,rfl,h2⟩
 ·cases hk
theorem row_trod {sh : List CK} {e : TypeId} {base fuel : Nat} {spare : Nat → Bool} {held : Bool} {cs : List Value} {x : DataW H × List MemPlace} (hk : rowOK P e sh = true) (h : DataW.trod enc P W base spare held fuel e cs = some x) :
  cs.length = sh.length ∧ P.cellsOf e = sh.length ∧ ∀ (j : Nat) (c : Value),cs[j]? = some c → ∃ k,sh[j]? = some k ∧ k.ok c := by
 unfold rowOK at hk
 split at hk
 ·rename_i fs hu
  simp only [Bool.and_eq_true,beq_iff_eq,List.all_eq_true,List.mem_range] at hk
  obtain ⟨⟨h1,h2⟩,h3⟩ := hk
  obtain ⟨xs,n,_,_,h4,h5,h6⟩ := DataW.trod_struct hu h
  refine ⟨by omega,h1,fun j c hj => ?_⟩
  have hlt := (List.getElem?_eq_some_iff.1 hj).1
  have h7 := h3 j (by omega)
  split at h7
  ·rename_i f k hf hk
   simp only [Bool.and_eq_true,beq_iff_eq] at h7
   obtain ⟨⟨h8,h9⟩,h10⟩ := h7
   have h11 := h6 j f hf
   rw [h8,h9,List.getElem?_eq_getElem (by omega : j < xs.length)] at h11
   obtain ⟨c',h12,h13⟩ := ck_trod h10 h11
   have : c' = c := by
    have e1 : ((cs.drop j).take 1)[0]? = some c' := by rw [h12]; rfl
    rw [List.getElem?_take,if_pos (by omega),List.getElem?_drop,Nat.add_zero,hj] at e1
    exact (Option.some.inj e1).symm
   subst this
   exact ⟨k,hk,h13⟩
  ·cases h7
 ·cases hk
theorem spot_of_cell {w : World} {a : Addr} {x : Value} (h : w.cell? a = some x) : a.spot = none := by
 unfold World.cell? at h
 split at h
 ·split at h
  ·cases h
  ·rename_i hns
   cases hs : a.spot with
   | none => rfl
   | some _ => rw [hs] at hns; exact absurd rfl hns
 ·cases h
theorem open_rows {t e : TypeId} (sh : List CK) {base : Nat} {v : Value} {d : DataW H} {ps : List MemPlace} (ht : P.underlying t = some (.slice e)) (hk : rowOK P e sh = true) (hsz : 0 < sh.length)
  (hval : Value.okWide P W .any base t v) (h : DataW.Trod enc P W 0 (fun _ => true) true t v d ps) : ∃ (n : Nat) (xs : List Value),Sl W W.heap.size sh.length v n xs ∧ ∀ (j : Nat) (c : Value),xs[j]? = some c → ∃ k,sh[j % sh.length]? = some k ∧ k.ok c := by
 obtain ⟨a0,len,cap,rfl⟩ := okWide_slice ht hval
 obtain ⟨fuel,hf⟩ := h
 rcases DataW.trod_slice ht hf with ⟨hcs,_⟩ | ⟨a,len',cap',elems,rest,n,_,hcs,_,hb,hl,hm,hlen,hel,_⟩
 ·simp only [Value.cells] at hcs
  cases hcs
  exact ⟨0,[],⟨by simp,Nat.zero_le _,.inl ⟨rfl,rfl⟩⟩,fun j c hj => by simp at hj⟩
 ·simp only [Value.cells] at hcs
  cases hcs
  have each : ∀ i,i < len → ∀ r,r < sh.length → ∃ c k,W.cell? ((a.add (i * sh.length)).add r) = some c ∧ sh[r]? = some k ∧ k.ok c := by
   intro i hi r hr
   have h1 := hel i hi
   rw [List.getElem?_eq_getElem (by omega : i < elems.length),Option.bind_eq_some_iff] at h1
   obtain ⟨cs,h2,h3⟩ := h1
   obtain ⟨h4,h5,h6⟩ := row_trod hk h3
   rw [h5] at h2
   obtain ⟨_,h7,h8⟩ := World.cells?_some h2
   have h9 : cs[r]? = some cs[r] := List.getElem?_eq_getElem (by omega)
   obtain ⟨k,h10,h11⟩ := h6 r _ h9
   exact ⟨_,k,(h8 r hr).trans h9,h10,h11⟩
  have cell : ∀ j,j < len * sh.length → ∃ c k,W.cell? (a.add j) = some c ∧ sh[j % sh.length]? = some k ∧ k.ok c := by
   intro j hj
   have hi : j / sh.length < len := (Nat.div_lt_iff_lt_mul hsz).2 hj
   have hr := Nat.mod_lt j hsz
   have hsp : a.spot = none := by
    obtain ⟨c,_,h1,_⟩ := each 0 (Nat.lt_of_le_of_lt (Nat.zero_le _) hi) 0 hsz
    have := spot_of_cell h1
    simpa [Addr.add] using this
   obtain ⟨c,k,h1,h2,h3⟩ := each _ hi _ hr
   rw [Addr.add_off hsp] at h1
   have : j / sh.length * sh.length + j % sh.length = j := by rw [Nat.mul_comm]; exact Nat.div_add_mod j sh.length
   rw [this] at h1
   exact ⟨c,k,h1,h2,h3⟩
  refine ⟨len,(List.range (len * sh.length)).map fun j => (W.cell? (a.add j)).getD Go.undef,⟨by simp,Nat.le_trans hl hm,.inr ⟨a,cap,rfl,hl,hm,fun hp => ?_,fun j u hu => ?_⟩⟩,fun j c hj => ?_⟩
  ·obtain ⟨c,_,h1,_⟩ := cell 0 (Nat.mul_pos hp hsz)
   have := lt_of_cell h1
   simpa [Addr.add] using this
  ·rw [List.getElem?_map] at hu
   by_cases hj : j < len * sh.length
   ·rw [List.getElem?_range hj] at hu
    obtain ⟨c,_,h1,_⟩ := cell j hj
    simp only [Option.map_some,h1,Option.getD_some] at hu
    rw [h1]; exact hu
   ·rw [List.getElem?_eq_none (by simp; omega)] at hu; cases hu
  ·rw [List.getElem?_map] at hj
   by_cases hjl : j < len * sh.length
   ·rw [List.getElem?_range hjl] at hj
    obtain ⟨c',k,h1,h2,h3⟩ := cell j hjl
    simp only [Option.map_some,h1,Option.getD_some] at hj
    cases hj
    exact ⟨k,h2,h3⟩
   ·rw [List.getElem?_eq_none (by simp; omega)] at hj; cases hj
theorem open_threes {t e : TypeId} {base : Nat} {v : Value} {d : DataW H} {ps : List MemPlace} (ht : P.underlying t = some (.slice e)) (hk : rowOK P e [.i .i64,.i .i64,.i .i64] = true)
  (hval : Value.okWide P W .any base t v) (h : DataW.Trod enc P W 0 (fun _ => true) true t v d ps) : ∃ A : List (Int × Int × Int),Sl W W.heap.size 3 v A.length (A.flatMap fun e => [.int .i64 e.1,.int .i64 e.2.1,.int .i64 e.2.2]) ∧ ∀ e ∈ A,(Lit.int .i64 e.1).wf = true ∧ (Lit.int .i64 e.2.1).wf = true ∧ (Lit.int .i64 e.2.2).wf = true := by
 obtain ⟨n,xs,h1,h2⟩ := open_rows [.i .i64,.i .i64,.i .i64] ht hk (by decide) hval h
 have h3 : ∀ (j : Nat) (c : Value),xs[j]? = some c → ∃ z,c = .int .i64 z ∧ (Lit.int .i64 z).wf = true := by
  intro j c hj
  obtain ⟨k,h4,h5⟩ := h2 j c hj
  have : j % 3 < 3 := Nat.mod_lt _ (by omega)
  have h6 : ∀ r,r < 3 → ([.i .i64,.i .i64,.i .i64] : List CK)[r]? = some (.i .i64) := by
   intro r hr
   rcases r with _ | _ | _ | r
   ·rfl
   ·rfl
   ·rfl
   ·omega
  have h4 : ([.i .i64,.i .i64,.i .i64] : List CK)[j % 3]? = some k := h4
  rw [h6 _ this] at h4; cases h4; exact h5
 have chunk : ∀ (n : Nat) (xs : List Value),xs.length = n * 3 → (∀ (j : Nat) (c : Value),xs[j]? = some c → ∃ z,c = .int .i64 z ∧ (Lit.int .i64 z).wf = true) → ∃ A : List (Int × Int × Int),A.length = n ∧ xs = (A.flatMap fun e => [.int .i64 e.1,.int .i64 e.2.1,.int .i64 e.2.2]) ∧ ∀ e ∈ A,(Lit.int .i64 e.1).wf = true ∧ (Lit.int .i64 e.2.1).wf = true ∧ (Lit.int .i64 e.2.2).wf = true := by
  intro n
  induction n with
  | zero => intro xs hl _; exact ⟨[],rfl,by simpa using hl,by simp⟩
  | succ n ih =>
   intro xs hl hx
   match xs,hl,hx with
   | x :: y :: z :: xs,hl,hx =>
    obtain ⟨a,rfl,ha⟩ := hx 0 x rfl
    obtain ⟨b,rfl,hb⟩ := hx 1 y rfl
    obtain ⟨c,rfl,hc⟩ := hx 2 z rfl
    obtain ⟨A,g1,g2,g3⟩ := ih xs (by simp at hl; omega) (fun j c hj => hx (j + 3) c (by simpa using hj))
    refine ⟨(a,b,c) :: A,by simp [g1],by rw [g2]; simp,fun e he => ?_⟩
    rcases List.mem_cons.1 he with rfl | he
    ·exact ⟨ha,hb,hc⟩
    ·exact g3 e he
   | [],hl,_ => simp at hl
   | [_],hl,_ => simp at hl; omega
   | [_,_],hl,_ => simp at hl; omega
 obtain ⟨A,g1,g2,g3⟩ := chunk n xs h1.len h3
 exact ⟨A,by rw [g1,← g2]; exact h1,g3⟩
theorem open_twos {t e : TypeId} {base : Nat} {v : Value} {d : DataW H} {ps : List MemPlace} (ht : P.underlying t = some (.slice e)) (hk : rowOK P e [.i .i64,.i .i64] = true)
  (hval : Value.okWide P W .any base t v) (h : DataW.Trod enc P W 0 (fun _ => true) true t v d ps) : ∃ A : List (Int × Int),Sl W W.heap.size 2 v A.length (A.flatMap fun e => [.int .i64 e.1,.int .i64 e.2]) ∧ ∀ e ∈ A,(Lit.int .i64 e.1).wf = true ∧ (Lit.int .i64 e.2).wf = true := by
 obtain ⟨n,xs,h1,h2⟩ := open_rows [.i .i64,.i .i64] ht hk (by decide) hval h
 have h3 : ∀ (j : Nat) (c : Value),xs[j]? = some c → ∃ z,c = .int .i64 z ∧ (Lit.int .i64 z).wf = true := by
  intro j c hj
  obtain ⟨k,h4,h5⟩ := h2 j c hj
  have : j % 2 < 2 := Nat.mod_lt _ (by omega)
  have h6 : ∀ r,r < 2 → ([.i .i64,.i .i64] : List CK)[r]? = some (.i .i64) := by
   intro r hr
   rcases r with _ | _ | r
   ·rfl
   ·rfl
   ·omega
  have h4 : ([.i .i64,.i .i64] : List CK)[j % 2]? = some k := h4
  rw [h6 _ this] at h4; cases h4; exact h5
 have chunk : ∀ (n : Nat) (xs : List Value),xs.length = n * 2 → (∀ (j : Nat) (c : Value),xs[j]? = some c → ∃ z,c = .int .i64 z ∧ (Lit.int .i64 z).wf = true) → ∃ A : List (Int × Int),A.length = n ∧ xs = (A.flatMap fun e => [.int .i64 e.1,.int .i64 e.2]) ∧ ∀ e ∈ A,(Lit.int .i64 e.1).wf = true ∧ (Lit.int .i64 e.2).wf = true := by
  intro n
  induction n with
  | zero => intro xs hl _; exact ⟨[],rfl,by simpa using hl,by simp⟩
  | succ n ih =>
   intro xs hl hx
   match xs,hl,hx with
   | x :: y :: xs,hl,hx =>
    obtain ⟨a,rfl,ha⟩ := hx 0 x rfl
    obtain ⟨b,rfl,hb⟩ := hx 1 y rfl
    obtain ⟨A,g1,g2,g3⟩ := ih xs (by simp at hl; omega) (fun j c hj => hx (j + 2) c (by simpa using hj))
    refine ⟨(a,b) :: A,by simp [g1],by rw [g2]; simp,fun e he => ?_⟩
    rcases List.mem_cons.1 he with rfl | he
    ·exact ⟨ha,hb⟩
    ·exact g3 e he
   | [],hl,_ => simp at hl
   | [_],hl,_ => simp at hl; omega
 obtain ⟨A,g1,g2,g3⟩ := chunk n xs h1.len h3
 exact ⟨A,by rw [g1,← g2]; exact h1,g3⟩
end
end Go.Proofs.YtjfdfbpgckilpaaGreatDoor
namespace Go.Proofs.YtjfdfbpgckilpaaGreatDoor
open Go Go.LX
set_option maxRecDepth 100000
set_option linter.unusedVariables false
set_option linter.unusedSimpArgs false
set_option maxHeartbeats 32000000
inductive Meant (w : Int) : LV → Prop
 | place (x : Int) (h : w % 2 = 1) (hx : x = (w - 1) / 2) : Meant w (.iface 230 (.p (.int .i64 (.sym x))))
 | number (x : Int) (h : ¬ w % 2 = 1) (hx : x = w / 2) : Meant w (.iface 277 (.p (.int .i64 (.sym x))))
theorem and1_bv (x : Int) : IntKind.i64.wrap ((BitVec.ofInt 64 x &&& BitVec.ofInt 64 1).toNat : Int) = x % 2 := and1_i64 x
theorem meaning_lx (w : Int) (hw : -9223372036854775808 ≤ w ∧ w ≤ 9223372036854775807) : CallF (fun _ => Tryz.prog) 180 [i6 w] [] 0 (fun r h n => Meant w r ∧ h = [] ∧ n = 0) := by
 refine callF_of_body tok Tryz.func180 (by kernel_rfl) rfl rfl rfl ?_; conv => cbv
 refine Sum.mk fun u hu => ?_
 have hu : u = w % 2 := hu.trans (and1_bv w)
 conv => cbv
 refine Br.mk (fun g => ?_) (fun g => ?_)
 ·have g : u = 1 := g
  conv => cbv
  refine Fit.mk (by show (-9223372036854775808 : Int) ≤ w - 1; omega) (by show w - 1 ≤ 9223372036854775807; omega) fun v hv => ?_
  have hv : v = w - 1 := hv
  conv => cbv
  have hdv : v.tdiv 2 = (w - 1) / 2 := by rw [hv]; exact Int.tdiv_eq_ediv_of_dvd (by omega)
  refine Fit.mk (by show (-9223372036854775808 : Int) ≤ v.tdiv 2; omega) (by show v.tdiv 2 ≤ 9223372036854775807; omega) fun y hy => ?_
  have hy : y = (w - 1) / 2 := hy.trans hdv
  conv => cbv
  refine RetF.mk [.iface 230 (.p (.int .i64 (.sym y)))] [] 0 (Re.at [] []) rfl ⟨.place y (by omega) hy,rfl,rfl⟩
 ·have g : ¬ u = 1 := g
  conv => cbv
  have hdv : w.tdiv 2 = w / 2 := Int.tdiv_eq_ediv_of_dvd (by omega)
  refine Fit.mk (by show (-9223372036854775808 : Int) ≤ w.tdiv 2; omega) (by show w.tdiv 2 ≤ 9223372036854775807; omega) fun y hy => ?_
  conv => cbv
  refine RetF.mk [.iface 277 (.p (.int .i64 (.sym y)))] [] 0 (Re.at [] []) rfl ⟨.number y (by omega) (hy.trans hdv),rfl,rfl⟩
theorem isPtr_lx (w : Int) (hw : -9223372036854775808 ≤ w ∧ w ≤ 9223372036854775807) : CallF (fun _ => Tryz.prog) 122 [i6 w] [] 0 (fun r h n => ∃ b : Bool,r = .p (.bool b) ∧ h = [] ∧ n = 0 ∧ (b = true ↔ w % 2 = 1)) := by
 refine callF_of_body tok Tryz.func122 (by kernel_rfl) rfl rfl rfl ?_; conv => cbv
 refine callF_frame (meaning_lx w hw) [] rfl trivial rfl rfl (fun r h' n' hrr => ?_)
 obtain ⟨hm,e2,e3⟩ := hrr
 subst e2 e3
 cases hm with
 | place x h hx =>
  conv => cbv
  refine RetF.mk [.p (.bool true)] [] 0 (Re.at [] []) rfl ⟨true,rfl,rfl,rfl,fun _ => h,fun _ => rfl⟩
 | number x h hx =>
  conv => cbv
  refine RetF.mk [.p (.bool false)] [] 0 (Re.at [] []) rfl ⟨false,rfl,rfl,rfl,fun k => (by cases k),fun k => absurd k h⟩
theorem atV_lx (w : Int) (hw : -9223372036854775808 ≤ w ∧ w ≤ 9223372036854775807) : CallF (fun _ => Tryz.prog) 123 [i6 w] [] 0 (fun r h n => ∃ x : Int,r = .p (.int .i64 (.sym x)) ∧ h = [] ∧ n = 0 ∧ (w % 2 = 1 → x = (w - 1) / 2) ∧ (¬ w % 2 = 1 → x = -1)) := by
 refine callF_of_body tok Tryz.func123 (by kernel_rfl) rfl rfl rfl ?_; conv => cbv
 refine callF_frame (meaning_lx w hw) [] rfl trivial rfl rfl (fun r h' n' hrr => ?_)
 obtain ⟨hm,e2,e3⟩ := hrr
 subst e2 e3
 cases hm with
 | place x h hx =>
  conv => cbv
  refine RetF.mk [i6 x] [] 0 (Re.at [] []) rfl ⟨x,rfl,rfl,rfl,fun _ => hx,fun k => absurd h k⟩
 | number x h hx =>
  conv => cbv
  refine RetF.mk [i6 (-1)] [] 0 (Re.at [] []) rfl ⟨-1,rfl,rfl,rfl,fun k => absurd k h,fun _ => rfl⟩
end Go.Proofs.YtjfdfbpgckilpaaGreatDoor
namespace Go.Proofs.YtjfdfbpgckilpaaGreatDoor
open Go Go.LX
set_option maxRecDepth 100000
set_option linter.unusedVariables false
set_option linter.unusedSimpArgs false
set_option maxHeartbeats 32000000
def objs (R : List Rw) : List Int := objsTo R R.length
def K1 (R : List Rw) (ws : List Int) : Prop := ∀ a k l,Kept R ws a k l → 1 ≤ k
structure HM (R : List Rw) (ws C G : List Int) (N W : Int) (L D Q : List PV) (z : ByteArray) : Prop where
 a : AOk R ws
 k : K1 R ws
 n : N = R.length
 r : R.length ≤ 1000
 w : W = 32 * N
 l : L = rpv R
 d : D = ipv ws
 q : Q = ipv C
 c : (C.length : Int) = W
 z : z = ⟨(enc G).toArray⟩
 g : ∀ x ∈ G,0 ≤ x ∧ x < W
 g8 : G.length ≤ 8
def shade (R : List Rw) (ph a : Int) (s : List Int × List Int × Bool) : List Int × List Int × Bool :=
 if ph = 1 ∧ a ∈ objs R ∧ s.1[a.toNat]? = some 0 then (s.1.set a.toNat 1,if s.2.1.length < 8 then (s.2.1 ++ [a],s.2.2) else (s.2.1,true)) else s
theorem obj_iff {R : List Rw} {ws : List Int} (hA : AOk R ws) (a : Int) : a ∈ objs R ↔ IsObj R a := objs_mem hA.rows a
theorem obj_bd {R : List Rw} {ws : List Int} (hA : AOk R ws) {a : Int} (h : a ∈ objs R) : 0 ≤ a ∧ a < 32 * R.length := by
 obtain ⟨k,l,hk⟩ := Kept.of hA ((obj_iff hA a).1 h)
 have := hk.bounds hA
 omega
theorem HM.g64 {R : List Rw} {ws C G : List Int} {N W : Int} {L D Q : List PV} {z : ByteArray} (h : HM R ws C G N W L D Q z) : ∀ x ∈ G,i64 x := by
 intro x hx
 have h1 := h.g x hx; have h2 := h.w; have h3 := h.n; have h4 := h.r
 exact ⟨by omega,by omega⟩
theorem HM.shade {R : List Rw} {ws C G C' G' : List Int} {N W : Int} {L D Q Q' : List PV} {z z' : ByteArray} {ph a : Int} {ov ov' : Bool} (h : HM R ws C G N W L D Q z) (hs : (C',G',ov') = shade R ph a (C,G,ov)) (hQ : Q' = ipv C') (hz : z' = ⟨(enc G').toArray⟩) : HM R ws C' G' N W L D Q' z' := by
 unfold Go.Proofs.YtjfdfbpgckilpaaGreatDoor.shade at hs
 split at hs
 ·rename_i hc
  have hb := obj_bd h.a hc.2.1
  have hn := h.n; have hw := h.w
  split at hs
  ·rename_i h8
   have h8 : G.length < 8 := h8
   have hl8 : (G ++ [a]).length ≤ 8 := by rw [List.length_append]; show G.length + 1 ≤ 8; omega
   cases hs
   refine ⟨h.a,h.k,h.n,h.r,h.w,h.l,h.d,hQ,by rw [List.length_set]; exact h.c,hz,fun x hx => ?_,hl8⟩
   rcases List.mem_append.1 hx with hx | hx
   ·exact h.g x hx
   ·rw [List.mem_singleton.1 hx]; omega
  ·cases hs
   exact ⟨h.a,h.k,h.n,h.r,h.w,h.l,h.d,hQ,by rw [List.length_set]; exact h.c,hz,h.g,h.g8⟩
 ·cases hs
  exact ⟨h.a,h.k,h.n,h.r,h.w,h.l,h.d,hQ,h.c,hz,h.g,h.g8⟩
theorem ipv_set (l : List Int) (i : Nat) (x : Int) : (ipv l).set i (.int .i64 (.sym x)) = ipv (l.set i x) := by
 unfold ipv
 rw [List.map_set]
theorem arena_lx (R : List Rw) (ws C G : List Int) (N W ph sp cy : Int) (L D Q : List PV) (z : ByteArray) (ov : Bool) : CallF (fun _ => Tryz.prog) 12 [.ptr 0 (.lit 0)] [hpA 0 1 5 6 3 W ph sp cy,hpB 1 2 4 3 W,hpC 2 3 179 2 N,hpP 3 L,hpP 4 D,hpF 5 z ov,hpP 6 Q] 7 (fun r h n => r = .ptr 1 (.lit 0) ∧ h = [hpA 0 1 5 6 3 W ph sp cy,hpB 1 2 4 3 W,hpC 2 3 179 2 N,hpP 3 L,hpP 4 D,hpF 5 z ov,hpP 6 Q] ∧ n = 7) := by
 refine callF_of_body tok Tryz.func12 (by kernel_rfl) rfl rfl rfl ?_; conv => cbv
 refine RetF.mk [.ptr 1 (.lit 0)] [hpA 0 1 5 6 3 W ph sp cy,hpB 1 2 4 3 W,hpC 2 3 179 2 N,hpP 3 L,hpP 4 D,hpF 5 z ov,hpP 6 Q] 7 (Re.at [(0,0),(1,1),(2,2),(3,3),(4,4),(5,5),(6,6)] []) rfl ⟨rfl,rfl,rfl⟩
theorem arenaNil_lx : CallF (fun _ => Tryz.prog) 12 [.p .nilp] [] 0 (fun r h n => r = .p .nilp ∧ h = [] ∧ n = 0) := by
 refine callF_of_body tok Tryz.func12 (by kernel_rfl) rfl rfl rfl ?_; conv => cbv
 refine RetF.mk [.p .nilp] [] 0 (Re.at [] []) rfl ⟨rfl,rfl,rfl⟩
theorem phase_lx (R : List Rw) (ws C G : List Int) (N W ph sp cy : Int) (L D Q : List PV) (z : ByteArray) (ov : Bool) : CallF (fun _ => Tryz.prog) 19 [.ptr 0 (.lit 0)] [hpA 0 1 5 6 3 W ph sp cy,hpB 1 2 4 3 W,hpC 2 3 179 2 N,hpP 3 L,hpP 4 D,hpF 5 z ov,hpP 6 Q] 7 (fun r h n => r = .p (.int .i64 (.sym ph)) ∧ h = [hpA 0 1 5 6 3 W ph sp cy,hpB 1 2 4 3 W,hpC 2 3 179 2 N,hpP 3 L,hpP 4 D,hpF 5 z ov,hpP 6 Q] ∧ n = 7) := by
 refine callF_of_body tok Tryz.func19 (by kernel_rfl) rfl rfl rfl ?_; conv => cbv
 refine RetF.mk [i6 ph] [hpA 0 1 5 6 3 W ph sp cy,hpB 1 2 4 3 W,hpC 2 3 179 2 N,hpP 3 L,hpP 4 D,hpF 5 z ov,hpP 6 Q] 7 (Re.at [(0,0),(1,1),(2,2),(3,3),(4,4),(5,5),(6,6)] []) rfl ⟨rfl,rfl,rfl⟩
theorem phaseNil_lx : CallF (fun _ => Tryz.prog) 19 [.p .nilp] [] 0 (fun r h n => r = .p (.int .i64 (.sym 0)) ∧ h = [] ∧ n = 0) := by
 refine callF_of_body tok Tryz.func19 (by kernel_rfl) rfl rfl rfl ?_; conv => cbv
 refine RetF.mk [i6 0] [] 0 (Re.at [] []) rfl ⟨rfl,rfl,rfl⟩
theorem is_lx (R : List Rw) (ws C G : List Int) (N W ph sp cy : Int) (L D Q : List PV) (z : ByteArray) (ov : Bool) (h : HM R ws C G N W L D Q z) (a c : Int) : CallF (fun _ => Tryz.prog) 124 [.ptr 0 (.lit 0),i6 a,i6 c] [hpA 0 1 5 6 3 W ph sp cy,hpB 1 2 4 3 W,hpC 2 3 179 2 N,hpP 3 L,hpP 4 D,hpF 5 z ov,hpP 6 Q] 7 (fun r h n => ∃ b : Bool,r = .p (.bool b) ∧ h = [hpA 0 1 5 6 3 W ph sp cy,hpB 1 2 4 3 W,hpC 2 3 179 2 N,hpP 3 L,hpP 4 D,hpF 5 z ov,hpP 6 Q] ∧ n = 7 ∧ (b = true ↔ a ∈ objs R ∧ C[a.toNat]? = some c)) := by
 have hCl := h.c; have hWn := h.w; have hNr := h.n
 have hQl : Q.length = C.length := by rw [h.q,ipv_length]
 refine callF_of_body tok Tryz.func124 (by kernel_rfl) rfl rfl rfl ?_; conv => cbv
 refine cfr (arena_lx R ws C G N W ph sp cy L D Q z ov) [(0,0),(1,1),(2,2),(3,3),(4,4),(5,5),(6,6)] (fun r h' n' ⟨e1,e2,e3⟩ => ?_)
 subst e1 e2 e3
 conv => cbv
 refine cfr (kind_lx R ws N a W L D h.l h.d h.n h.r h.a h.w) [(0,1),(1,2),(2,3),(3,4)] (fun r h' n' hrr => ?_)
 obtain ⟨v,e1,e2,e3,hv⟩ := hrr
 subst e1 e2 e3
 conv => cbv
 refine Br.mk (fun g => ?_) (fun g => ?_)
 ·have g : v ≠ 0 := g
  obtain ⟨l,hk⟩ : ∃ l,Kept R ws a v l := by
   cases hv with
   | no hn => exact absurd rfl g
   | is k l hk => exact ⟨l,hk⟩
  have hb := hk.bounds h.a
  have ho : a ∈ objs R := (obj_iff h.a a).2 hk.obj6
  obtain ⟨x,hx⟩ : ∃ x,C[a.toNat]? = some x := ⟨_,List.getElem?_eq_getElem (by omega)⟩
  have hq : Q[a.toNat]? = some (.int .i64 (.sym x)) := by rw [h.q]; exact ipv_get hx
  conv => cbv
  refine Need.mk ⟨by show 0 ≤ a; omega,by show a < W; omega⟩ ?_
  conv => cbv
  refine Cell.at a _ hq (by simp [I.val]) rfl ?_
  conv => cbv
  refine Br.mk (fun g2 => ?_) (fun g2 => ?_)
  ·have g2 : x = c := g2
   conv => cbv
   refine RetF.mk [.p (.bool true)] [hpA 0 1 5 6 3 W ph sp cy,hpB 1 2 4 3 W,hpC 2 3 179 2 N,hpP 3 L,hpP 4 D,hpF 5 z ov,hpP 6 Q] 7 (Re.at [(0,0),(1,1),(2,2),(3,3),(4,4),(5,5),(6,6)] []) rfl ⟨true,rfl,rfl,rfl,fun _ => ⟨ho,by rw [hx,g2]⟩,fun _ => rfl⟩
  ·have g2 : ¬ x = c := g2
   conv => cbv
   refine RetF.mk [.p (.bool false)] [hpA 0 1 5 6 3 W ph sp cy,hpB 1 2 4 3 W,hpC 2 3 179 2 N,hpP 3 L,hpP 4 D,hpF 5 z ov,hpP 6 Q] 7 (Re.at [(0,0),(1,1),(2,2),(3,3),(4,4),(5,5),(6,6)] []) rfl ⟨false,rfl,rfl,rfl,fun k => (by cases k),fun h => absurd (Option.some.inj (hx.symm.trans h.2)) g2⟩
 ·have g : ¬ v ≠ 0 := g
  have hno : ¬ a ∈ objs R := by
   intro ho
   cases hv with
   | no hn => exact hn ((obj_iff h.a a).1 ho)
   | is k l hk => have := h.k a v l hk; omega
  conv => cbv
  refine RetF.mk [.p (.bool false)] [hpA 0 1 5 6 3 W ph sp cy,hpB 1 2 4 3 W,hpC 2 3 179 2 N,hpP 3 L,hpP 4 D,hpF 5 z ov,hpP 6 Q] 7 (Re.at [(0,0),(1,1),(2,2),(3,3),(4,4),(5,5),(6,6)] []) rfl ⟨false,rfl,rfl,rfl,fun k => (by cases k),fun h => absurd h.1 hno⟩
theorem shade_lx (R : List Rw) (ws C G : List Int) (N W ph sp cy : Int) (L D Q : List PV) (z : ByteArray) (ov : Bool) (h : HM R ws C G N W L D Q z) (o : Unit → Obj) (ho : IsPow o) (a : Int) : CallF (fun _ => Tryz.prog) 61 [.ptr 0 (.lit 0),i6 a] [hpA 0 1 5 6 3 W ph sp cy,hpB 1 2 4 3 W,hpC 2 3 179 2 N,hpP 3 L,hpP 4 D,hpF 5 z ov,hpP 6 Q,(7,.fix 0 o)] 8 (fun r h n => ∃ (C' G' : List Int) (ov' : Bool) (Q' : List PV) (z' : ByteArray),r = .tup [] ∧ h = [hpA 0 1 5 6 3 W ph sp cy,hpB 1 2 4 3 W,hpC 2 3 179 2 N,hpP 3 L,hpP 4 D,hpF 5 z' ov',hpP 6 Q',(7,.fix 0 o)] ∧ n = 8 ∧ HM R ws C' G' N W L D Q' z' ∧ (C',G',ov') = shade R ph a (C,G,ov)) := by
 have hCl := h.c; have hWn := h.w; have hNr := h.n; have hRr := h.r
 have hQl : Q.length = C.length := by rw [h.q,ipv_length]
 refine callF_of_body tok Tryz.func61 (by kernel_rfl) rfl rfl rfl ?_; conv => cbv
 refine cfr (phase_lx R ws C G N W ph sp cy L D Q z ov) [(0,0),(1,1),(2,2),(3,3),(4,4),(5,5),(6,6)] (fun r h' n' ⟨e1,e2,e3⟩ => ?_)
 subst e1 e2 e3
 conv => cbv
 refine Br.mk (fun g => ?_) (fun g => ?_)
 ·have g : ph ≠ 1 := g
  conv => cbv
  refine RetF.mk [] [hpA 0 1 5 6 3 W ph sp cy,hpB 1 2 4 3 W,hpC 2 3 179 2 N,hpP 3 L,hpP 4 D,hpF 5 z ov,hpP 6 Q,(7,.fix 0 o)] 8 (Re.at [(0,0),(1,1),(2,2),(3,3),(4,4),(5,5),(6,6),(7,7)] []) rfl ⟨C,G,ov,Q,z,rfl,rfl,rfl,h,by unfold Go.Proofs.YtjfdfbpgckilpaaGreatDoor.shade; rw [if_neg (fun k => g k.1)]⟩
 ·have g : ¬ ph ≠ 1 := g
  have g : ph = 1 := by omega
  conv => cbv
  refine CallF.le (args0 := [.ptr 0 (.lit 0),i6 a,i6 0]) (cfr (is_lx R ws C G N W ph sp cy L D Q z ov h a 0) [(0,0),(1,1),(2,2),(3,3),(4,4),(5,5),(6,6)] (fun r h' n' hrr => ?_)) (by simp [ales,ale,pvle,I.val])
  obtain ⟨b,e1,e2,e3,hb⟩ := hrr
  subst e1 e2 e3
  cases b with
  | false =>
   conv => cbv
   refine RetF.mk [] [hpA 0 1 5 6 3 W ph sp cy,hpB 1 2 4 3 W,hpC 2 3 179 2 N,hpP 3 L,hpP 4 D,hpF 5 z ov,hpP 6 Q,(7,.fix 0 o)] 8 (Re.at [(0,0),(1,1),(2,2),(3,3),(4,4),(5,5),(6,6),(7,7)] []) rfl ⟨C,G,ov,Q,z,rfl,rfl,rfl,h,by unfold Go.Proofs.YtjfdfbpgckilpaaGreatDoor.shade; rw [if_neg (fun k => by have := hb.2 k.2; cases this)]⟩
  | true =>
   have hbd := obj_bd h.a (hb.1 rfl).1
   conv => cbv
   refine Need.mk ⟨by show 0 ≤ a; omega,by show a < W; omega⟩ ?_
   conv => cbv
   refine Need.mk (by show a + 1 ≤ (Q.length : Int); omega) ?_
   conv => cbv
   refine Upd.mk fun Q2 hQ2 => ?_
   obtain ⟨Q3,hQ3⟩ : ∃ Q3,Q3 = ipv (C.set a.toNat 1) := ⟨_,rfl⟩
   have hle : pvles Q2 Q3 := by
    have hQ2 : Q2 = Q.set a.toNat (.int .i64 (.lit 1)) := hQ2
    rw [hQ2,hQ3,h.q,← ipv_set]
    exact pvles_set _ _ _ _ _ (pvles_refl _) (by simp [pvle,I.val])
   unfold pvles at hle
   clear hQ2
   conv => cbv
   refine cfr (greyPush_lx G a z ov o ho h.z h.g64 h.g8 ⟨by omega,by omega⟩) [(0,7),(1,5)] (fun r h' n' hrr => ?_)
   obtain ⟨b2,ov',z',G',e1,e2,e3,hz',hp1,hp2⟩ := hrr
   subst e1 e2 e3
   have hsh : (C.set a.toNat 1,G',ov') = Go.Proofs.YtjfdfbpgckilpaaGreatDoor.shade R ph a (C,G,ov) := by
    unfold Go.Proofs.YtjfdfbpgckilpaaGreatDoor.shade
    rw [if_pos ⟨g,hb.1 rfl⟩]
    dsimp only
    split
    ·obtain ⟨_,q1,q2⟩ := hp1 (by assumption)
     rw [q1,q2]
    ·obtain ⟨_,q1,q2⟩ := hp2 (by omega)
     rw [q1,q2]
   conv => cbv
   refine RetF.mk [] [hpA 0 1 5 6 3 W ph sp cy,hpB 1 2 4 3 W,hpC 2 3 179 2 N,hpP 3 L,hpP 4 D,hpF 5 z' ov',hpP 6 Q3,(7,.fix 0 o)] 8 (Re.at [(0,0),(1,1),(2,2),(3,3),(4,4),(5,5),(6,6),(7,7)] []) rfl ⟨_,G',ov',Q3,z',rfl,rfl,rfl,h.shade hsh hQ3 hz',hsh⟩
def shadeW (R : List Rw) (ph w : Int) (s : List Int × List Int × Bool) : List Int × List Int × Bool := if w % 2 = 1 then shade R ph ((w - 1) / 2) s else s
theorem shadeWord_lx (R : List Rw) (ws C G : List Int) (N W ph sp cy : Int) (L D Q : List PV) (z : ByteArray) (ov : Bool) (h : HM R ws C G N W L D Q z) (o : Unit → Obj) (ho : IsPow o) (w : Int) (hw : -9223372036854775808 ≤ w ∧ w ≤ 9223372036854775807) : CallF (fun _ => Tryz.prog) 60 [.ptr 0 (.lit 0),i6 w] [hpA 0 1 5 6 3 W ph sp cy,hpB 1 2 4 3 W,hpC 2 3 179 2 N,hpP 3 L,hpP 4 D,hpF 5 z ov,hpP 6 Q,(7,.fix 0 o)] 8 (fun r h n => ∃ (C' G' : List Int) (ov' : Bool) (Q' : List PV) (z' : ByteArray),r = .tup [] ∧ h = [hpA 0 1 5 6 3 W ph sp cy,hpB 1 2 4 3 W,hpC 2 3 179 2 N,hpP 3 L,hpP 4 D,hpF 5 z' ov',hpP 6 Q',(7,.fix 0 o)] ∧ n = 8 ∧ HM R ws C' G' N W L D Q' z' ∧ (C',G',ov') = shadeW R ph w (C,G,ov)) := by
 refine callF_of_body tok Tryz.func60 (by kernel_rfl) rfl rfl rfl ?_; conv => cbv
 refine callF_frame (isPtr_lx w hw) [] rfl trivial rfl rfl (fun r h' n' hrr => ?_)
 obtain ⟨b,e1,e2,e3,hb⟩ := hrr
 subst e1 e2 e3
 cases b with
 | false =>
  have hb : ¬ w % 2 = 1 := fun k => by have := hb.2 k; cases this
  conv => cbv
  refine RetF.mk [] [hpA 0 1 5 6 3 W ph sp cy,hpB 1 2 4 3 W,hpC 2 3 179 2 N,hpP 3 L,hpP 4 D,hpF 5 z ov,hpP 6 Q,(7,.fix 0 o)] 8 (Re.at [(0,0),(1,1),(2,2),(3,3),(4,4),(5,5),(6,6),(7,7)] []) rfl ⟨C,G,ov,Q,z,rfl,rfl,rfl,h,by unfold shadeW; rw [if_neg (by omega)]⟩
 | true =>
  have hb : w % 2 = 1 := hb.1 rfl
  conv => cbv
  refine callF_frame (atV_lx w hw) [] rfl trivial rfl rfl (fun r h' n' hrr => ?_)
  obtain ⟨x,e1,e2,e3,hx⟩ := hrr
  subst e1 e2 e3
  have hx : x = (w - 1) / 2 := hx.1 hb
  conv => cbv
  refine cfr (shade_lx R ws C G N W ph sp cy L D Q z ov h o ho x) [(0,0),(1,1),(2,2),(3,3),(4,4),(5,5),(6,6),(7,7)] (fun r h' n' hrr => ?_)
  obtain ⟨C',G',ov',Q',z',e1,e2,e3,h2,hs⟩ := hrr
  subst e1 e2 e3
  conv => cbv
  refine RetF.mk [] [hpA 0 1 5 6 3 W ph sp cy,hpB 1 2 4 3 W,hpC 2 3 179 2 N,hpP 3 L,hpP 4 D,hpF 5 z' ov',hpP 6 Q',(7,.fix 0 o)] 8 (Re.at [(0,0),(1,1),(2,2),(3,3),(4,4),(5,5),(6,6),(7,7)] []) rfl ⟨C',G',ov',Q',z',rfl,rfl,rfl,h2,by unfold shadeW; rw [if_pos hb,← hx]; exact hs⟩
end Go.Proofs.YtjfdfbpgckilpaaGreatDoor
namespace Go.Proofs.YtjfdfbpgckilpaaGreatDoor
open Go Go.LX
set_option maxRecDepth 100000
set_option linter.unusedVariables false
set_option linter.unusedSimpArgs false
set_option maxHeartbeats 32000000
def Wrds (R : List Rw) (ws : List Int) (a : Int) (X : List Int) : Prop := LenR R ws a X.length ∧ ∀ (i : Nat) (x : Int),X[i]? = some x → Loaded R ws a i x 0
theorem Kept.det9 {R : List Rw} {ws : List Int} {a k l k' l' : Int} (h : Kept R ws a k l) (h' : Kept R ws a k' l') : k = k' ∧ l = l' := by
 obtain ⟨w,_,h1,h2,h3,h4,h5⟩ := h
 obtain ⟨w',_,k1,k2,k3,k4,k5⟩ := h'
 rw [h1] at k1
 have := Option.some.inj k1
 omega
theorem wrds_ex {R : List Rw} {ws : List Int} {a l : Int} (hA : AOk R ws) (h : LenR R ws a l) : ∃ X,Wrds R ws a X ∧ l = X.length ∧ X.length ≤ 31 := by
 cases h with
 | no hn => exact ⟨[],⟨.no hn,fun i x hx => by simp at hx⟩,rfl,by simp⟩
 | is k l hk =>
  have hb := hk.bounds hA
  have hlen := hA.len
  refine ⟨(ws.drop (a + 1).toNat).take l.toNat,⟨?_,fun i x hx => ?_⟩,?_,?_⟩
  ·have : (((ws.drop (a + 1).toNat).take l.toNat).length : Int) = l := by rw [List.length_take,List.length_drop]; omega
   rw [this]; exact .is k l hk
  ·rw [List.getElem?_take] at hx
   split at hx
   ·rw [List.getElem?_drop] at hx
    refine .ok k l x hk ⟨by omega,by omega⟩ ?_
    rw [show (a + 1 + (i : Int)).toNat = (a + 1).toNat + i by omega]; exact hx
   ·cases hx
  ·rw [List.length_take,List.length_drop]; omega
  ·rw [List.length_take]; omega
theorem loaded_det {R : List Rw} {ws : List Int} {a i x e y f : Int} (h : Loaded R ws a i x e) (h' : Loaded R ws a i y f) : x = y ∧ e = f := by
 cases h with
 | none hn => cases h' with
  | none _ => exact ⟨rfl,rfl⟩
  | arg k l hk _ => exact absurd hk.obj6 hn
  | ok k l x hk _ _ => exact absurd hk.obj6 hn
 | arg k l hk hi => cases h' with
  | none hn => exact absurd hk.obj6 hn
  | arg _ _ _ _ => exact ⟨rfl,rfl⟩
  | ok k' l' x hk' hi' _ => obtain ⟨_,rfl⟩ := hk.det9 hk'; exact absurd hi' hi
 | ok k l x hk hi hx => cases h' with
  | none hn => exact absurd hk.obj6 hn
  | arg k' l' hk' hi' => obtain ⟨_,rfl⟩ := hk.det9 hk'; exact absurd hi hi'
  | ok k' l' y hk' hi' hy => rw [hx] at hy; exact ⟨Option.some.inj hy,rfl⟩
theorem Wrds.bd {R : List Rw} {ws X : List Int} {a : Int} (hA : AOk R ws) (h : Wrds R ws a X) : ∀ x ∈ X,-9223372036854775808 ≤ x ∧ x ≤ 9223372036854775807 := by
 intro x hx
 obtain ⟨i,hi⟩ := List.getElem?_of_mem hx
 cases h.2 i x hi with
 | ok k l _ hk hi hx => exact hA.bd x (List.mem_of_getElem? hx)
theorem wordsH_lx (R : List Rw) (ws C G : List Int) (N W ph sp cy : Int) (L D Q : List PV) (z : ByteArray) (ov : Bool) (h : HM R ws C G N W L D Q z) (a : Int) : CallF (fun _ => Tryz.prog) 130 [.ptr 0 (.lit 0),i6 a] [hpA 0 1 5 6 3 W ph sp cy,hpB 1 2 4 3 W,hpC 2 3 179 2 N,hpP 3 L,hpP 4 D,hpF 5 z ov,hpP 6 Q] 7 (fun r h n => ∃ (X : List Int) (m : Int) (O : List PV),r = .sl 7 3 1 (.lit 0) (.sym m) ∧ h = [hpA 0 1 5 6 3 W ph sp cy,hpB 1 2 4 3 W,hpC 2 3 179 2 N,hpP 3 L,hpP 4 D,hpF 5 z ov,hpP 6 Q,hpP 7 O] ∧ n = 8 ∧ O = ipv X ∧ m = X.length ∧ Wrds R ws a X) := by
 refine callF_of_body tok Tryz.func130 (by kernel_rfl) rfl rfl rfl ?_; conv => cbv
 refine cfr (len_lx R ws N a W L D h.l h.d h.n h.r h.a h.w) [(0,1),(1,2),(2,3),(3,4)] (fun r h' n' hrr => ?_)
 obtain ⟨v,e1,e2,e3,hv⟩ := hrr
 subst e1 e2 e3
 conv => cbv
 obtain ⟨X,hX,hvX,hX31⟩ := wrds_ex h.a hv
 refine LoopF.mk (fun k s => ∃ (i : Int) (O : List PV),s = ⟨.ptr 0 (.lit 0) :: .p (.int .i64 (.sym a)) :: (undefs 3 ++ .sl 7 3 1 (.lit 0) (.sym i) :: (undefs 8 ++ .p (.int .i64 (.sym v)) :: .p (.int .i64 (.sym i)) :: undefs 18)),[hpA 0 1 5 6 3 W ph sp cy,hpB 1 2 4 3 W,hpC 2 3 179 2 N,hpP 3 L,hpP 4 D,hpF 5 z ov,hpP 6 Q,hpP 7 O],8⟩ ∧ 0 ≤ i ∧ i ≤ v ∧ O = ipv (X.take i.toNat) ∧ k = (v - i).toNat) v.toNat _
  (Re.at [(0,0),(1,1),(2,2),(3,3),(4,4),(5,5),(6,6)] [7]) ⟨0,[],rfl,by omega,by omega,by simp [ipv],by omega⟩ ?_
 rintro k s ⟨i,O,rfl,hi0,hi1,hO,hk⟩
 have hOl : (O.length : Int) = i := by rw [hO,ipv_length,List.length_take]; omega
 conv => cbv
 refine Br.mk (fun gi => ?_) (fun gi => ?_)
 ·have gi : i < v := gi
  obtain ⟨k',rfl⟩ : ∃ k',k = k' + 1 := ⟨k - 1,by omega⟩
  obtain ⟨x0,hx0⟩ : ∃ x0,X[i.toNat]? = some x0 := ⟨_,List.getElem?_eq_getElem (by omega)⟩
  have hld := hX.2 _ _ hx0
  rw [show ((i.toNat : Nat) : Int) = i by omega] at hld
  conv => cbv
  refine cfr (load_lx i R ws N a W L D h.l h.d h.n h.r h.a h.w) [(0,1),(1,2),(2,3),(3,4)] (fun r h' n' hrr => ?_)
  obtain ⟨x,e,e1,e2,e3,hx⟩ := hrr
  subst e1 e2 e3
  obtain ⟨rfl,rfl⟩ := loaded_det hx hld
  conv => cbv
  refine Room.new rfl ?_
  conv => cbv
  refine Room.new ⟨?_,?_,?_⟩ ?_
  ·show (O.length : Int) = i * 1; omega
  ·show (i + 1) * 8 ≤ 140737488355328; omega
  ·show i + 1 ≤ 9223372036854775807; omega
  conv => cbv
  refine Upd.mk fun O3 hO3 => ?_
  have hO3 : O3 = O ++ [.int .i64 (.sym x)] := hO3
  have hO3 : O3 = ipv (X.take (i.toNat + 1)) := by
   rw [hO3,hO,List.take_add_one,hx0]
   simp [ipv]
  conv => cbv
  refine Sum.mk fun j2 hj2 => ?_
  have hj2 : j2 = i + 1 := hj2
  conv => cbv
  refine Fit.mk (by show (-9223372036854775808 : Int) ≤ i + 1; omega) (by show i + 1 ≤ 9223372036854775807; omega) fun i2 hi2 => ?_
  have hi2 : i2 = i + 1 := hi2
  obtain rfl : j2 = i2 := by omega
  have htt : j2.toNat = i.toNat + 1 := by omega
  rw [← htt] at hO3
  conv => cbv
  refine Again.mk k' _ (Nat.lt_succ_self _) (Re.at [(0,0),(1,1),(2,2),(3,3),(4,4),(5,5),(6,6),(9,7)] []) ⟨j2,O3,rfl,by omega,by omega,hO3,by omega⟩
 ·have gi : ¬ i < v := gi
  obtain rfl : i = v := by omega
  have hOX : O = ipv X := by rw [hO,List.take_of_length_le (by omega)]
  conv => cbv
  refine RetF.mk [.sl 7 3 1 (.lit 0) (.sym i)] [hpA 0 1 5 6 3 W ph sp cy,hpB 1 2 4 3 W,hpC 2 3 179 2 N,hpP 3 L,hpP 4 D,hpF 5 z ov,hpP 6 Q,hpP 7 O] 8 (Re.at [(0,0),(1,1),(2,2),(3,3),(4,4),(5,5),(6,6),(7,7)] []) rfl ⟨X,i,O,rfl,rfl,rfl,hOX,hvX,hX⟩
theorem load9_lx (R : List Rw) (ws C G : List Int) (N W ph sp cy : Int) (L D Q : List PV) (z : ByteArray) (ov : Bool) (h : HM R ws C G N W L D Q z) (a i : Int) : CallF (fun _ => Tryz.prog) 77 [.ptr 0 (.lit 0),i6 a,i6 i] [hpA 0 1 5 6 3 W ph sp cy,hpB 1 2 4 3 W,hpC 2 3 179 2 N,hpP 3 L,hpP 4 D,hpF 5 z ov,hpP 6 Q] 7 (fun r h n => ∃ x e : Int,r = .tup [i6 x,i6 e] ∧ h = [hpA 0 1 5 6 3 W ph sp cy,hpB 1 2 4 3 W,hpC 2 3 179 2 N,hpP 3 L,hpP 4 D,hpF 5 z ov,hpP 6 Q] ∧ n = 7 ∧ Loaded R ws a i x e) := by
 refine callF_of_body tok Tryz.func77 (by kernel_rfl) rfl rfl rfl ?_; conv => cbv
 refine cfr (arena_lx R ws C G N W ph sp cy L D Q z ov) [(0,0),(1,1),(2,2),(3,3),(4,4),(5,5),(6,6)] (fun r h' n' ⟨e1,e2,e3⟩ => ?_)
 subst e1 e2 e3
 conv => cbv
 refine cfr (load_lx i R ws N a W L D h.l h.d h.n h.r h.a h.w) [(0,1),(1,2),(2,3),(3,4)] (fun r h' n' hrr => ?_)
 obtain ⟨x,e,e1,e2,e3,hx⟩ := hrr
 subst e1 e2 e3
 conv => cbv
 refine RetF.mk [i6 x,i6 e] [hpA 0 1 5 6 3 W ph sp cy,hpB 1 2 4 3 W,hpC 2 3 179 2 N,hpP 3 L,hpP 4 D,hpF 5 z ov,hpP 6 Q] 7 (Re.at [(0,0),(1,1),(2,2),(3,3),(4,4),(5,5),(6,6)] []) rfl ⟨x,e,rfl,rfl,rfl,hx⟩
theorem loadNil9_lx (a i : I) : CallF (fun _ => Tryz.prog) 77 [.p .nilp,.p (.int .i64 a),.p (.int .i64 i)] [] 0 (fun r h n => r = .tup [i6 0,i6 2] ∧ h = [] ∧ n = 0) := by
 refine callF_of_body tok Tryz.func77 (by kernel_rfl) rfl rfl rfl ?_; conv => cbv
 refine callF_frame arenaNil_lx [] rfl trivial rfl rfl (fun r h' n' ⟨e1,e2,e3⟩ => ?_)
 subst e1 e2 e3
 conv => cbv
 refine callF_frame (loadA_nil a i) [] rfl trivial rfl rfl (fun r h' n' ⟨e1,e2,e3⟩ => ?_)
 subst e1 e2 e3
 conv => cbv
 refine RetF.mk [i6 0,i6 2] [] 0 (Re.at [] []) rfl ⟨rfl,rfl,rfl⟩
theorem colour_lx (R : List Rw) (ws C G : List Int) (N W ph sp cy : Int) (L D Q : List PV) (z : ByteArray) (ov : Bool) (h : HM R ws C G N W L D Q z) (a : Int) : CallF (fun _ => Tryz.prog) 57 [.ptr 0 (.lit 0),i6 a] [hpA 0 1 5 6 3 W ph sp cy,hpB 1 2 4 3 W,hpC 2 3 179 2 N,hpP 3 L,hpP 4 D,hpF 5 z ov,hpP 6 Q] 7 (fun r h n => ∃ c : Int,r = .p (.int .i64 (.sym c)) ∧ h = [hpA 0 1 5 6 3 W ph sp cy,hpB 1 2 4 3 W,hpC 2 3 179 2 N,hpP 3 L,hpP 4 D,hpF 5 z ov,hpP 6 Q] ∧ n = 7 ∧ (a ∈ objs R → C[a.toNat]? = some c) ∧ (¬ a ∈ objs R → c = 0)) := by
 have hCl := h.c; have hWn := h.w; have hNr := h.n
 have hQl : Q.length = C.length := by rw [h.q,ipv_length]
 refine callF_of_body tok Tryz.func57 (by kernel_rfl) rfl rfl rfl ?_; conv => cbv
 refine cfr (arena_lx R ws C G N W ph sp cy L D Q z ov) [(0,0),(1,1),(2,2),(3,3),(4,4),(5,5),(6,6)] (fun r h' n' ⟨e1,e2,e3⟩ => ?_)
 subst e1 e2 e3
 conv => cbv
 refine cfr (kind_lx R ws N a W L D h.l h.d h.n h.r h.a h.w) [(0,1),(1,2),(2,3),(3,4)] (fun r h' n' hrr => ?_)
 obtain ⟨v,e1,e2,e3,hv⟩ := hrr
 subst e1 e2 e3
 conv => cbv
 refine Br.mk (fun g => ?_) (fun g => ?_)
 ·have g : v = 0 := g
  have hno : ¬ a ∈ objs R := by
   intro ho
   cases hv with
   | no hn => exact hn ((obj_iff h.a a).1 ho)
   | is k l hk => have := h.k a v l hk; omega
  conv => cbv
  refine RetF.mk [i6 0] [hpA 0 1 5 6 3 W ph sp cy,hpB 1 2 4 3 W,hpC 2 3 179 2 N,hpP 3 L,hpP 4 D,hpF 5 z ov,hpP 6 Q] 7 (Re.at [(0,0),(1,1),(2,2),(3,3),(4,4),(5,5),(6,6)] []) rfl ⟨0,rfl,rfl,rfl,fun k => absurd k hno,fun _ => rfl⟩
 ·have g : ¬ v = 0 := g
  obtain ⟨l,hk⟩ : ∃ l,Kept R ws a v l := by
   cases hv with
   | no hn => exact absurd rfl g
   | is k l hk => exact ⟨l,hk⟩
  have hb := hk.bounds h.a
  have ho : a ∈ objs R := (obj_iff h.a a).2 hk.obj6
  obtain ⟨x,hx⟩ : ∃ x,C[a.toNat]? = some x := ⟨_,List.getElem?_eq_getElem (by omega)⟩
  have hq : Q[a.toNat]? = some (.int .i64 (.sym x)) := by rw [h.q]; exact ipv_get hx
  conv => cbv
  refine Need.mk ⟨by show 0 ≤ a; omega,by show a < W; omega⟩ ?_
  conv => cbv
  refine Cell.at a _ hq (by simp [I.val]) rfl ?_
  conv => cbv
  refine RetF.mk [i6 x] [hpA 0 1 5 6 3 W ph sp cy,hpB 1 2 4 3 W,hpC 2 3 179 2 N,hpP 3 L,hpP 4 D,hpF 5 z ov,hpP 6 Q] 7 (Re.at [(0,0),(1,1),(2,2),(3,3),(4,4),(5,5),(6,6)] []) rfl ⟨x,rfl,rfl,rfl,fun _ => hx,fun k => absurd ho k⟩
theorem colourNil_lx (a : I) : CallF (fun _ => Tryz.prog) 57 [.p .nilp,.p (.int .i64 a)] [] 0 (fun r h n => r = .p (.int .i64 (.sym 0)) ∧ h = [] ∧ n = 0) := by
 refine callF_of_body tok Tryz.func57 (by kernel_rfl) rfl rfl rfl ?_; conv => cbv
 refine callF_frame arenaNil_lx [] rfl trivial rfl rfl (fun r h' n' ⟨e1,e2,e3⟩ => ?_)
 subst e1 e2 e3
 conv => cbv
 refine callF_frame (kind_nil a) [] rfl trivial rfl rfl (fun r h' n' ⟨e1,e2,e3⟩ => ?_)
 subst e1 e2 e3
 conv => cbv
 refine Br.mk (fun g => ?_) (fun g => ?_)
 case refine_2 =>
  have g : ¬ (0 : Int) = 0 := g
  exfalso
  exact g rfl
 conv => cbv
 refine RetF.mk [i6 0] [] 0 (Re.at [] []) rfl ⟨rfl,rfl,rfl⟩
def storeS (R : List Rw) (ph e x : Int) (s : List Int × List Int × Bool) : List Int × List Int × Bool := if e = 0 then shadeW R ph x s else s
theorem K1.stored {R : List Rw} {ws ws' : List Int} {a i x e : Int} (hA : AOk R ws) (hk : K1 R ws) (h : Stored R ws a i x e ws') : K1 R ws' := by
 cases h with
 | none _ => exact hk
 | arg _ _ _ _ => exact hk
 | ok k l hka hi =>
  intro b k' l' hb
  have hbn := hka.bounds hA
  obtain ⟨w,q1,q2,q3,q4,q5,q6⟩ := hb
  have hne : (a + 1 + i).toNat ≠ b.toNat := by
   obtain ⟨wa,p1,p2,p3,p4,p5,p6⟩ := hka
   have := within_not hA.rows p1 q1 (j := a + 1 + i) (by omega) (by omega)
   have := q1.facts hA.rows
   omega
  rw [List.getElem?_set_ne hne] at q2
  exact hk b k' l' (.mk k' l' w q1 q2 q3 q4 q5 q6)
theorem HM.stored {R : List Rw} {ws ws' C G : List Int} {N W : Int} {L D D' Q : List PV} {z : ByteArray} {a i x e : Int} (h : HM R ws C G N W L D Q z) (hx : -9223372036854775808 ≤ x ∧ x ≤ 9223372036854775807) (hs : Stored R ws a i x e ws') (hD : D' = ipv ws') : HM R ws' C G N W L D' Q z :=
 ⟨h.a.stored hx hs,h.k.stored h.a hs,h.n,h.r,h.w,h.l,hD,h.q,h.c,h.z,h.g,h.g8⟩
theorem store9_lx (R : List Rw) (ws C G : List Int) (N W ph sp cy : Int) (L D Q : List PV) (z : ByteArray) (ov : Bool) (h : HM R ws C G N W L D Q z) (o : Unit → Obj) (ho : IsPow o) (a i x : Int) (hx : -9223372036854775808 ≤ x ∧ x ≤ 9223372036854775807) : CallF (fun _ => Tryz.prog) 14 [.ptr 0 (.lit 0),i6 a,i6 i,i6 x] [hpA 0 1 5 6 3 W ph sp cy,hpB 1 2 4 3 W,hpC 2 3 179 2 N,hpP 3 L,hpP 4 D,hpF 5 z ov,hpP 6 Q,(7,.fix 0 o)] 8 (fun r h n => ∃ (e : Int) (ws' C' G' : List Int) (ov' : Bool) (D' Q' : List PV) (z' : ByteArray),r = .p (.int .i64 (.sym e)) ∧ h = [hpA 0 1 5 6 3 W ph sp cy,hpB 1 2 4 3 W,hpC 2 3 179 2 N,hpP 3 L,hpP 4 D',hpF 5 z' ov',hpP 6 Q',(7,.fix 0 o)] ∧ n = 8 ∧ HM R ws' C' G' N W L D' Q' z' ∧ Stored R ws a i x e ws' ∧ (C',G',ov') = storeS R ph e x (C,G,ov)) := by
 refine callF_of_body tok Tryz.func14 (by kernel_rfl) rfl rfl rfl ?_; conv => cbv
 refine cfr (arena_lx R ws C G N W ph sp cy L D Q z ov) [(0,0),(1,1),(2,2),(3,3),(4,4),(5,5),(6,6)] (fun r h' n' ⟨e1,e2,e3⟩ => ?_)
 subst e1 e2 e3
 conv => cbv
 refine cfr (store_lx i x R ws N a W L D h.l h.d h.n h.r h.a h.w) [(0,1),(1,2),(2,3),(3,4)] (fun r h' n' hrr => ?_)
 obtain ⟨e,ws',D',e1,e2,e3,hD',hT⟩ := hrr
 subst e1 e2 e3
 conv => cbv
 have h2 := h.stored hx hT hD'
 refine Br.mk (fun g => ?_) (fun g => ?_)
 ·have g : e = 0 := g
  conv => cbv
  refine cfr (shadeWord_lx R ws' C G N W ph sp cy L D' Q z ov h2 o ho x hx) [(0,0),(1,1),(2,2),(3,3),(4,4),(5,5),(6,6),(7,7)] (fun r h' n' hrr => ?_)
  obtain ⟨C',G',ov',Q',z',e1,e2,e3,h3,hs⟩ := hrr
  subst e1 e2 e3
  conv => cbv
  refine RetF.mk [i6 e] [hpA 0 1 5 6 3 W ph sp cy,hpB 1 2 4 3 W,hpC 2 3 179 2 N,hpP 3 L,hpP 4 D',hpF 5 z' ov',hpP 6 Q',(7,.fix 0 o)] 8 (Re.at [(0,0),(1,1),(2,2),(3,3),(4,4),(5,5),(6,6),(7,7)] []) rfl ⟨e,ws',C',G',ov',D',Q',z',rfl,rfl,rfl,h3,hT,by unfold storeS; rw [if_pos g]; exact hs⟩
 ·have g : ¬ e = 0 := g
  conv => cbv
  refine RetF.mk [i6 e] [hpA 0 1 5 6 3 W ph sp cy,hpB 1 2 4 3 W,hpC 2 3 179 2 N,hpP 3 L,hpP 4 D',hpF 5 z ov,hpP 6 Q,(7,.fix 0 o)] 8 (Re.at [(0,0),(1,1),(2,2),(3,3),(4,4),(5,5),(6,6),(7,7)] []) rfl ⟨e,ws',C,G,ov,D',Q,z,rfl,rfl,rfl,h2,hT,by unfold storeS; rw [if_neg g]⟩
theorem storeNil9_lx (a i x : I) : CallF (fun _ => Tryz.prog) 14 [.p .nilp,.p (.int .i64 a),.p (.int .i64 i),.p (.int .i64 x)] [] 0 (fun r h n => r = .p (.int .i64 (.sym 2)) ∧ h = [] ∧ n = 0) := by
 refine callF_of_body tok Tryz.func14 (by kernel_rfl) rfl rfl rfl ?_; conv => cbv
 refine callF_frame arenaNil_lx [] rfl trivial rfl rfl (fun r h' n' ⟨e1,e2,e3⟩ => ?_)
 subst e1 e2 e3
 conv => cbv
 refine callF_frame (storeA_nil a i x) [] rfl trivial rfl rfl (fun r h' n' ⟨e1,e2,e3⟩ => ?_)
 subst e1 e2 e3
 conv => cbv
 refine Br.mk (fun g => ?_) (fun g => ?_)
 case refine_1 =>
  have g : (2 : Int) = 0 := g
  exfalso
  omega
 conv => cbv
 refine RetF.mk [i6 2] [] 0 (Re.at [] []) rfl ⟨rfl,rfl,rfl⟩
end Go.Proofs.YtjfdfbpgckilpaaGreatDoor
namespace Go.Proofs.YtjfdfbpgckilpaaGreatDoor
open Go Go.LX
set_option maxRecDepth 100000
set_option linter.unusedVariables false
set_option linter.unusedSimpArgs false
set_option maxHeartbeats 32000000
theorem Re.cut {n0 : Nat} {s s' : LS} (b : Nat) (sy : Bool) (T T' : List PV) (hb : hget s.h b = some (.pure sy T)) (hp : T' <+: T) (h : Re n0 { s with h := hset s.h b (.pure true T') } s') : Re n0 s s' := by
 obtain ⟨h⟩ := h
 refine ⟨fun c0 w0 c a w hN he hs => h c0 w0 c a w hN he ⟨hs.tl,hs.tr,hs.df,⟨fun b' B hB => ?_,hs.hr.fresh,hs.hr.inj,hs.hr.noX,hs.hr.ltX,hs.hr.lt⟩,hs.nn⟩⟩
 have hB : hget (hset s.h b (.pure true T')) b' = some B := hB
 rw [hget_set hb] at hB
 by_cases e : b' = b
 ·rw [if_pos e] at hB
  cases hB
  rw [e]
  obtain ⟨m,hm,hBR⟩ := hs.hr.live b _ hb
  refine ⟨m,hm,?_⟩
  obtain ⟨T2,hT2⟩ := hp
  cases m with
  | none =>
   have hBR : T = [] := hBR
   rw [hBR] at hT2
   exact (List.append_eq_nil_iff.1 hT2).1
  | some r =>
   obtain ⟨cur,ty,h1,h2,h3⟩ := hBR
   have hl : T'.length ≤ T.length := by rw [← hT2,List.length_append]; omega
   exact ⟨cur,ty,h1,by omega,fun j u hu => h3 j u (by rw [← hT2,List.getElem?_append_left (List.getElem?_eq_some_iff.1 hu).1]; exact hu)⟩
 ·rw [if_neg e] at hB
  exact hs.hr.live b' B hB
def ptrs : List Int → List Int
 | [] => []
 | w :: X => if w % 2 = 1 then (w - 1) / 2 :: ptrs X else ptrs X
theorem ptrs_app (X Y : List Int) : ptrs (X ++ Y) = ptrs X ++ ptrs Y := by
 induction X with
 | nil => rfl
 | cons w X ih =>
  show (if w % 2 = 1 then (w - 1) / 2 :: ptrs (X ++ Y) else ptrs (X ++ Y)) = (if w % 2 = 1 then (w - 1) / 2 :: ptrs X else ptrs X) ++ ptrs Y
  rw [ih]
  split <;> rfl
theorem ptrs_len (X : List Int) : (ptrs X).length ≤ X.length := by
 induction X with
 | nil => exact Nat.le_refl _
 | cons w X ih =>
  unfold ptrs
  split
  ·simp only [List.length_cons]; omega
  ·simp only [List.length_cons]; omega
theorem ptrs_mem {X : List Int} {b : Int} : b ∈ ptrs X ↔ ∃ w ∈ X,w % 2 = 1 ∧ b = (w - 1) / 2 := by
 induction X with
 | nil => exact ⟨fun h => (by cases h),fun ⟨w,h,_⟩ => (by cases h)⟩
 | cons w X ih =>
  unfold ptrs
  split
  ·rename_i hw
   rw [List.mem_cons,ih]
   constructor
   ·rintro (h | ⟨v,h1,h2⟩)
    ·exact ⟨w,List.mem_cons_self,hw,h⟩
    ·exact ⟨v,List.mem_cons_of_mem _ h1,h2⟩
   ·rintro ⟨v,h1,h2,h3⟩
    rcases List.mem_cons.1 h1 with h | h
    ·subst h; exact .inl h3
    ·exact .inr ⟨v,h,h2,h3⟩
  ·rename_i hw
   rw [ih]
   constructor
   ·rintro ⟨v,h1,h2⟩; exact ⟨v,List.mem_cons_of_mem _ h1,h2⟩
   ·rintro ⟨v,h1,h2,h3⟩
    rcases List.mem_cons.1 h1 with h | h
    ·subst h; exact absurd h2 hw
    ·exact ⟨v,h,h2,h3⟩
theorem ptrs_take {X : List Int} {i : Nat} {w : Int} (h : X[i]? = some w) : ptrs (X.take (i + 1)) = ptrs (X.take i) ++ (if w % 2 = 1 then [(w - 1) / 2] else []) := by
 rw [List.take_add_one,h,ptrs_app]; rfl
def Brk (R : List Rw) (ws : List Int) (a : Int) : Prop := ∃ i w : Int,Loaded R ws a i w 0 ∧ w % 2 = 1 ∧ ¬ (w - 1) / 2 ∈ objs R
theorem loaded_okL {R : List Rw} {ws : List Int} {a k l i x e : Int} (h : Kept R ws a k l) (hi : 0 ≤ i ∧ i < l) (hv : Loaded R ws a i x e) : e = 0 ∧ ws[(a + 1 + i).toNat]? = some x := by
 cases hv with
 | none hn => obtain ⟨w,hw,_⟩ := h; exact absurd (isObj_iff.2 ⟨w,hw⟩) hn
 | arg k' l' h' hi' => rw [(h.det9 h').2] at hi; exact absurd hi hi'
 | ok k' l' _ h' hi' hx => exact ⟨rfl,hx⟩
theorem lookL_lx (R : List Rw) (ws C G : List Int) (N W ph sp cy : Int) (L D Q : List PV) (z : ByteArray) (ov : Bool) (h : HM R ws C G N W L D Q z) (a : Int) : CallF (fun _ => Tryz.prog) 105 [.ptr 0 (.lit 0),i6 a] [hpA 0 1 5 6 3 W ph sp cy,hpB 1 2 4 3 W,hpC 2 3 179 2 N,hpP 3 L,hpP 4 D,hpF 5 z ov,hpP 6 Q] 7 (fun r h n => ((∃ (X : List Int) (k : Int) (O : List PV),r = .iface 148 (.agg [.p (.vsl (.sym k) true O)]) ∧ a ∈ objs R ∧ Wrds R ws a X ∧ O = ipv (ptrs X) ∧ k = (ptrs X).length) ∨ (r = .iface 220 (.agg []) ∧ ¬ a ∈ objs R)) ∧ h = [hpA 0 1 5 6 3 W ph sp cy,hpB 1 2 4 3 W,hpC 2 3 179 2 N,hpP 3 L,hpP 4 D,hpF 5 z ov,hpP 6 Q] ∧ n = 7) := by
 have hNR := h.n; have hRr := h.r
 refine callF_of_body tok Tryz.func105 (by kernel_rfl) rfl rfl rfl ?_; conv => cbv
 refine cfr (arena_lx R ws C G N W ph sp cy L D Q z ov) [(0,0),(1,1),(2,2),(3,3),(4,4),(5,5),(6,6)] (fun r h' n' ⟨e1,e2,e3⟩ => ?_)
 subst e1 e2 e3
 conv => cbv
 refine cfr (kind_lx R ws N a W L D h.l h.d h.n h.r h.a h.w) [(0,1),(1,2),(2,3),(3,4)] (fun r h' n' hrr => ?_)
 obtain ⟨v,e1,e2,e3,hv⟩ := hrr
 subst e1 e2 e3
 conv => cbv
 refine Br.mk (fun q => ?_) (fun q => ?_)
 ·have q : v = 0 := q
  conv => cbv
  refine RetF.mk [.iface 220 (.agg [])] [hpA 0 1 5 6 3 W ph sp cy,hpB 1 2 4 3 W,hpC 2 3 179 2 N,hpP 3 L,hpP 4 D,hpF 5 z ov,hpP 6 Q] 7 (Re.at [(0,0),(1,1),(2,2),(3,3),(4,4),(5,5),(6,6)] []) rfl ⟨.inr ⟨rfl,fun ho => ?_⟩,rfl,rfl⟩
  subst q
  cases hv with
  | no hn => exact hn ((obj_iff h.a a).1 ho)
  | is k l hk => have := h.k _ _ _ hk; omega
 have q : ¬ v = 0 := q
 obtain ⟨kk0,hkk0⟩ : ∃ l,Kept R ws a v l := by
  cases hv with
  | no hn => exact absurd rfl q
  | is k l hk => exact ⟨l,hk⟩
 have ho : a ∈ objs R := (obj_iff h.a a).2 hkk0.obj6
 conv => cbv
 refine cfr (arena_lx R ws C G N W ph sp cy L D Q z ov) [(0,0),(1,1),(2,2),(3,3),(4,4),(5,5),(6,6)] (fun r h' n' ⟨e1,e2,e3⟩ => ?_)
 subst e1 e2 e3
 conv => cbv
 refine cfr (len_lx R ws N a W L D h.l h.d h.n h.r h.a h.w) [(0,1),(1,2),(2,3),(3,4)] (fun r h' n' hrr => ?_)
 obtain ⟨l,e1,e2,e3,hl⟩ := hrr
 subst e1 e2 e3
 have hlen := hl
 have hK : Kept R ws a v l := by
  cases hl with
  | no hn => exact absurd ((obj_iff h.a a).1 ho) hn
  | is k2 _ hk2 => obtain ⟨q1,q2⟩ := hk2.det9 hkk0; subst q1 q2; exact hk2
 have hlb := hK.bounds h.a
 conv => cbv
 refine LoopF.mk (fun kk s => ∃ (i j : Int) (X : List Int) (T : List PV),s = ⟨.ptr 0 (.lit 0) :: .p (.int .i64 (.sym a)) :: (undefs 3 ++ .sl 7 3 1 (.lit 0) (.sym j) :: undefs 13 ++ .p (.int .i64 (.sym l)) :: .p (.int .i64 (.sym i)) :: undefs 20),[hpA 0 1 5 6 3 W ph sp cy,hpB 1 2 4 3 W,hpC 2 3 179 2 N,hpP 3 L,hpP 4 D,hpF 5 z ov,hpP 6 Q,hpP 7 T],8⟩ ∧ T = ipv (ptrs X) ∧ j = (ptrs X).length ∧ 0 ≤ i ∧ i ≤ l ∧ i = X.length ∧ (∀ (p : Nat) (x : Int),X[p]? = some x → Loaded R ws a p x 0) ∧ kk = (l - i).toNat) l.toNat _
  (Re.at [(0,0),(1,1),(2,2),(3,3),(4,4),(5,5),(6,6)] [7]) ⟨0,0,[],[],rfl,rfl,rfl,by omega,by omega,rfl,fun p x hp => (by simp at hp),by omega⟩ ?_
 rintro kk s ⟨i,j,X,T,rfl,hT,hj,hi0,hi1,hiX,hX,hkk⟩
 have hTl : T.length = (ptrs X).length := by rw [hT,ipv_length]
 have hXl := ptrs_len X
 conv => cbv
 refine Br.mk (fun q2 => ?_) (fun q2 => ?_)
 case refine_2 =>
  have q2 : ¬ i < l := q2
  have hw : Wrds R ws a X := ⟨by rw [← hiX,show i = l by omega]; exact hlen,hX⟩
  conv => cbv
  refine RetF.mk [.iface 148 (.agg [.p (.vsl (.sym j) true T)])] [hpA 0 1 5 6 3 W ph sp cy,hpB 1 2 4 3 W,hpC 2 3 179 2 N,hpP 3 L,hpP 4 D,hpF 5 z ov,hpP 6 Q] 7 (Re.at [(0,0),(1,1),(2,2),(3,3),(4,4),(5,5),(6,6)] []) rfl ⟨.inl ⟨X,j,T,rfl,ho,hw,hT,hj⟩,rfl,rfl⟩
 have q2 : i < l := q2
 obtain ⟨k',rfl⟩ : ∃ k',kk = k' + 1 := ⟨kk - 1,by omega⟩
 conv => cbv
 refine cfr (load9_lx R ws C G N W ph sp cy L D Q z ov h a i) [(0,0),(1,1),(2,2),(3,3),(4,4),(5,5),(6,6)] (fun r h' n' hrr => ?_)
 obtain ⟨w,e,e1,e2,e3,hw⟩ := hrr
 subst e1 e2 e3
 have he := (loaded_okL hK ⟨hi0,q2⟩ hw).1
 subst he
 have hwb : -9223372036854775808 ≤ w ∧ w ≤ 9223372036854775807 := by
  cases hw with
  | ok k l _ hK2 hi hx => exact h.a.bd w (List.mem_of_getElem? hx)
 have hX2 : ∀ (p : Nat) (x : Int),(X ++ [w])[p]? = some x → Loaded R ws a p x 0 := by
  intro p x hp
  rcases Nat.lt_or_ge p X.length with hlt | hge
  ·rw [List.getElem?_append_left hlt] at hp; exact hX p x hp
  ·rw [List.getElem?_append_right hge] at hp
   have hp0 : p - X.length = 0 := by
    have := (List.getElem?_eq_some_iff.1 hp).1
    simp at this; omega
   rw [hp0] at hp
   cases hp
   rw [show ((p : Nat) : Int) = i by omega]; exact hw
 have hX2l : ((X ++ [w]).length : Int) = i + 1 := by rw [List.length_append,hiX]; rfl
 conv => cbv
 refine callF_frame (isPtr_lx w hwb) [] rfl trivial rfl rfl (fun r h' n' hrr => ?_)
 obtain ⟨b,e1,e2,e3,hb⟩ := hrr
 subst e1 e2 e3
 cases b with
 | false =>
  have hpt : ptrs (X ++ [w]) = ptrs X := by
   rw [ptrs_app]
   show ptrs X ++ (if w % 2 = 1 then [(w - 1) / 2] else []) = ptrs X
   rw [if_neg (fun q => by have := hb.2 q; cases this),List.append_nil]
  conv => cbv
  refine Fit.mk (by show (-9223372036854775808 : Int) ≤ i + 1; omega) (by show i + 1 ≤ 9223372036854775807; omega) fun i2 hi2 => ?_
  have hi2 : i2 = i + 1 := hi2
  conv => cbv
  refine Again.mk k' _ (Nat.lt_succ_self _) (Re.at [(0,0),(1,1),(2,2),(3,3),(4,4),(5,5),(6,6),(7,7)] []) ⟨i2,j,X ++ [w],T,rfl,by rw [hpt]; exact hT,by rw [hpt]; exact hj,by omega,by omega,hi2.trans hX2l.symm,hX2,by omega⟩
 | true =>
 have hodd := hb.1 rfl
 have hpt : ptrs (X ++ [w]) = ptrs X ++ [(w - 1) / 2] := by
  rw [ptrs_app]
  show ptrs X ++ (if w % 2 = 1 then [(w - 1) / 2] else []) = _
  rw [if_pos hodd]
 conv => cbv
 refine callF_frame (atV_lx w hwb) [] rfl trivial rfl rfl (fun r h' n' hrr => ?_)
 obtain ⟨y,e1,e2,e3,hy1,_⟩ := hrr
 subst e1 e2 e3
 have hy := hy1 hodd
 conv => cbv
 refine Room.new rfl ?_
 conv => cbv
 refine Room.new ⟨by show (T.length : Int) = j * 1; omega,by show (j + 1) * 8 ≤ 140737488355328; omega,by show j + 1 ≤ 9223372036854775807; omega⟩ ?_
 conv => cbv
 refine Upd.mk fun T2 hT2 => ?_
 have hT2 : T2 = ipv (ptrs (X ++ [w])) := by
  rw [show T2 = T ++ [.int .i64 (.sym y)] from hT2,hpt,← ipv_app,← hT,← hy]; rfl
 conv => cbv
 refine Sum.mk fun j2 hj2 => ?_
 have hj2 : j2 = ((ptrs (X ++ [w])).length : Int) := by rw [hpt,List.length_append,show j2 = j + 1 from hj2,hj]; rfl
 conv => cbv
 refine Fit.mk (by show (-9223372036854775808 : Int) ≤ i + 1; omega) (by show i + 1 ≤ 9223372036854775807; omega) fun i2 hi2 => ?_
 have hi2 : i2 = i + 1 := hi2
 conv => cbv
 refine Again.mk k' _ (Nat.lt_succ_self _) (Re.at [(0,0),(1,1),(2,2),(3,3),(4,4),(5,5),(6,6),(9,7)] []) ⟨i2,j2,X ++ [w],T2,rfl,hT2,hj2,by omega,by omega,hi2.trans hX2l.symm,hX2,by omega⟩
end Go.Proofs.YtjfdfbpgckilpaaGreatDoor
namespace Go.Proofs.YtjfdfbpgckilpaaGreatDoor
open Go Go.LX
set_option maxRecDepth 100000
set_option linter.unusedVariables false
set_option linter.unusedSimpArgs false
set_option maxHeartbeats 32000000
open Go.RowKit Go.Sort in
theorem HR.grown {c : Ctx} {w : World} {h : LH} (hr : HR c w h) (os : Array Obj) : Ext c w c (grow w os) ∧ HR c (grow w os) h := by
 have he : Ext c w c (grow w os) := ⟨rfl,rfl,rfl,by rw [size_grow]; omega,rfl,Nat.le_refl _,fun _ _ => .inl rfl,fun b r hb h => (by rw [hr.fresh b hb] at h; cases h),fun k hk _ => heap_grow_old w os hk,fun b r _ hm => by simp only [World.shape?,heap_grow_old w os (hr.lt b r hm)]⟩
 exact ⟨he,hr.step he (.inl rfl) hr.fresh (fun b => .inl rfl) (fun d C hd => .inl ⟨hd,rfl,fun k hk => heap_grow_old w os (hr.lt d k hk)⟩)⟩
open Go.RowKit Go.Sort in
theorem sort_lx (A : List Int) (k : Int) (L : List PV) (hL : L = ipv A) (hk : k = A.length) (hl : A.length ≤ 100000) :
  CallF (fun _ => Tryz.prog) 106 [.sl 0 3 1 (.lit 0) (.sym k)] [hpP 0 L] 1
   (fun r h n => ∃ L' : List PV,r = .tup [] ∧ h = [hpP 0 L'] ∧ n = 1 ∧ L' = ipv (A.mergeSort fun x y => decide (x ≤ y))) := by
 refine .mk ⟨_,_,Tryz.func106,by kernel_rfl,rfl⟩ fun c w xs hr hN hl2 hrel => ?_
 obtain ⟨x,rfl,hx⟩ : ∃ x,xs = #[x] ∧ LR c w (.sl 0 3 1 (.lit 0) (.sym k)) x := by
  have h0 := hrel 0 _ rfl
  rcases xs with ⟨l⟩
  match l,hl2 with
  | [x],_ => exact ⟨x,rfl,h0⟩
 obtain ⟨m,hm,hB⟩ := hr.live 0 _ rfl
 have hnone : A.length = 0 → ∀ a cp,x = .slice a 0 cp → Calls Tryz.prog 106 #[x] w fun e w' => ∃ (c' : Ctx) (r : LV) (v : Value) (h' : LH) (n' : Nat),e = .returned v ∧ (∃ L' : List PV,r = .tup [] ∧ h' = [hpP 0 L'] ∧ n' = 1 ∧ L' = ipv (A.mergeSort fun x y => decide (x ≤ y))) ∧ HR c' w' h' ∧ c'.N = n' ∧ LR c' w' r v ∧ Ext c w c' w' := by
  intro h0 a cp hxe
  subst hxe
  refine (Tryz.slices_Sort_int_none a cp w).mono ?_
  rintro e w' ⟨rfl,rfl⟩
  have hA : A = [] := List.eq_nil_of_length_eq_zero h0
  refine ⟨c,.tup [],_,[hpP 0 L],1,rfl,⟨L,rfl,rfl,rfl,by rw [hL,hA,List.mergeSort_nil]⟩,hr,hN,?_,Ext.refl hr⟩
  exact .tup [] #[] rfl (fun j u hu => by cases hu)
 cases hx with
 | goneS _ _ _ _ _ _ _ _ hm' _ => rw [hm] at hm'; cases hm'
 | slv _ _ _ _ _ hm' ho' hn' => exact hnone (by simp only [I.val] at hn'; omega) _ _ rfl
 | slz _ _ _ _ _ _ _ _ _ _ hn' => exact hnone (by simp only [I.val] at hn'; omega) _ _ rfl
 | sl _ _ _ _ _ r o n cp tot hm' ho' hn' hk' hcp hs' ht' =>
  rw [hm] at hm'; cases hm'
  obtain ⟨cur,ty,hg,hle,hrl⟩ := hB
  simp only [I.val] at ho' hn'
  have ho0 : o = 0 := by omega
  subst ho0
  have hsh : ty = 3 ∧ cur.size = tot := by
   rw [World.shape?,hg] at hs'
   cases hs'; exact ⟨rfl,rfl⟩
  obtain ⟨rfl,rfl⟩ := hsh
  have hnA : n = A.length := by omega
  subst hnA
  have hcell : ∀ j,j < A.length → cur[j]? = some (.int .i64 A[j]!) := by
   intro j hj
   have h1 := hrl j (.int .i64 (.sym A[j]!)) (by rw [hL]; refine ipv_get ?_; rw [List.getElem?_eq_getElem hj,getElem!_pos A j hj])
   rw [Array.getD_eq_getD_getElem?,Array.getElem?_eq_getElem (by omega : j < cur.size)] at h1
   rw [Array.getElem?_eq_getElem (by omega : j < cur.size)]
   generalize cur[j] = q at h1
   have h1 : PR c.mut w (.int .i64 (.sym A[j]!)) q := h1
   cases h1 with | int _ _ m hm => rw [← hm]; rfl
  have hd := Tryz.slices_Sort_int r 0 cp A w (fun j hj => ⟨by
   have hj : j < A.length := by simpa using hj
   simp only [World.cell?,hg,Nat.zero_add]
   have h2 := hcell j hj
   simpa using h2,by simp [World.frozen?,hg]⟩) (hr.lt 0 r hm) (by omega)
  refine hd.mono ?_
  rintro e w' ⟨rfl,q,os,rfl⟩
  have hBl : (A.mergeSort fun x y => decide (x ≤ y)).length = A.length := List.length_mergeSort _
  generalize hB : (A.mergeSort fun x y => decide (x ≤ y)) = B at hBl
  have hg' : (putRow (Value.int .i64) (Sort.ahead w q) r 0 B.toArray).heap[r]? = some (.cells (putCells (Value.int .i64) 0 B.toArray cur) 3 (0,0)) := by
   simp [putRow,mapBlock,Array.getElem?_modify,onCells]; exact ⟨_,hg,rfl⟩
  have hcs : (putCells (Value.int .i64) 0 B.toArray cur).size = cur.size := by simp [putCells]
  have ht : Turn w (putRow (Value.int .i64) (Sort.ahead w q) r 0 B.toArray) r := by
   refine ⟨rfl,rfl,rfl,by rw [size_putRow]; rfl,fun k hk => ?_,?_⟩
   ·have hk' : ¬ r = k := fun h => hk h.symm
    simp [putRow,mapBlock,Array.getElem?_modify,hk']
   ·simp only [World.shape?,hg,hg',hcs]
  have hB' : BR c (putRow (Value.int .i64) (Sort.ahead w q) r 0 B.toArray) (.pure true (ipv B)) (some r) := by
   refine ⟨_,_,hg',by rw [ipv_length,hcs]; omega,fun j u hu => ?_⟩
   have hj : j < B.length := by
    have := (List.getElem?_eq_some_iff.1 hu).1
    rwa [ipv_length] at this
   have hu2 := ipv_get (List.getElem?_eq_getElem hj)
   rw [hu2] at hu
   cases hu
   have hb : B[j]! = B[j] := getElem!_pos B j hj
   rw [Array.getD_eq_getD_getElem?,putCells,Array.getElem?_mapIdx,Array.getElem?_eq_getElem (by omega : j < cur.size),Option.map_some,if_pos ⟨Nat.zero_le _,by simpa using hj⟩]
   simp only [Nat.sub_zero,Option.getD_some,List.getElem!_toArray,hb]
   exact .int _ _ _ rfl
  have hfin := hr.turn (B' := .pure true (ipv B)) rfl hm ht hB'
  obtain ⟨he,hfin2⟩ := HR.grown hfin os
  refine ⟨c,.tup [],_,[hpP 0 (ipv B)],1,rfl,⟨ipv B,rfl,rfl,rfl,rfl⟩,hfin2,hN,.tup [] #[] rfl (fun j u hu => by cases hu),Ext.trans (Ext.turn hr hm ht) he⟩
theorem sorted_rising {A : List Int} (h : A.Nodup) : (A.mergeSort fun x y => decide (x ≤ y)).Pairwise (· < ·) ∧ (∀ x,x ∈ A.mergeSort (fun x y => decide (x ≤ y)) ↔ x ∈ A) ∧ (A.mergeSort fun x y => decide (x ≤ y)).length = A.length := by
 refine ⟨?_,fun x => List.mem_mergeSort,List.length_mergeSort _⟩
 have h1 := List.pairwise_mergeSort (le := fun x y : Int => decide (x ≤ y)) (fun a b c hab hbc => by simp only [decide_eq_true_eq] at *; omega) (fun a b => by simp only [Bool.or_eq_true,decide_eq_true_eq]; omega) A
 have h2 : (A.mergeSort fun x y => decide (x ≤ y)).Nodup := (List.mergeSort_perm A _).nodup_iff.2 h
 exact (h1.and h2).imp fun ⟨a,b⟩ => by simp only [decide_eq_true_eq] at a; omega
end Go.Proofs.YtjfdfbpgckilpaaGreatDoor
namespace Go.Proofs
open Go.Shelf
set_option maxHeartbeats 32000000
def Tryz.laysNm215_ren : Go.Shelf.Ren := ⟨fun | 15 => 104 | n => n,fun | 22 => 31 | 3 => 3 | 4 => 4 | n => n,fun | n => n⟩
theorem Tryz.laysNm215 : Go.Proofs.Lays2.n15 Tryz.prog Tryz.laysNm215_ren := {
 mixed := by kernel_rfl
 f15 := Tryz.func104.trans (congrArg some (by kernel_rfl))
 t3 := Tryz.underlying3
 a3 := Tryz.isAgg3
 z3 := Tryz.sizeOf3
 v3 := Tryz.zeroValue3
 t4 := Tryz.underlying4
 a4 := Tryz.isAgg4
 z4 := Tryz.sizeOf4
 v4 := Tryz.zeroValue4
 t22 := Tryz.underlying31
 a22 := Tryz.isAgg31
 z22 := Tryz.sizeOf31
 v22 := Tryz.zeroValue31
 i3 := by kernel_rfl }
open Go.RowKit Go.Lib in
theorem Tryz.slices_Clone_int (b off n c : Nat) (zs : List Int) (w : World) (hz : n ≤ zs.length) (hbig : n * 8 ≤ 140737488355328) (hc : ∀ j,j < zs.length → w.cell? ⟨b,off + j,none⟩ = some (.int .i64 (zs.getD j 0))) :
  Calls Tryz.prog 104 #[.slice (some ⟨b,off,none⟩) n c] w fun e w' => ∃ v',e = .returned v' ∧ w'.ownsRow w.heap.size 3 1 v' n ((zs.take n).map (Value.int .i64)) ∧ v' ≠ .slice none 0 0 ∧ Below w.heap.size w w' := Any.slices_Clone_int Tryz.laysNm215 b off n c zs w hz hbig hc
open Go.RowKit Go.Lib in
theorem Tryz.slices_Clone_int_nil (n c : Nat) (w : World) :
  Calls Tryz.prog 104 #[.slice none n c] w fun e w' => e = .returned (.slice none 0 0) ∧ w' = w := Any.slices_Clone_int_nil Tryz.laysNm215 n c w
open Go.RowKit Go.Lib in
theorem Tryz.slices_Clone_int_zero (a : Addr) (c : Nat) (w : World) :
  Calls Tryz.prog 104 #[.slice (some a) 0 c] w fun e w' => ∃ v',e = .returned v' ∧ w'.ownsRow w.heap.size 3 1 v' 0 [] ∧ v' ≠ .slice none 0 0 ∧ Below w.heap.size w w' := Any.slices_Clone_int_zero Tryz.laysNm215 a c w
def Tryz.laysNm225_ren : Go.Shelf.Ren := ⟨fun | 25 => 110 | 31 => 172 | 32 => 173 | 37 => 223 | n => n,fun | 22 => 31 | 3 => 3 | 4 => 4 | 40 => 23 | 0 => 0 | n => n,fun | n => n⟩
theorem Tryz.laysNm225 : Go.Proofs.Lays2.n25 Tryz.prog Tryz.laysNm225_ren := {
 mixed := by kernel_rfl
 f25 := Tryz.func110.trans (congrArg some (by kernel_rfl))
 f31 := Tryz.func172.trans (congrArg some (by kernel_rfl))
 f32 := Tryz.func173.trans (congrArg some (by kernel_rfl))
 f37 := Tryz.func223.trans (congrArg some (by kernel_rfl))
 t0 := Tryz.underlying0
 a0 := Tryz.isAgg0
 z0 := Tryz.sizeOf0
 v0 := Tryz.zeroValue0
 t3 := Tryz.underlying3
 a3 := Tryz.isAgg3
 z3 := Tryz.sizeOf3
 v3 := Tryz.zeroValue3
 t4 := Tryz.underlying4
 a4 := Tryz.isAgg4
 z4 := Tryz.sizeOf4
 v4 := Tryz.zeroValue4
 t22 := Tryz.underlying31
 a22 := Tryz.isAgg31
 z22 := Tryz.sizeOf31
 v22 := Tryz.zeroValue31
 t40 := Tryz.underlying23
 a40 := Tryz.isAgg23
 z40 := Tryz.sizeOf23
 v40 := Tryz.zeroValue23 }
open Go.RowKit Go.Lib in
theorem Tryz.slices_BinarySearch_int (b off n c : Nat) (zs : List Int) (x : Int) (w : World) (hz : n ≤ zs.length) (hbig : n < 4611686018427387904) (hc : ∀ j,j < zs.length → w.cell? ⟨b,off + j,none⟩ = some (.int .i64 (zs.getD j 0))) (hs : (zs.take n).Pairwise (· ≤ ·)) :
  Calls Tryz.prog 110 #[.slice (some ⟨b,off,none⟩) n c,.int .i64 x] w fun e w' => e = .returned (.tuple #[.int .i64 ((zs.take n).countP (· < x) : Nat),.bool ((zs.take n).contains x)]) ∧ ∃ q,w' = w.drewN q := Any.slices_BinarySearch_int Tryz.laysNm225 b off n c zs x w hz hbig hc hs
open Go.RowKit Go.Lib in
theorem Tryz.slices_BinarySearch_int_empty (a : Option Addr) (c : Nat) (x : Int) (w : World) :
  Calls Tryz.prog 110 #[.slice a 0 c,.int .i64 x] w fun e w' => e = .returned (.tuple #[.int .i64 0,.bool false]) ∧ w' = w := Any.slices_BinarySearch_int_empty Tryz.laysNm225 a c x w
end Go.Proofs
namespace Go.Proofs.YtjfdfbpgckilpaaGreatDoor
open Go Go.LX
set_option maxRecDepth 100000
set_option linter.unusedVariables false
set_option linter.unusedSimpArgs false
set_option maxHeartbeats 32000000
open Go.RowKit in
theorem HR.owned {c : Ctx} {w w' : World} {h : LH} (hr : HR c w h) (hb : Below w.heap.size w w') (g : Nat) (hg : w.heap.size ≤ g) (hg2 : g < w'.heap.size) {B : LB} (hB : BR (c.grow (some g)) w' B (some g)) : Ext c w (c.grow (some g)) w' ∧ HR (c.grow (some g)) w' ((c.N,B) :: h) := by
 have he : Ext c w (c.grow (some g)) w' := by
  refine ⟨hb.os,hb.tape,hb.output,hb.size,rfl,Nat.le_succ _,fun b hb => .inl (grow_old c _ (Nat.ne_of_lt hb)),fun b r hb h => ?_,fun r hr _ => hb.block r hr,fun b r hbn h => ?_⟩
  ·by_cases e : b = c.N
   ·subst e; rw [grow_new] at h; cases h; exact .inl hg
   ·rw [grow_old c _ e,hr.fresh b hb] at h; cases h
  ·rw [grow_old c _ (Nat.ne_of_lt hbn)] at h
   simp only [World.shape?]
   rw [hb.block r (hr.lt b r h)]
 refine ⟨he,hr.step he (.inr rfl) (fun b hb => ?_) (fun b => ?_) (fun b C hb2 => ?_)⟩
 ·have hb' : c.N + 1 ≤ b := hb
  rw [grow_old c _ (by omega)]; exact hr.fresh b (by omega)
 ·by_cases e : b = c.N
  ·exact .inr (.inr ⟨e,.inr ⟨g,by rw [e,grow_new],hg,hg2⟩⟩)
  ·exact .inl (grow_old c _ e)
 ·rw [hget_cons] at hb2
  by_cases e : c.N = b
  ·rw [if_pos e] at hb2; cases hb2
   subst e
   exact .inr ⟨_,grow_new c _,hB⟩
  ·rw [if_neg e] at hb2
   exact .inl ⟨hb2,grow_old c _ (fun h => e h.symm),fun r hrr => hb.block r (hr.lt b r hrr)⟩
open Go.RowKit in
theorem clone_own {c : Ctx} {w w' : World} {A : List Int} {k : Int} {v : Value} {n : Nat} (hr : HR c w []) (hN : c.N = 0) (hk : k = A.length) (hn : n = A.length) (ho : w'.ownsRow w.heap.size 3 1 v n (A.map (Value.int .i64))) (hne : v ≠ .slice none 0 0) (hb : Below w.heap.size w w') :
  ∃ (c' : Ctx) (r : LV) (v2 : Value) (h' : LH) (n' : Nat),Ending.returned v = .returned v2 ∧ (∃ T : List PV,r = .sl 0 3 1 (.lit 0) (.sym k) ∧ h' = [hpP 0 T] ∧ n' = 1 ∧ T = ipv A) ∧ HR c' w' h' ∧ c'.N = n' ∧ LR c' w' r v2 ∧ Ext c w c' w' := by
 obtain ⟨hl,⟨h1,_⟩ | ⟨g,cap,cur,rfl,hg,hgh,hnc,hcm,hcs,hct⟩⟩ := ho
 ·exact absurd h1 hne
 have hgs : g < w'.heap.size := by
  have := (Array.getElem?_eq_some_iff.1 hgh).1
  exact this
 have hB : BR (c.grow (some g)) w' (.pure true (ipv A)) (some g) := by
  refine ⟨_,_,hgh,by rw [ipv_length,hcs]; omega,fun j u hu => ?_⟩
  have hj : j < A.length := by
   have := (List.getElem?_eq_some_iff.1 hu).1
   rwa [ipv_length] at this
  have hu2 := ipv_get (List.getElem?_eq_getElem hj)
  rw [hu2] at hu
  cases hu
  have hc : cur.toList[j]? = some (.int .i64 A[j]) := by
   have h2 : (cur.toList.take (n * 1))[j]? = some (.int .i64 A[j]) := by rw [hct,List.getElem?_map,List.getElem?_eq_getElem hj]; rfl
   rw [List.getElem?_take_of_lt (by omega)] at h2
   exact h2
  rw [Array.getD_eq_getD_getElem?,← Array.getElem?_toList,hc]
  exact .int _ _ _ rfl
 obtain ⟨he,hh⟩ := HR.owned hr hb g hg hgs hB
 rw [hN] at hh
 refine ⟨c.grow (some g),.sl 0 3 1 (.lit 0) (.sym k),_,[hpP 0 (ipv A)],1,rfl,⟨ipv A,rfl,rfl,rfl,rfl⟩,hh,by show c.N + 1 = 1; omega,?_,he⟩
 have hm : (c.grow (some g)).m 0 = some (some g) := by have := grow_new c (some g); rwa [hN] at this
 refine .sl _ _ _ _ _ g 0 n cap cur.size hm rfl ?_ hnc hcm ?_ (by omega)
 ·simp only [I.val]; omega
 ·simp only [World.shape?,hgh]
theorem addr_add {a : Addr} (h : a.spot = none) (j : Nat) : a.add j = ⟨a.block,a.off + j,none⟩ := by
 cases a; cases h
 unfold Addr.add
 by_cases e : j = 0
 ·subst e; rfl
 ·rw [if_neg e]
theorem ints_cells {M : Nat → Prop} {w : World} {A : List Int} {f : Nat → Value} (hrel : ∀ (j : Nat) (u : PV),(ipv A)[j]? = some u → PR M w u (f j)) {j : Nat} (hj : j < A.length) : f j = .int .i64 (A.getD j 0) := by
 have h1 := hrel j _ (ipv_get (List.getElem?_eq_getElem hj))
 rw [List.getD_eq_getElem?_getD,List.getElem?_eq_getElem hj]
 generalize f j = q at h1
 cases h1 with | int _ _ m hm => rw [← hm]; rfl
open Go.RowKit in
theorem clone_lx (A : List Int) (k : Int) (cells : List PV) (hk : k = A.length) (hcs : cells = ipv A) (hAl : A.length ≤ 100000) : CallF (fun _ => Tryz.prog) 104 [.p (.vsl (.sym k) true cells)] [] 0 (fun r h n => ∃ T : List PV,r = .sl 0 3 1 (.lit 0) (.sym k) ∧ h = [hpP 0 T] ∧ n = 1 ∧ T = ipv A) := by
 refine .mk ⟨_,_,Tryz.func104,by kernel_rfl,rfl⟩ fun c w xs hr hN hl2 hrel => ?_
 obtain ⟨x,rfl,hx⟩ : ∃ x,xs = #[x] ∧ LR c w (.p (.vsl (.sym k) true cells)) x := by
  have h0 := hrel 0 _ rfl
  rcases xs with ⟨l⟩
  match l,hl2 with
  | [x],_ => exact ⟨x,rfl,h0⟩
 cases hx with | p _ _ hx => ?_
 cases hx with
 | vsl0 _ _ _ a cp h0 hc =>
  have h0 : k = 0 := h0
  have hA : A = [] := List.eq_nil_of_length_eq_zero (by omega)
  subst hA
  cases a with
  | none =>
   refine (Tryz.slices_Clone_int_nil 0 cp w).mono ?_
   rintro e w' ⟨rfl,rfl⟩
   have hh := hr.void true
   rw [hN] at hh
   refine ⟨c.grow none,.sl 0 3 1 (.lit 0) (.sym k),_,[(0,.pure true [])],1,rfl,⟨[],rfl,rfl,rfl,rfl⟩,hh,by show c.N + 1 = 1; omega,?_,Ext.void hr⟩
   have hm : (c.grow none).m 0 = some none := by have := grow_new c none; rwa [hN] at this
   exact .slv _ _ _ _ _ hm rfl h0
  | some a =>
   refine (Tryz.slices_Clone_int_zero a cp w).mono ?_
   rintro e w' ⟨v',rfl,ho,hne,hb⟩
   exact clone_own hr hN hk rfl ho hne hb
 | vsl _ _ _ a n cp f hn hs hM hlt hk2 hc hcell hr2 =>
  have hn : k = n := hn
  have hnA : n = A.length := by omega
  rw [hcs] at hcell hr2
  have ha : a = ⟨a.block,a.off,none⟩ := by cases a; cases hs; rfl
  rw [ha]
  refine (Tryz.slices_Clone_int a.block a.off n cp A w (by omega) (by omega) (fun j hj => ?_)).mono ?_
  ·have h1 := hcell j _ (ipv_get (List.getElem?_eq_getElem hj))
   rw [ints_cells hr2 hj] at h1
   rw [addr_add hs] at h1; exact h1
  ·rintro e w' ⟨v',rfl,ho,hne,hb⟩
   rw [hnA,List.take_length] at ho
   exact clone_own hr hN hk rfl ho hne hb
open Go.RowKit in
theorem search_lx (A : List Int) (k x : Int) (cells : List PV) (hk : k = A.length) (hcs : cells = ipv A) (hAl : A.length ≤ 100000) (ha : A.Pairwise (· < ·)) : CallF (fun _ => Tryz.prog) 110 [.p (.vsl (.sym k) true cells),i6 x] [] 0 (fun r h n => ∃ (i : Int) (b : Bool),r = .tup [i6 i,.p (.bool b)] ∧ h = [] ∧ n = 0 ∧ (b = true ↔ x ∈ A)) := by
 refine .mk ⟨_,_,Tryz.func110,by kernel_rfl,rfl⟩ fun c w xs hr hN hl2 hrel => ?_
 obtain ⟨v,y,rfl,hv,hy⟩ : ∃ v y,xs = #[v,y] ∧ LR c w (.p (.vsl (.sym k) true cells)) v ∧ LR c w (.p (.int .i64 (.sym x))) y := by
  have h0 := hrel 0 _ rfl
  have h1 := hrel 1 _ rfl
  rcases xs with ⟨l⟩
  match l,hl2 with
  | [v,y],_ => exact ⟨v,y,rfl,h0,h1⟩
 have hy : y = .int .i64 x := hy.inv_int
 subst hy
 have hret : ∀ (i : Int) (b : Bool) (w' : World),(b = true ↔ x ∈ A) → (Ext c w c w' ∧ HR c w' []) → ∃ (c' : Ctx) (r : LV) (v : Value) (h' : LH) (n' : Nat),Ending.returned (.tuple #[.int .i64 i,.bool b]) = .returned v ∧ (∃ (i : Int) (b : Bool),r = .tup [i6 i,.p (.bool b)] ∧ h' = [] ∧ n' = 0 ∧ (b = true ↔ x ∈ A)) ∧ HR c' w' h' ∧ c'.N = n' ∧ LR c' w' r v ∧ Ext c w c' w' := by
  intro i b w' hb ⟨he,hh⟩
  refine ⟨c,.tup [i6 i,.p (.bool b)],_,[],0,rfl,⟨i,b,rfl,rfl,rfl,hb⟩,hh,hN,.tup _ _ rfl (fun j u hu => ?_),he⟩
  match j,hu with
  | 0,hu => cases hu; exact .p _ _ (.int _ _ _ rfl)
  | 1,hu => cases hu; exact .p _ _ (.bool _)
 cases hv with | p _ _ hv => ?_
 cases hv with
 | vsl0 _ _ _ a cp h0 hc =>
  have h0 : k = 0 := h0
  have hA : A = [] := List.eq_nil_of_length_eq_zero (by omega)
  subst hA
  refine (Tryz.slices_BinarySearch_int_empty a cp x w).mono ?_
  rintro e w' ⟨rfl,rfl⟩
  exact hret 0 false w' ⟨fun h => (by cases h),fun h => (by cases h)⟩ ⟨Ext.refl hr,hr⟩
 | vsl _ _ _ a n cp f hn hs hM hlt hk2 hc hcell hr2 =>
  have hn : k = n := hn
  have hnA : n = A.length := by omega
  rw [hcs] at hcell hr2
  have hae : a = ⟨a.block,a.off,none⟩ := by cases a; cases hs; rfl
  rw [hae]
  refine (Tryz.slices_BinarySearch_int a.block a.off n cp A x w (by omega) (by omega) (fun j hj => ?_) (by rw [hnA,List.take_length]; exact ha.imp (fun h => by omega))).mono ?_
  ·have h1 := hcell j _ (ipv_get (List.getElem?_eq_getElem hj))
   rw [ints_cells hr2 hj] at h1
   rw [addr_add hs] at h1; exact h1
  ·rintro e w' ⟨rfl,q,rfl⟩
   rw [hnA,List.take_length]
   exact hret _ _ _ List.contains_iff_mem (HR.same hr rfl rfl rfl rfl)
end Go.Proofs.YtjfdfbpgckilpaaGreatDoor
namespace Go.Proofs.YtjfdfbpgckilpaaGreatDoor
open Go Go.LX
set_option maxRecDepth 100000
set_option linter.unusedVariables false
set_option linter.unusedSimpArgs false
set_option maxHeartbeats 32000000
theorem alloct_gen9 {R R' : List Rw} {ws ws' : List Int} {kind n a e : Int} (hA : AOk R ws) (h : Alloct R ws kind n a e R' ws') :
  (e ≠ 0 ∧ a = 0 ∧ R' = R ∧ ws' = ws) ∨ (e = 0 ∧ (0 ≤ n ∧ n ≤ 31 ∧ 1 ≤ kind ∧ kind ≤ 6) ∧ Kept R' ws' a kind n ∧ (∀ b k l,Kept R ws b k l → Kept R' ws' b k l ∧ b ≠ a ∧ ∀ i,0 ≤ i → i < l → ws'[(b + 1 + i).toNat]? = ws[(b + 1 + i).toNat]?) ∧ (∀ b,IsObj R' b → b = a ∨ IsObj R b)) := by
 have hA1 := (hA.alloct h).1
 cases h with
 | arg h => exact .inl ⟨by decide,rfl,rfl,rfl⟩
 | room i s R' hc ha =>
  obtain ⟨rfl,_⟩ := full_count hA.rows (ofN_slots n) ha
  exact .inl ⟨by decide,rfl,rfl,rfl⟩
 | ok i s _ R' hc ha hi hat =>
  right
  obtain ⟨w,hw⟩ : ∃ w,w = wordsOf (ofN n) := ⟨_,rfl⟩
  obtain ⟨q1,q2,q3,q4,q5⟩ := alloc_objs hA.rows ha a w hat hw
  have hobj : ObjAt R' a w := (q5 _ _).2 (.inr ⟨rfl,rfl⟩)
  obtain ⟨f1,f2,f3,_⟩ := hobj.facts q1
  have hnw : n < w := by rw [hw]; exact (ofN_words ⟨hc.1,hc.2.1⟩).1
  have hlw := hA.len
  have gw : ∀ j : Nat,j < ws.length → (zer (ws.set a.toNat (kind + 16 * n)) (a.toNat + 1) n.toNat)[j]? = if a.toNat + 1 ≤ j ∧ j < a.toNat + 1 + n.toNat then some 0 else (ws.set a.toNat (kind + 16 * n))[j]? := fun j hj => zer_get _ _ _ _ (by rw [List.length_set]; exact hj)
  have farw : ∀ j : Nat,(j : Int) < a ∨ a + w ≤ j → (zer (ws.set a.toNat (kind + 16 * n)) (a.toNat + 1) n.toNat)[j]? = ws[j]? := fun j hj => by
   by_cases hjl : j < ws.length
   ·rw [gw j hjl,if_neg (by omega),List.getElem?_set_ne (by omega)]
   ·rw [List.getElem?_eq_none (by rw [zer_length,List.length_set]; omega),List.getElem?_eq_none (by omega)]
  obtain ⟨p1,p2,p3,p4⟩ := alloc_gen hA hc ha hat hw (by rw [zer_length,List.length_set]) (by rw [gw _ (by omega),if_neg (by omega),List.getElem?_set_self (by omega)]) farw hA1.bd
  exact ⟨rfl,hc,p2,p3,p4⟩
theorem K1.alloct {R R' : List Rw} {ws ws' : List Int} {kind n a e : Int} (hA : AOk R ws) (hk : K1 R ws) (h : Alloct R ws kind n a e R' ws') : K1 R' ws' := by
 rcases alloct_gen9 hA h with ⟨_,_,rfl,rfl⟩ | ⟨_,hc,h1,h2,h3⟩
 ·exact hk
 ·intro b k l hb
  rcases h3 b hb.obj6 with rfl | ho
  ·obtain ⟨rfl,_⟩ := h1.det9 hb; omega
  ·obtain ⟨k',l',hk'⟩ := Kept.of hA ho
   obtain ⟨rfl,_⟩ := (h2 b k' l' hk').1.det9 hb
   exact hk b k' l' hk'
theorem HM.alloct {R R' : List Rw} {ws ws' C C' G : List Int} {N W : Int} {L L' D D' Q Q' : List PV} {z : ByteArray} {kind n a e : Int} (h : HM R ws C G N W L D Q z) (hs : Alloct R ws kind n a e R' ws') (hL : L' = rpv R') (hD : D' = ipv ws') (hC : C'.length = C.length) (hQ : Q' = ipv C') : HM R' ws' C' G N W L' D' Q' z := by
 obtain ⟨h1,h2⟩ := h.a.alloct hs
 exact ⟨h1,h.k.alloct h.a hs,by rw [h2]; exact h.n,by rw [h2]; exact h.r,h.w,hL,hD,hQ,by rw [hC]; exact h.c,h.z,h.g,h.g8⟩
def allocC (ph a e : Int) (C : List Int) : List Int := if e = 0 then C.set a.toNat (if ph = 0 then 0 else 2) else C
theorem allocC_length (ph a e : Int) (C : List Int) : (allocC ph a e C).length = C.length := by
 unfold allocC; split
 ·rw [List.length_set]
 ·rfl
theorem alloc9_lx (R : List Rw) (ws C G : List Int) (N W ph sp cy : Int) (L D Q : List PV) (z : ByteArray) (ov : Bool) (h : HM R ws C G N W L D Q z) (kind m : Int) : CallF (fun _ => Tryz.prog) 13 [.ptr 0 (.lit 0),i6 kind,i6 m] [hpA 0 1 5 6 3 W ph sp cy,hpB 1 2 4 3 W,hpC 2 3 179 2 N,hpP 3 L,hpP 4 D,hpF 5 z ov,hpP 6 Q] 7 (fun r h n => ∃ (a e : Int) (R' : List Rw) (ws' C' : List Int) (L' D' Q' : List PV),r = .tup [i6 a,i6 e] ∧ h = [hpA 0 1 5 6 3 W ph sp cy,hpB 1 2 4 3 W,hpC 2 3 179 2 N,hpP 3 L',hpP 4 D',hpF 5 z ov,hpP 6 Q'] ∧ n = 7 ∧ HM R' ws' C' G N W L' D' Q' z ∧ Alloct R ws kind m a e R' ws' ∧ C' = allocC ph a e C) := by
 have hCl := h.c; have hWn := h.w; have hNr := h.n; have hRr := h.r
 have hQl : Q.length = C.length := by rw [h.q,ipv_length]
 refine callF_of_body tok Tryz.func13 (by kernel_rfl) rfl rfl rfl ?_; conv => cbv
 refine cfr (arena_lx R ws C G N W ph sp cy L D Q z ov) [(0,0),(1,1),(2,2),(3,3),(4,4),(5,5),(6,6)] (fun r h' n' ⟨e1,e2,e3⟩ => ?_)
 subst e1 e2 e3
 conv => cbv
 refine cfr (allocA_lx kind m R ws N W L D h.l h.d h.n h.r h.a h.w) [(0,1),(1,2),(2,3),(3,4)] (fun r h' n' hrr => ?_)
 obtain ⟨a,e,R',ws',L',D',e1,e2,e3,hL',hD',hT⟩ := hrr
 subst e1 e2 e3
 conv => cbv
 have hgen := alloct_gen9 h.a hT
 refine Br.mk (fun g => ?_) (fun g => ?_)
 ·have g : e ≠ 0 := g
  have ha0 : a = 0 := by
              rcases hgen with h | h; · exact h.2.1
              ·exact absurd h.1 g
  conv => cbv
  refine RetF.mk [i6 a,i6 e] [hpA 0 1 5 6 3 W ph sp cy,hpB 1 2 4 3 W,hpC 2 3 179 2 N,hpP 3 L',hpP 4 D',hpF 5 z ov,hpP 6 Q] 7 (Re.at [(0,0),(1,1),(2,2),(3,3),(4,4),(5,5),(6,6)] []) rfl ⟨a,e,R',ws',C,L',D',Q,rfl,rfl,rfl,h.alloct hT hL' hD' rfl h.q,hT,by unfold allocC; rw [if_neg g]⟩
 ·have g : ¬ e ≠ 0 := g
  have g : e = 0 := by omega
  have hA1 := (h.a.alloct hT).1
  have hlR := (h.a.alloct hT).2
  have hb : 0 ≤ a ∧ a < W := by
   rcases hgen with h | h
   ·exact absurd g h.1
   ·have h1 := (h.2.2.1).bounds hA1
    omega
  obtain ⟨C',hC'⟩ : ∃ C',C' = allocC ph a e C := ⟨_,rfl⟩
  obtain ⟨Q',hQ'⟩ : ∃ Q',Q' = ipv C' := ⟨_,rfl⟩
  have hfin := h.alloct hT hL' hD' (by rw [hC']; exact allocC_length _ _ _ _) hQ'
  conv => cbv
  refine Need.mk ⟨by show 0 ≤ a; omega,by show a < W; omega⟩ ?_
  conv => cbv
  refine Need.mk (by show a + 1 ≤ (Q.length : Int); omega) ?_
  conv => cbv
  refine Upd.mk fun Q2 hQ2 => ?_
  have hQ2 : Q2 = Q.set a.toNat (.int .i64 (.lit 0)) := hQ2
  conv => cbv
  refine Br.mk (fun gp => ?_) (fun gp => ?_)
  ·have gp : ph ≠ 0 := gp
   conv => cbv
   refine Need.mk ⟨by show 0 ≤ a; omega,by show a < W; omega⟩ ?_
   conv => cbv
   refine Need.mk (by show a + 1 ≤ (Q2.length : Int); rw [hQ2,List.length_set]; omega) ?_
   conv => cbv
   refine Upd.mk fun Q3 hQ3 => ?_
   have hle : pvles Q3 Q' := by
    have hQ3 : Q3 = Q2.set a.toNat (.int .i64 (.lit 2)) := hQ3
    rw [hQ3,hQ2,hQ',hC',allocC,if_pos g,if_neg gp,h.q,← ipv_set,List.set_set]
    exact pvles_set _ _ _ _ _ (pvles_refl _) (by simp [pvle,I.val])
   unfold pvles at hle
   clear hQ3 hQ2
   conv => cbv
   refine RetF.mk [i6 a,i6 e] [hpA 0 1 5 6 3 W ph sp cy,hpB 1 2 4 3 W,hpC 2 3 179 2 N,hpP 3 L',hpP 4 D',hpF 5 z ov,hpP 6 Q'] 7 (Re.at [(0,0),(1,1),(2,2),(3,3),(4,4),(5,5),(6,6)] []) rfl ⟨a,e,R',ws',C',L',D',Q',rfl,rfl,rfl,hfin,hT,hC'⟩
  ·have gp : ¬ ph ≠ 0 := gp
   have gp : ph = 0 := by omega
   have hle : pvles Q2 Q' := by
    rw [hQ2,hQ',hC',allocC,if_pos g,if_pos gp,h.q,← ipv_set]
    exact pvles_set _ _ _ _ _ (pvles_refl _) (by simp [pvle,I.val])
   unfold pvles at hle
   clear hQ2
   conv => cbv
   refine RetF.mk [i6 a,i6 e] [hpA 0 1 5 6 3 W ph sp cy,hpB 1 2 4 3 W,hpC 2 3 179 2 N,hpP 3 L',hpP 4 D',hpF 5 z ov,hpP 6 Q'] 7 (Re.at [(0,0),(1,1),(2,2),(3,3),(4,4),(5,5),(6,6)] []) rfl ⟨a,e,R',ws',C',L',D',Q',rfl,rfl,rfl,hfin,hT,hC'⟩
theorem allocNil9_lx (a m : I) : CallF (fun _ => Tryz.prog) 13 [.p .nilp,.p (.int .i64 a),.p (.int .i64 m)] [] 0 (fun r h n => r = .tup [i6 0,i6 2] ∧ h = [] ∧ n = 0) := by
 refine callF_of_body tok Tryz.func13 (by kernel_rfl) rfl rfl rfl ?_; conv => cbv
 refine callF_frame arenaNil_lx [] rfl trivial rfl rfl (fun r h' n' ⟨e1,e2,e3⟩ => ?_)
 subst e1 e2 e3
 conv => cbv
 refine callF_frame (allocA_nil a m) [] rfl trivial rfl rfl (fun r h' n' ⟨e1,e2,e3⟩ => ?_)
 subst e1 e2 e3
 conv => cbv
 refine Br.mk (fun g => ?_) (fun g => ?_)
 case refine_2 =>
  have g : ¬ (2 : Int) ≠ 0 := g
  exfalso
  omega
 conv => cbv
 refine RetF.mk [i6 0,i6 2] [] 0 (Re.at [] []) rfl ⟨rfl,rfl,rfl⟩
end Go.Proofs.YtjfdfbpgckilpaaGreatDoor
namespace Go.Proofs.YtjfdfbpgckilpaaGreatDoor
open Go Go.LX
set_option maxRecDepth 100000
set_option linter.unusedVariables false
set_option linter.unusedSimpArgs false
set_option maxHeartbeats 32000000
theorem spanNew_arg (n : Int) (hn : n < 2) : CallF (fun _ => Tryz.prog) 116 [i6 n] [] 0 (fun r h m => r = .tup [.p .nilp,i6 1] ∧ h = [] ∧ m = 0) := by
 refine callF_of_body tok Tryz.func116 (by kernel_rfl) rfl rfl rfl ?_; conv => cbv
 refine Br.mk (fun g => ?_) (fun g => ?_)
 ·conv => cbv
  refine RetF.mk [.p .nilp,i6 1] [] 0 (Re.at [] []) rfl ⟨rfl,rfl,rfl⟩
 ·have gf : False := g hn
  cases gf
theorem newA_arg (n : Int) (hn : n < 2) : CallF (fun _ => Tryz.prog) 54 [i6 n] [] 0 (fun r h m => r = .tup [.p .nilp,i6 1] ∧ h = [] ∧ m = 0) := by
 refine callF_of_body tok Tryz.func54 (by kernel_rfl) rfl rfl rfl ?_; conv => cbv
 refine callF_frame (spanNew_arg n hn) [] rfl trivial rfl rfl (fun r h' n' ⟨e1,e2,e3⟩ => ?_)
 subst e1 e2 e3
 conv => cbv
 refine Br.mk (fun g => ?_) (fun g => ?_)
 case refine_2 =>
  have gf : False := g (by decide)
  cases gf
 conv => cbv
 refine RetF.mk [.p .nilp,i6 1] [] 0 (Re.at [] []) rfl ⟨rfl,rfl,rfl⟩
theorem Kept.det {R : List Rw} {ws : List Int} {a k l k' l' : Int} (h : Kept R ws a k l) (h' : Kept R ws a k' l') : k' = k ∧ l' = l := by
 obtain ⟨w,_,h1,h2,h3,h4,_⟩ := h
 obtain ⟨w',_,h1',h2',h3',h4',_⟩ := h'
 rw [h1] at h1'
 have h1' : k + 16 * l = k' + 16 * l' := Option.some.inj h1'
 omega
theorem Kept.obj {R : List Rw} {ws : List Int} {a k l : Int} (h : Kept R ws a k l) : IsObj R a := by
 obtain ⟨w,h,_⟩ := h
 exact isObj_iff.2 ⟨w,h⟩
theorem kindR_of {R : List Rw} {ws : List Int} {a k l v : Int} (h : Kept R ws a k l) (hv : KindR R ws a v) : v = k := by
 cases hv with
 | no hn => exact absurd h.obj hn
 | is k' l' h' => exact (h.det h').1
theorem lenR_of {R : List Rw} {ws : List Int} {a k l v : Int} (h : Kept R ws a k l) (hv : LenR R ws a v) : v = l := by
 cases hv with
 | no hn => exact absurd h.obj hn
 | is k' l' h' => exact (h.det h').2
theorem stored_of {R : List Rw} {ws ws' : List Int} {a k l i x e : Int} (h : Kept R ws a k l) (hi : 0 ≤ i ∧ i < l) (hv : Stored R ws a i x e ws') : e = 0 ∧ ws' = ws.set (a + 1 + i).toNat x := by
 cases hv with
 | none hn => exact absurd h.obj hn
 | arg k' l' h' hi' => rw [(h.det h').2] at hi'; exact absurd hi hi'
 | ok k' l' h' hi' => exact ⟨rfl,rfl⟩
theorem loaded_of {R : List Rw} {ws : List Int} {a k l i x e : Int} (h : Kept R ws a k l) (hi : 0 ≤ i ∧ i < l) (hv : Loaded R ws a i x e) : e = 0 ∧ ws[(a + 1 + i).toNat]? = some x := by
 cases hv with
 | none hn => exact absurd h.obj hn
 | arg k' l' h' hi' => rw [(h.det h').2] at hi'; exact absurd hi hi'
 | ok k' l' x' h' hi' hx => exact ⟨rfl,hx⟩
theorem alloct_ok {R R' : List Rw} {ws ws' : List Int} {kind n a e : Int} (hA : AOk R ws) (h : Alloct R ws kind n a e R' ws') (he : e = 0) :
  Kept R' ws' a kind n ∧ ¬ IsObj R a ∧ objCount R' = objCount R + 1 ∧ (∀ i,0 ≤ i → i < n → ws'[(a + 1 + i).toNat]? = some 0) ∧ (∀ b k l,Kept R ws b k l → Kept R' ws' b k l) ∧ (∀ b,IsObj R' b → b = a ∨ IsObj R b) ∧ (∀ b k l i,Kept R ws b k l → 0 ≤ i → i < l → ws'[(b + 1 + i).toNat]? = ws[(b + 1 + i).toNat]?) := by
 cases h with
 | arg h => exact absurd he (by decide)
 | room i s R' h ha => exact absurd he (by decide)
 | ok i s _ R' h ha hi hat =>
  have hA' := (AOk.alloct hA (Alloct.ok i s a R' h ha hi hat)).1
  obtain ⟨w,hw⟩ : ∃ w,w = wordsOf (ofN n) := ⟨_,rfl⟩
  obtain ⟨h1,h2,h3,h4,h5⟩ := alloc_objs hA.rows ha a w (by rw [hat]) hw
  have hobj : ObjAt R' a w := (h5 _ _).2 (.inr ⟨rfl,rfl⟩)
  obtain ⟨f1,f2,f3,_⟩ := hobj.facts h1
  have hnw : n < w := by rw [hw]; exact (ofN_words ⟨h.1,h.2.1⟩).1
  have hlen := hA.len
  have hget : ∀ j,j < ws.length → (zer (ws.set a.toNat (kind + 16 * n)) (a.toNat + 1) n.toNat)[j]? = if a.toNat + 1 ≤ j ∧ j < a.toNat + 1 + n.toNat then some 0 else (ws.set a.toNat (kind + 16 * n))[j]? := fun j hj => zer_get _ _ _ _ (by rw [List.length_set]; exact hj)
  have hfar : ∀ j,j < ws.length → (j : Int) < a ∨ a + w ≤ j → (zer (ws.set a.toNat (kind + 16 * n)) (a.toNat + 1) n.toNat)[j]? = ws[j]? := by
   intro j hj hfar
   rw [hget j hj,if_neg (by omega),List.getElem?_set_ne (by omega)]
  refine ⟨?_,h4,h3,?_,?_,?_,?_⟩
  ·refine .mk kind n w hobj ?_ (by omega) (by omega) h.1 hnw
   rw [hget _ (by omega),if_neg (by omega),List.getElem?_set_self (by omega)]
  ·intro j hj0 hj1
   rw [hget _ (by omega),if_pos (by omega)]
  ·rintro b k l ⟨v,hb,hx,g1,g2,g3,g4⟩
   have hb' := (h5 b v).2 (.inl hb)
   have hne : b ≠ a := fun e => h4 (isObj_iff.2 ⟨v,e ▸ hb⟩)
   obtain ⟨q1,q2,q3,_⟩ := hb'.facts h1
   refine .mk k l v hb' ?_ g1 g2 g3 g4
   rw [hfar _ (by omega) (by rcases hobj.apart h1 hb' with ⟨h,_⟩ | h | h <;> omega)]
   exact hx
  ·intro b hb
   obtain ⟨v,hb⟩ := isObj_iff.1 hb
   rcases (h5 b v).1 hb with hb | ⟨hb,_⟩
   ·exact .inr (isObj_iff.2 ⟨v,hb⟩)
   ·exact .inl hb
  ·rintro b k l j ⟨v,hb,hx,g1,g2,g3,g4⟩ hj0 hj1
   have hb' := (h5 b v).2 (.inl hb)
   have hne : b ≠ a := fun e => h4 (isObj_iff.2 ⟨v,e ▸ hb⟩)
   obtain ⟨q1,q2,q3,_⟩ := hb'.facts h1
   exact hfar _ (by omega) (by rcases hobj.apart h1 hb' with ⟨h,_⟩ | h | h <;> omega)
theorem alloct_err {R R' : List Rw} {ws ws' : List Int} {kind n a e : Int} (hA : AOk R ws) (h : Alloct R ws kind n a e R' ws') (hroom : objCount R < R.length) : e = if 0 ≤ n ∧ n ≤ 31 ∧ 1 ≤ kind ∧ kind ≤ 6 then 0 else 1 := by
 cases h with
 | arg h => rw [if_neg h]
 | room i s R' h ha => obtain ⟨_,h2⟩ := full_count hA.rows (ofN_slots n) ha; omega
 | ok i s _ R' h ha hi hat => rw [if_pos h]
theorem freet_none {R R' : List Rw} {a e : Int} (h : Freet R a e R') (hn : ¬ IsObj R a) : e = 8 ∧ R = R' := by
 cases h with
 | none h => exact ⟨rfl,rfl⟩
 | ok q s e he hs hat => exact absurd ⟨q,s,e,he,hs,hat⟩ hn
theorem stored_none {R : List Rw} {ws ws' : List Int} {a i x e : Int} (h : Stored R ws a i x e ws') (hn : ¬ IsObj R a) : e = 8 := by
 cases h with
 | none h => rfl
 | arg k l h hi => exact absurd h.obj hn
 | ok k l h hi => exact absurd h.obj hn
theorem rep2 : (List.replicate (2 : Int).toNat ((0,[]) : Rw)) = List.replicate 2 (0,[]) := rfl
end Go.Proofs.YtjfdfbpgckilpaaGreatDoor
namespace Go.Proofs.YtjfdfbpgckilpaaGreatDoor
open Go Go.LX
set_option maxRecDepth 100000
set_option linter.unusedVariables false
set_option linter.unusedSimpArgs false
set_option maxHeartbeats 32000000
theorem zer_all (ws : List Int) : zer ws 0 ws.length = List.replicate ws.length 0 := by
 apply List.ext_getElem?
 intro i
 by_cases h : i < ws.length
 ·rw [zer_get _ _ _ _ h,if_pos (by omega),List.getElem?_replicate,if_pos h]
 ·rw [List.getElem?_eq_none (by rw [zer_length]; omega),List.getElem?_eq_none (by rw [List.length_replicate]; omega)]
theorem HM.new {N W : Int} (h2 : 2 ≤ N) (h8 : N ≤ 128) (hW : W = 32 * N) {L D Q : List PV} {z : ByteArray} (hL : L = rpv (List.replicate N.toNat (0,[]))) (hD : D = ipv (List.replicate W.toNat 0)) (hQ : Q = ipv (List.replicate W.toNat 0)) (hz : z = ⟨(enc []).toArray⟩) :
  HM (List.replicate N.toNat (0,[])) (List.replicate W.toNat 0) (List.replicate W.toNat 0) [] N W L D Q z :=
 ⟨by rw [show W.toNat = 32 * N.toNat by omega]; exact AOk.new _,fun a k l hk => absurd hk.obj6 (new_none _ _),by rw [List.length_replicate]; omega,by rw [List.length_replicate]; omega,hW,hL,hD,hQ,by rw [List.length_replicate]; omega,hz,fun x hx => (by cases hx),Nat.zero_le _⟩
theorem newH_lx (N W : Int) (h2 : 2 ≤ N) (h8 : N ≤ 128) (hW : W = 32 * N) (L D Q : List PV) (z : ByteArray) (hL : L = rpv (List.replicate N.toNat (0,[]))) (hD : D = ipv (List.replicate W.toNat 0)) (hQ : Q = ipv (List.replicate W.toNat 0)) (hz : z = ⟨(enc []).toArray⟩) : CallF (fun _ => Tryz.prog) 10 [i6 N] [] 0 (fun r h n => r = .tup [.ptr 0 (.lit 0),.p (.int .i64 (.lit 0))] ∧ h = [hpA 0 1 5 6 3 W 0 0 0,hpB 1 2 4 3 W,hpC 2 3 179 2 N,hpP 3 L,hpP 4 D,hpF 5 z false,hpP 6 Q] ∧ n = 7) := by
 refine callF_of_body tok Tryz.func10 (by kernel_rfl) rfl rfl rfl ?_; conv => cbv
 refine callF_frame (newA_lx N W h2 h8 hW L D hL hD) [] rfl trivial rfl rfl (fun r h' n' ⟨e1,e2,e3⟩ => ?_)
 subst e1 e2 e3
 conv => cbv
 refine callF_frame greyNew_lx [] rfl trivial rfl rfl (fun r h' n' hrr => ?_)
 obtain ⟨z1,e1,e2,e3,hz1⟩ := hrr
 subst e1 e2 e3
 obtain rfl : z1 = z := by rw [hz1,hz]
 have hA0 : AOk (List.replicate N.toNat ((0,[]) : Rw)) (List.replicate W.toNat 0) := by rw [show W.toNat = 32 * N.toNat by omega]; exact AOk.new _
 conv => cbv
 refine cfr (wordsA_lx (List.replicate N.toNat ((0,[]) : Rw)) (List.replicate W.toNat 0) N W L D hL hD (by rw [List.length_replicate]; omega) (by rw [List.length_replicate]; omega) hA0 hW) [(0,0),(1,1),(2,2),(3,3)] (fun r h' n' ⟨e1,e2,e3⟩ => ?_)
 subst e1 e2 e3
 conv => cbv
 refine Need.mk ⟨by show 0 ≤ W; omega,Int.le_refl _,by show W * 8 ≤ 140737488355328; omega,by show W ≤ 9223372036854775807; omega⟩ ?_
 conv => cbv
 refine Upd.mk fun Q0 hQ0 => ?_
 have hle : pvles Q0 Q := by
  have hQ0 : Q0 = repsP [.int .i64 (.lit 0)] W.toNat := hQ0
  rw [hQ0,hQ]; exact zero_ipv _
 unfold pvles at hle
 clear hQ0
 conv => cbv
 refine RetF.mk [.ptr 0 (.lit 0),.p (.int .i64 (.lit 0))] [hpA 0 1 5 6 3 W 0 0 0,hpB 1 2 4 3 W,hpC 2 3 179 2 N,hpP 3 L,hpP 4 D,hpF 5 z1 false,hpP 6 Q] 7 (Re.at [(6,0),(0,1),(1,2),(2,3),(3,4),(4,5),(5,6)] []) rfl ⟨rfl,rfl,rfl⟩
theorem newHArg_lx (n : Int) (h : n < 2) : CallF (fun _ => Tryz.prog) 10 [i6 n] [] 0 (fun r h m => r = .tup [.p .nilp,.p (.int .i64 (.lit 1))] ∧ h = [] ∧ m = 0) := by
 refine callF_of_body tok Tryz.func10 (by kernel_rfl) rfl rfl rfl ?_; conv => cbv
 refine callF_frame (newA_arg n h) [] rfl trivial rfl rfl (fun r h' n' ⟨e1,e2,e3⟩ => ?_)
 subst e1 e2 e3
 conv => cbv
 refine Br.mk (fun g => ?_) (fun g => ?_)
 case refine_2 =>
  have g : ¬ (1 : Int) ≠ 0 := g
  exfalso
  omega
 conv => cbv
 refine RetF.mk [.p .nilp,.p (.int .i64 (.lit 1))] [] 0 (Re.at [] []) rfl ⟨rfl,rfl,rfl⟩
def begS (R : List Rw) (W : Int) (A : List Int) : List Int × List Int × Bool := A.foldl (fun s a => shade R 1 a s) (List.replicate W.toNat 0,[],false)
theorem begin_lx (R : List Rw) (ws C G : List Int) (N W ph sp cy : Int) (L D Q : List PV) (z : ByteArray) (ov : Bool) (h : HM R ws C G N W L D Q z) (o : Unit → Obj) (ho : IsPow o) (A : List Int) (k : Int) (rs : List PV) (hrs : rs = ipv A) (hk : k = A.length) (hA : (A.length : Int) < 1000000) (hph : ph = 0) : CallF (fun _ => Tryz.prog) 18 [.ptr 0 (.lit 0),.p (.vsl (.sym k) true rs)] [hpA 0 1 5 6 3 W ph sp cy,hpB 1 2 4 3 W,hpC 2 3 179 2 N,hpP 3 L,hpP 4 D,hpF 5 z ov,hpP 6 Q,(7,.fix 0 o)] 8 (fun r h n => ∃ (C' G' : List Int) (ov' : Bool) (Q' : List PV) (z' : ByteArray),r = .p (.int .i64 (.lit 0)) ∧ h = [hpA 0 1 8 6 3 W 1 sp cy,hpB 1 2 4 3 W,hpC 2 3 179 2 N,hpP 3 L,hpP 4 D,hpF 8 z' ov',hpP 6 Q',(7,.fix 0 o)] ∧ n = 9 ∧ HM R ws C' G' N W L D Q' z' ∧ (C',G',ov') = begS R W A) := by
 have hCl := h.c; have hWn := h.w; have hNr := h.n; have hRr := h.r
 have hQl : Q.length = C.length := by rw [h.q,ipv_length]
 refine callF_of_body tok Tryz.func18 (by kernel_rfl) rfl rfl rfl ?_; conv => cbv
 refine cfr (arena_lx R ws C G N W ph sp cy L D Q z ov) [(0,0),(1,1),(2,2),(3,3),(4,4),(5,5),(6,6)] (fun r h' n' ⟨e1,e2,e3⟩ => ?_)
 subst e1 e2 e3
 conv => cbv
 refine Br.mk (fun g => ?_) (fun g => ?_)
 case refine_1 =>
  have g : ph ≠ 0 := g
  exact absurd hph g
 conv => cbv
 refine Need.mk ⟨Int.le_refl _,by show 0 ≤ W; omega,by show 0 + W * 1 ≤ (Q.length : Int); omega⟩ ?_
 conv => cbv
 obtain ⟨Q0,hQ0⟩ : ∃ Q0,Q0 = ipv (List.replicate W.toNat 0) := ⟨_,rfl⟩
 refine Upd.mk fun Q2 hQ2 => ?_
 have hle : pvles Q2 Q0 := by
  have hQ2 : Q2 = updL Q 0 (repsP [.int .i64 (.lit 0)] W.toNat) := hQ2
  rw [hQ2,hQ0,h.q,show W.toNat = C.length by omega,← zer_all]
  exact upd_zer _ _ _ _ (pvles_refl _)
 unfold pvles at hle
 clear hQ2
 conv => cbv
 refine callF_frame greyNew_lx [] rfl trivial rfl rfl (fun r h' n' hrr => ?_)
 obtain ⟨z1,e1,e2,e3,hz1⟩ := hrr
 subst e1 e2 e3
 have hM0 : HM R ws (List.replicate W.toNat 0) [] N W L D Q0 z1 := ⟨h.a,h.k,h.n,h.r,h.w,h.l,h.d,hQ0,by rw [List.length_replicate]; omega,hz1,fun x hx => (by cases hx),Nat.zero_le _⟩
 conv => cbv
 refine LoopF.mk (fun kk s => ∃ (i : Int) (C' G' : List Int) (ov' : Bool) (Q' : List PV) (z' : ByteArray),s = ⟨.ptr 0 (.lit 0) :: (undefs 25 ++ .p (.vsl (.sym k) true rs) :: .p (.int .i64 (.sym k)) :: .p (.int .i64 (.sym i)) :: undefs 7),[hpA 0 1 8 6 3 W 1 sp cy,hpB 1 2 4 3 W,hpC 2 3 179 2 N,hpP 3 L,hpP 4 D,hpF 8 z' ov',hpP 6 Q',(7,.fix 0 o)],9⟩ ∧ 0 ≤ i ∧ i ≤ k ∧ HM R ws C' G' N W L D Q' z' ∧ (C',G',ov') = begS R W (A.take i.toNat) ∧ kk = (k - i).toNat) k.toNat _
  (Re.at [(0,0),(1,1),(2,2),(3,3),(4,4),(6,6),(7,7),(8,8)] []) ⟨0,_,_,_,Q0,z1,rfl,by omega,by omega,hM0,rfl,by omega⟩ ?_
 rintro kk s ⟨i,C',G',ov',Q',z',rfl,hi0,hi1,h2,hS,hk2⟩
 conv => cbv
 refine Br.mk (fun gi => ?_) (fun gi => ?_)
 ·have gi : i < k := gi
  obtain ⟨k',rfl⟩ : ∃ k',kk = k' + 1 := ⟨kk - 1,by omega⟩
  obtain ⟨a,ha⟩ : ∃ a,A[i.toNat]? = some a := ⟨_,List.getElem?_eq_getElem (by omega)⟩
  have hc : rs[i.toNat]? = some (.int .i64 (.sym a)) := by rw [hrs]; exact ipv_get ha
  conv => cbv
  refine Need.mk ⟨hi0,gi⟩ ?_
  conv => cbv
  refine Cell.at i _ hc (by simp [I.val]) rfl ?_
  conv => cbv
  refine cfr (shade_lx R ws C' G' N W 1 sp cy L D Q' z' ov' h2 o ho a) [(0,0),(1,1),(2,2),(3,3),(4,4),(5,8),(6,6),(7,7)] (fun r h' n' hrr => ?_)
  obtain ⟨C2,G2,ov2,Q2,z2,e1,e2,e3,h3,hS2⟩ := hrr
  subst e1 e2 e3
  have hS3 : (C2,G2,ov2) = begS R W (A.take (i.toNat + 1)) := by
   rw [hS2,hS]
   unfold begS
   rw [List.take_add_one,ha,Option.toList_some,List.foldl_append]; rfl
  conv => cbv
  refine Fit.mk (by show (-9223372036854775808 : Int) ≤ i + 1; omega) (by show i + 1 ≤ 9223372036854775807; omega) fun i2 hi2 => ?_
  have hi2 : i2 = i + 1 := hi2
  rw [show i.toNat + 1 = i2.toNat by omega] at hS3
  conv => cbv
  refine Again.mk k' _ (Nat.lt_succ_self _) (Re.at [(0,0),(1,1),(2,2),(3,3),(4,4),(6,6),(7,7),(8,8)] []) ⟨i2,C2,G2,ov2,Q2,z2,rfl,by omega,by omega,h3,hS3,by omega⟩
 ·have gi : ¬ i < k := gi
  rw [List.take_of_length_le (by omega)] at hS
  conv => cbv
  refine RetF.mk [.p (.int .i64 (.lit 0))] [hpA 0 1 8 6 3 W 1 sp cy,hpB 1 2 4 3 W,hpC 2 3 179 2 N,hpP 3 L,hpP 4 D,hpF 8 z' ov',hpP 6 Q',(7,.fix 0 o)] 9 (Re.at [(0,0),(1,1),(2,2),(3,3),(4,4),(6,6),(7,7),(8,8)] []) rfl ⟨C',G',ov',Q',z',rfl,rfl,rfl,h2,hS⟩
theorem beginState_lx (R : List Rw) (ws C G : List Int) (N W ph sp cy : Int) (L D Q : List PV) (z : ByteArray) (ov : Bool) (h : HM R ws C G N W L D Q z) (hph : ph ≠ 0) : CallF (fun _ => Tryz.prog) 18 [.ptr 0 (.lit 0),.p .nils] [hpA 0 1 5 6 3 W ph sp cy,hpB 1 2 4 3 W,hpC 2 3 179 2 N,hpP 3 L,hpP 4 D,hpF 5 z ov,hpP 6 Q] 7 (fun r h n => r = .p (.int .i64 (.lit 11)) ∧ h = [hpA 0 1 5 6 3 W ph sp cy,hpB 1 2 4 3 W,hpC 2 3 179 2 N,hpP 3 L,hpP 4 D,hpF 5 z ov,hpP 6 Q] ∧ n = 7) := by
 refine callF_of_body tok Tryz.func18 (by kernel_rfl) rfl rfl rfl ?_; conv => cbv
 refine cfr (arena_lx R ws C G N W ph sp cy L D Q z ov) [(0,0),(1,1),(2,2),(3,3),(4,4),(5,5),(6,6)] (fun r h' n' ⟨e1,e2,e3⟩ => ?_)
 subst e1 e2 e3
 conv => cbv
 refine Br.mk (fun g => ?_) (fun g => ?_)
 case refine_2 =>
  have g : ¬ ph ≠ 0 := g
  exact absurd hph g
 conv => cbv
 refine RetF.mk [.p (.int .i64 (.lit 11))] [hpA 0 1 5 6 3 W ph sp cy,hpB 1 2 4 3 W,hpC 2 3 179 2 N,hpP 3 L,hpP 4 D,hpF 5 z ov,hpP 6 Q] 7 (Re.at [(0,0),(1,1),(2,2),(3,3),(4,4),(5,5),(6,6)] []) rfl ⟨rfl,rfl,rfl⟩
theorem beginNil_lx : CallF (fun _ => Tryz.prog) 18 [.p .nilp,.p .nils] [] 0 (fun r h n => r = .p (.int .i64 (.sym 2)) ∧ h = [] ∧ n = 0) := by
 refine callF_of_body tok Tryz.func18 (by kernel_rfl) rfl rfl rfl ?_; conv => cbv
 refine callF_frame arenaNil_lx [] rfl trivial rfl rfl (fun r h' n' ⟨e1,e2,e3⟩ => ?_)
 subst e1 e2 e3
 conv => cbv
 refine RetF.mk [i6 2] [] 0 (Re.at [] []) rfl ⟨rfl,rfl,rfl⟩
def scanS (R : List Rw) (ph a : Int) (X : List Int) (s : List Int × List Int × Bool) : List Int × List Int × Bool := ((X.foldl (fun s w => shadeW R ph w s) s).1.set a.toNat 2,(X.foldl (fun s w => shadeW R ph w s) s).2)
theorem scan_lx (R : List Rw) (ws C G : List Int) (N W ph sp cy : Int) (L D Q : List PV) (z : ByteArray) (ov : Bool) (h : HM R ws C G N W L D Q z) (o : Unit → Obj) (ho : IsPow o) (a : Int) (ha : 0 ≤ a ∧ a < W) : CallF (fun _ => Tryz.prog) 127 [.ptr 0 (.lit 0),i6 a] [hpA 0 1 5 6 3 W ph sp cy,hpB 1 2 4 3 W,hpC 2 3 179 2 N,hpP 3 L,hpP 4 D,hpF 5 z ov,hpP 6 Q,(7,.fix 0 o)] 8 (fun r h n => ∃ (X C' G' : List Int) (ov' : Bool) (Q' : List PV) (z' : ByteArray),r = .tup [] ∧ h = [hpA 0 1 5 6 3 W ph sp cy,hpB 1 2 4 3 W,hpC 2 3 179 2 N,hpP 3 L,hpP 4 D,hpF 5 z' ov',hpP 6 Q',(7,.fix 0 o)] ∧ n = 8 ∧ HM R ws C' G' N W L D Q' z' ∧ Wrds R ws a X ∧ (C',G',ov') = scanS R ph a X (C,G,ov)) := by
 refine callF_of_body tok Tryz.func127 (by kernel_rfl) rfl rfl rfl ?_; conv => cbv
 refine cfr (wordsH_lx R ws C G N W ph sp cy L D Q z ov h a) [(0,0),(1,1),(2,2),(3,3),(4,4),(5,5),(6,6)] (fun r h' n' hrr => ?_)
 obtain ⟨X,m,O,e1,e2,e3,hO,hm,hX⟩ := hrr
 subst e1 e2 e3
 conv => cbv
 have hXb := hX.bd h.a
 have hX31 : X.length ≤ 31 := by
  have hle := hX.1
  generalize hxl : (X.length : Int) = xl at hle
  cases hle with
  | no _ => omega
  | is k l hk => have := hk.bounds h.a; omega
 refine LoopF.mk (fun k s => ∃ (i : Int) (C' G' : List Int) (ov' : Bool) (Q' : List PV) (z' : ByteArray),s = ⟨.ptr 0 (.lit 0) :: .p (.int .i64 (.sym a)) :: (undefs 6 ++ .sl 8 3 1 (.lit 0) (.sym m) :: .p (.int .i64 (.sym m)) :: .p (.int .i64 (.sym i)) :: undefs 13),[hpA 0 1 5 6 3 W ph sp cy,hpB 1 2 4 3 W,hpC 2 3 179 2 N,hpP 3 L,hpP 4 D,hpF 5 z' ov',hpP 6 Q',(7,.fix 0 o),hpP 8 O],9⟩ ∧ 0 ≤ i ∧ i ≤ m ∧ HM R ws C' G' N W L D Q' z' ∧ (C',G',ov') = (X.take i.toNat).foldl (fun s w => shadeW R ph w s) (C,G,ov) ∧ k = (m - i).toNat) m.toNat _
  (Re.at [(0,0),(1,1),(2,2),(3,3),(4,4),(5,5),(6,6),(7,7),(8,8)] []) ⟨0,C,G,ov,Q,z,rfl,by omega,by omega,h,rfl,by omega⟩ ?_
 rintro k s ⟨i,C',G',ov',Q',z',rfl,hi0,hi1,h2,hS,hk⟩
 conv => cbv
 refine Br.mk (fun gi => ?_) (fun gi => ?_)
 ·have gi : i < m := gi
  obtain ⟨k',rfl⟩ : ∃ k',k = k' + 1 := ⟨k - 1,by omega⟩
  obtain ⟨w,hw⟩ : ∃ w,X[i.toNat]? = some w := ⟨_,List.getElem?_eq_getElem (by omega)⟩
  have hc : O[i.toNat]? = some (.int .i64 (.sym w)) := by rw [hO]; exact ipv_get hw
  conv => cbv
  refine Need.mk ⟨hi0,gi⟩ ?_
  conv => cbv
  refine Cell.at i _ hc (by simp [I.val]) rfl ?_
  conv => cbv
  refine cfr (shadeWord_lx R ws C' G' N W ph sp cy L D Q' z' ov' h2 o ho w (hXb w (List.mem_of_getElem? hw))) [(0,0),(1,1),(2,2),(3,3),(4,4),(5,5),(6,6),(7,7)] (fun r h' n' hrr => ?_)
  obtain ⟨C2,G2,ov2,Q2,z2,e1,e2,e3,h3,hS2⟩ := hrr
  subst e1 e2 e3
  have hS3 : (C2,G2,ov2) = (X.take (i.toNat + 1)).foldl (fun s w => shadeW R ph w s) (C,G,ov) := by
   rw [List.take_add_one,hw,Option.toList_some,List.foldl_append,← hS,hS2]; rfl
  conv => cbv
  refine Fit.mk (by show (-9223372036854775808 : Int) ≤ i + 1; omega) (by show i + 1 ≤ 9223372036854775807; omega) fun i2 hi2 => ?_
  have hi2 : i2 = i + 1 := hi2
  rw [show i.toNat + 1 = i2.toNat by omega] at hS3
  conv => cbv
  refine Again.mk k' _ (Nat.lt_succ_self _) (Re.at [(0,0),(1,1),(2,2),(3,3),(4,4),(5,5),(6,6),(7,7),(8,8)] []) ⟨i2,C2,G2,ov2,Q2,z2,rfl,by omega,by omega,h3,hS3,by omega⟩
 ·have gi : ¬ i < m := gi
  rw [List.take_of_length_le (by omega)] at hS
  have hCl := h2.c; have hWn := h.w; have hNr := h.n; have hRr := h.r
  have hQl : Q'.length = C'.length := by rw [h2.q,ipv_length]
  obtain ⟨Q3,hQ3⟩ : ∃ Q3,Q3 = ipv (C'.set a.toNat 2) := ⟨_,rfl⟩
  have hfin : HM R ws (C'.set a.toNat 2) G' N W L D Q3 z' := ⟨h2.a,h2.k,h2.n,h2.r,h2.w,h2.l,h2.d,hQ3,by rw [List.length_set]; exact h2.c,h2.z,h2.g,h2.g8⟩
  conv => cbv
  refine Need.mk ⟨by show 0 ≤ a; omega,by show a < W; omega⟩ ?_
  conv => cbv
  refine Need.mk (by show a + 1 ≤ (Q'.length : Int); omega) ?_
  conv => cbv
  refine Upd.mk fun Q2 hQ2 => ?_
  have hle : pvles Q2 Q3 := by
   have hQ2 : Q2 = Q'.set a.toNat (.int .i64 (.lit 2)) := hQ2
   rw [hQ2,hQ3,h2.q,← ipv_set]
   exact pvles_set _ _ _ _ _ (pvles_refl _) (by simp [pvle,I.val])
  unfold pvles at hle
  clear hQ2
  conv => cbv
  refine RetF.mk [] [hpA 0 1 5 6 3 W ph sp cy,hpB 1 2 4 3 W,hpC 2 3 179 2 N,hpP 3 L,hpP 4 D,hpF 5 z' ov',hpP 6 Q3,(7,.fix 0 o)] 8 (Re.at [(0,0),(1,1),(2,2),(3,3),(4,4),(5,5),(6,6),(7,7)] []) rfl ⟨X,_,G',ov',Q3,z',rfl,rfl,rfl,hfin,hX,by unfold scanS; rw [← hS]⟩
end Go.Proofs.YtjfdfbpgckilpaaGreatDoor
namespace Go.Proofs.YtjfdfbpgckilpaaGreatDoor
open Go Go.LX
set_option maxRecDepth 100000
set_option linter.unusedVariables false
set_option maxHeartbeats 32000000
theorem enc_small (A : List Int) (hA : ∀ a ∈ A,i64 a) (h8 : A.length ≤ 8) : (enc A).length < 1000000 := by
 have := enc_len A hA; omega
theorem five : ∀ x ∈ ([5] : List Int),i64 x := by
 intro x hx; rw [List.mem_singleton.1 hx]; exact ⟨by decide,by decide⟩
def row (t : Int) : Nat → List Int
 | 0 => []
 | k + 1 => row t k ++ [t + k]
theorem row_length (t : Int) : ∀ k,(row t k).length = k
 | 0 => rfl
 | k + 1 => by rw [row,List.length_append,row_length t k]; rfl
theorem row_i64 (t : Int) (h0 : -1099511627776 ≤ t) (h1 : t ≤ 1099511627776) : ∀ k,k ≤ 1000 → ∀ x ∈ row t k,i64 x
 | 0,_,x,h => by cases h
 | k + 1,hk,x,h => by
  rw [row] at h
  rcases List.mem_append.1 h with h | h
  ·exact row_i64 t h0 h1 k (by omega) x h
  ·rw [List.mem_singleton.1 h]; constructor <;> omega
end Go.Proofs.YtjfdfbpgckilpaaGreatDoor
namespace Go.Proofs.YtjfdfbpgckilpaaGreatDoor
open Go Go.LX
set_option maxRecDepth 100000
set_option linter.unusedVariables false
set_option maxHeartbeats 32000000
def i64s : List Int → List PV
 | [] => []
 | x :: l => .int .i64 (.sym x) :: i64s l
theorem i64s_length : ∀ l,(i64s l).length = l.length
 | [] => rfl
 | x :: l => by simp [i64s,i64s_length l]
theorem i64s_app : ∀ a b,i64s (a ++ b) = i64s a ++ i64s b
 | [],b => rfl
 | x :: a,b => by simp [i64s,i64s_app a b]
theorem i64s_take : ∀ (l : List Int) (k : Nat),i64s (l.take k) = (i64s l).take k
 | [],k => by simp [i64s]
 | x :: l,0 => rfl
 | x :: l,k + 1 => by simp [i64s,i64s_take l k]
theorem i64s_get : ∀ (l : List Int) (i : Nat) (x : Int),l[i]? = some x → (i64s l)[i]? = some (.int .i64 (.sym x))
 | [],i,x,h => by simp at h
 | y :: l,0,x,h => by simp at h; subst h; rfl
 | y :: l,i + 1,x,h => by simpa [i64s] using i64s_get l i x (by simpa using h)
theorem refPush_lx (A : List Int) (a m : Int) (la : List PV) (ov : Bool) (hm : m = A.length) (hla : la = i64s A) (hA8 : A.length ≤ 8) :
  CallF (fun _ => Tryz.prog) 148 [.ptr 0 (.lit 0),i6 a] [(0,.mix [.p (.vsl (.sym m) true la),.p (.bool ov)])] 1 (fun r h n => ∃ (b ov' : Bool) (m' : Int) (la' : List PV) (A' : List Int),r = .p (.bool b) ∧ h = [(0,.mix [.p (.vsl (.sym m') true la'),.p (.bool ov')])] ∧ n = 1 ∧ m' = A'.length ∧ la' = i64s A' ∧ (A.length < 8 → b = true ∧ A' = A ++ [a] ∧ ov' = ov) ∧ (8 ≤ A.length → b = false ∧ A' = A ∧ ov' = true)) := by
 refine callF_of_body tok Tryz.func148 (by kernel_rfl) rfl rfl rfl ?_; conv => cbv
 refine Br.mk (fun g => ?_) (fun g => ?_)
 ·have g : 8 ≤ m := g
  conv => cbv
  refine RetF.mk [.p (.bool false)] [(0,.mix [.p (.vsl (.sym m) true la),.p (.bool true)])] 1 (Re.at [(0,0)] []) rfl ⟨false,true,m,la,A,rfl,rfl,rfl,hm,hla,fun h => by omega,fun _ => ⟨rfl,rfl,rfl⟩⟩
 ·have g : ¬ 8 ≤ m := g
  have hlal : (la.length : Int) = m := by rw [hla,i64s_length]; omega
  conv => cbv
  refine Need.mk (by show (la.length : Int) = m * 1; omega) ?_
  conv => cbv
  refine Need.mk ⟨by show m * 8 ≤ 140737488355328; omega,by show m ≤ 9223372036854775807; omega⟩ ?_
  conv => cbv
  refine Room.new rfl ?_
  conv => cbv
  refine Room.new ⟨by show (la.length : Int) = m * 1; omega,by show (m + 1) * 8 ≤ 140737488355328; omega,by show m + 1 ≤ 9223372036854775807; omega⟩ ?_
  conv => cbv
  refine Upd.mk fun L2 hL2 => ?_
  have hL3 : L2 = i64s (A ++ [a]) := by rw [hL2,hla,i64s_app]; rfl
  conv => cbv
  refine Sum.mk fun m2 hm2 => ?_
  have hm2 : m2 = m + 1 := hm2
  conv => cbv
  refine RetF.mk [.p (.bool true)] [(0,.mix [.p (.vsl (.sym m2) true L2),.p (.bool ov)])] 1 (Re.at [(0,0)] []) rfl ⟨true,ov,m2,L2,A ++ [a],rfl,rfl,rfl,by simp; omega,hL3,fun _ => ⟨rfl,rfl,rfl⟩,fun h => by omega⟩
theorem refPop_lx (A : List Int) (m : Int) (la : List PV) (ov : Bool) (hm : m = A.length) (hla : la = i64s A) (hA8 : A.length ≤ 8) :
  CallF (fun _ => Tryz.prog) 196 [.ptr 0 (.lit 0)] [(0,.mix [.p (.vsl (.sym m) true la),.p (.bool ov)])] 1 (fun r h n => ∃ (v : Int) (b : Bool) (m' : Int) (la' : List PV) (A' : List Int),r = .tup [i6 v,.p (.bool b)] ∧ h = [(0,.mix [.p (.vsl (.sym m') true la'),.p (.bool ov)])] ∧ n = 1 ∧ m' = A'.length ∧ la' = i64s A' ∧ (A = [] ∧ v = 0 ∧ b = false ∧ A' = [] ∨ A = A' ++ [v] ∧ b = true)) := by
 refine callF_of_body tok Tryz.func196 (by kernel_rfl) rfl rfl rfl ?_; conv => cbv
 refine Fit.mk (by show (-9223372036854775808 : Int) ≤ m - 1; omega) (by show m - 1 ≤ 9223372036854775807; omega) ?_
 intro q hq
 have hq : q = m - 1 := hq
 have hlal : (la.length : Int) = m := by rw [hla,i64s_length]; omega
 conv => cbv
 refine Br.mk (fun g => ?_) (fun g => ?_)
 ·have g : q < 0 := g
  have hA0 : A = [] := List.eq_nil_of_length_eq_zero (by omega)
  conv => cbv
  refine RetF.mk [i6 0,.p (.bool false)] [(0,.mix [.p (.vsl (.sym m) true la),.p (.bool ov)])] 1 (Re.at [(0,0)] []) rfl ⟨0,false,m,la,A,rfl,rfl,rfl,hm,hla,.inl ⟨hA0,rfl,rfl,hA0⟩⟩
 ·have g : ¬ q < 0 := g
  obtain ⟨B,a,hB⟩ : ∃ B a,A = B ++ [a] := ⟨_,_,(List.dropLast_concat_getLast (by rintro rfl; simp at hm; omega)).symm⟩
  have hBl : A.length = B.length + 1 := by rw [hB]; simp
  have hAq : A[q.toNat]? = some a := by rw [hB,List.getElem?_append_right (by omega),show q.toNat - B.length = 0 by omega]; rfl
  have hcq := i64s_get A q.toNat a hAq
  rw [← hla] at hcq
  conv => cbv
  refine Need.mk ⟨by simp only [I.val]; omega,by simp only [I.val]; omega⟩ ?_
  conv => cbv
  refine Cell.at q _ hcq (by simp [I.val]) rfl ?_
  conv => cbv
  refine Need.mk ⟨by simp only [I.val]; omega,by simp only [I.val]; omega,by simp only [I.val]; omega⟩ ?_
  conv => cbv
  refine Upd.mk fun L1 hL1 => ?_
  have hL1 : L1 = i64s B := by
   rw [hL1,show ((I.lit 0).val.toNat * 1) = 0 from rfl,List.drop_zero,show ((I.sym q).val - (I.lit 0).val).toNat * 1 = B.length by simp only [I.val]; omega,hla,← i64s_take,hB,List.take_left]
  conv => cbv
  refine Sum.mk fun q2 hq2 => ?_
  have hq2 : q2 = q := by have : q2 = q - 0 := hq2; omega
  have hL1l : (L1.length : Int) = q2 := by rw [hL1,i64s_length]; omega
  conv => cbv
  refine Need.mk (by show (L1.length : Int) = q2 * 1; omega) ?_
  conv => cbv
  refine Need.mk ⟨by show q2 * 8 ≤ 140737488355328; omega,by show q2 ≤ 9223372036854775807; omega⟩ ?_
  conv => cbv
  have f1 : q2 = (B.length : Int) := by omega
  refine RetF.mk [i6 a,.p (.bool true)] [(0,.mix [.p (.vsl (.sym q2) true L1),.p (.bool ov)])] 1 (Re.at [(0,0)] []) rfl ⟨a,true,q2,L1,B,rfl,rfl,rfl,f1,hL1,.inr ⟨hB,rfl⟩⟩
end Go.Proofs.YtjfdfbpgckilpaaGreatDoor
namespace Go.Proofs.YtjfdfbpgckilpaaGreatDoor
open Go Go.LX
set_option maxRecDepth 100000
set_option linter.unusedVariables false
set_option linter.unusedSimpArgs false
set_option maxHeartbeats 32000000
theorem rok_of {R : List Rw} (h : RowsOk R) : ROk R := fun e he => ⟨(h e he).1,fun hne => by
 obtain ⟨h1,h2,_⟩ := (h e he).2 hne
 refine ⟨?_,h2⟩
 intro h0
 rw [h0] at h2
 exact hne (List.length_eq_zero_iff.1 h2)⟩
theorem slot_spec {R : List Rw} {a w : Int} {e : Rw} (h0 : 0 ≤ a) (h1 : a < 32 * R.length) (he : R[(a / 32).toNat]? = some e) (hw : w = wordsOf (clsOf e)) :
  ((w = 0 ∨ (a % 32) % w ≠ 0) → SlotAt R a 0 0 false) ∧ (w ≠ 0 → (a % 32) % w = 0 → SlotAt R a (a / 32) ((a % 32) / w) true) := by
 have hw5 := wordsOf_cases (clsOf e)
 rw [← hw] at hw5
 constructor
 ·intro hno
  refine .no (fun q' s' e' he' hs' hlt' hat' => ?_)
  have hs0 : 0 ≤ (s' : Int) * wordsOf (clsOf e') := Int.mul_nonneg (by omega) (wordsOf_bd _).1
  have : q' = (a / 32).toNat := by omega
  subst this
  rw [he] at he'
  cases he'
  rw [← hw] at hat' hs0 hlt' hs'
  rcases hno with h | h
  ·exact hs' h
  ·have : a % 32 = s' * w := by omega
   rw [this,Int.mul_emod_left] at h
   exact h rfl
 ·intro hw0 hz
  have hwz : w * ((a % 32) / w) + (a % 32) % w = a % 32 := Int.mul_ediv_add_emod (a % 32) w
  have hd0 : 0 ≤ (a % 32) / w := Int.ediv_nonneg (by omega) (by omega)
  obtain ⟨sn,hsn⟩ : ∃ sn : Nat,(sn : Int) = (a % 32) / w := ⟨((a % 32) / w).toNat,by omega⟩
  rw [← hsn] at hwz
  have hmul : (sn : Int) * w = a % 32 := by rw [Int.mul_comm]; omega
  rw [← hsn,show a / 32 = ((a / 32).toNat : Int) by omega]
  refine .is (a / 32).toNat sn e he ?_ ?_ ?_
  ·rw [← hw]; exact hw0
  ·rw [← hw,hmul]; omega
  ·rw [← hw,hmul]; omega
theorem obj_in {R : List Rw} (hR : RowsOk R) {a : Int} (h : IsObj R a) : 0 ≤ a ∧ a < 32 * R.length := by
 obtain ⟨w,h⟩ := isObj_iff.1 h
 obtain ⟨h1,h2,h3,_⟩ := h.facts hR
 omega
theorem ris_lx (R : List Rw) (vs : List Int) (n at_ W : Int) (C B V : List PV) (hC : C = cpv R) (hB : B = bpv R) (hV : V = ipv vs) (hn : n = R.length) (hR : R.length ≤ 1000) (hA : AOk R vs) (hW : W = 32 * n) : CallF (fun _ => Tryz.prog) 107 [.ptr 0 (.lit 0),i6 at_] [hpB 0 1 4 3 W,hpD 1 2 3 1 n 3 254 8 n,hpP 2 C,hpP 3 B,hpP 4 V] 5
  (fun r h n' => ∃ b : Bool,r = .p (.bool b) ∧ h = [hpB 0 1 4 3 W,hpD 1 2 3 1 n 3 254 8 n,hpP 2 C,hpP 3 B,hpP 4 V] ∧ n' = 5 ∧ (b = true ↔ IsObj R at_)) := by
 refine callF_of_body tok Tryz.func107 (by kernel_rfl) rfl rfl rfl ?_; conv => cbv
 refine Br.mk (fun g => ?_) (fun g => ?_)
 ·have g : at_ < 0 := g
  have hno : ¬ IsObj R at_ := fun h => by have := obj_in hA.rows h; omega
  conv => cbv
  refine RetF.mk [.p (.bool false)] [hpB 0 1 4 3 W,hpD 1 2 3 1 n 3 254 8 n,hpP 2 C,hpP 3 B,hpP 4 V] 5 (Re.at [(0,0),(1,1),(2,2),(3,3),(4,4)] []) rfl ⟨false,rfl,rfl,rfl,iff_of_false (by decide) hno⟩
 have g : ¬ at_ < 0 := g
 conv => cbv
 refine Br.mk (fun g2 => ?_) (fun g2 => ?_)
 ·have g2 : W ≤ at_ := g2
  have hno : ¬ IsObj R at_ := fun h => by have := obj_in hA.rows h; omega
  conv => cbv
  refine RetF.mk [.p (.bool false)] [hpB 0 1 4 3 W,hpD 1 2 3 1 n 3 254 8 n,hpP 2 C,hpP 3 B,hpP 4 V] 5 (Re.at [(0,0),(1,1),(2,2),(3,3),(4,4)] []) rfl ⟨false,rfl,rfl,rfl,iff_of_false (by decide) hno⟩
 have g2 : ¬ W ≤ at_ := g2
 conv => cbv
 have ht : Int.tdiv at_ 32 = at_ / 32 := Int.tdiv_eq_ediv_of_nonneg (by omega)
 refine Fit.mk (by show (-9223372036854775808 : Int) ≤ Int.tdiv at_ 32; omega) (by show Int.tdiv at_ 32 ≤ 9223372036854775807; omega) fun q hq => ?_
 have hq : q = at_ / 32 := (show q = Int.tdiv at_ 32 from hq).trans ht
 clear ht
 obtain ⟨e,he⟩ : ∃ e,R[q.toNat]? = some e := ⟨_,List.getElem?_eq_getElem (by omega)⟩
 obtain ⟨cv,hcv⟩ : ∃ cv,cv = clsOf e := ⟨_,rfl⟩
 obtain ⟨w,hw⟩ : ∃ w,w = wordsOf cv := ⟨_,rfl⟩
 have hcc := cpv_get he
 rw [← hC,← hcv] at hcc
 have hw5 := wordsOf_cases cv
 rw [← hw] at hw5
 obtain ⟨sp1,sp2⟩ := slot_spec (R := R) (a := at_) (w := w) (by omega) (by omega) (hq ▸ he) (by rw [hw,hcv])
 conv => cbv
 refine Need.mk ⟨by show 0 ≤ q; omega,by show q < n; omega⟩ ?_
 conv => cbv
 refine Cell.at q _ hcc (by simp [I.val]) rfl ?_
 conv => cbv
 refine callF_frame (refWordsA_lx cv w hw) [] rfl trivial rfl rfl (fun r h' n' ⟨e1,e2,e3⟩ => ?_)
 subst e1 e2 e3
 conv => cbv
 refine drawn_sound tok (by kernel_rfl) [(19,[])] [0,1,2,3,4,5,6,7,8,9,10,11,12,13,14,15,16,17,18,19,20,21] (by kernel_rfl) ?_; conv => cbv
 refine Br.mk (fun g3 => ?_) (fun g3 => ?_)
 case refine_2 =>
  have g3 : ¬ 0 < w := g3
  have hno : ¬ IsObj R at_ := by
   rcases obj_slot hA.rows (sp1 (.inl (by omega))) with ⟨h,_⟩ | ⟨_,h⟩
   ·cases h
   ·exact h
  conv => cbv
  refine RetF.mk [.p (.bool false)] [hpB 0 1 4 3 W,hpD 1 2 3 1 n 3 254 8 n,hpP 2 C,hpP 3 B,hpP 4 V] 5 (Re.at [(0,0),(1,1),(2,2),(3,3),(4,4)] []) rfl ⟨false,rfl,rfl,rfl,iff_of_false (by decide) hno⟩
 have g3 : 0 < w := g3
 conv => cbv
 refine Sum.mk fun z hz => ?_
 have hz : z = at_ % 32 := (show z = Int.tmod at_ 32 from hz).trans (Int.tmod_eq_emod_of_nonneg (by omega))
 conv => cbv
 refine Need.mk (show w ≠ 0 by omega) ?_
 conv => cbv
 refine Sum.mk fun y hy => ?_
 have hy : y = z % w := (show y = Int.tmod z w from hy).trans (Int.tmod_eq_emod_of_nonneg (by omega))
 conv => cbv
 refine Br.mk (fun g4 => ?_) (fun g4 => ?_)
 case refine_2 =>
  have g4 : ¬ y = 0 := g4
  have hno : ¬ IsObj R at_ := by
   rcases obj_slot hA.rows (sp1 (.inr (by rw [← hz,← hy]; exact g4))) with ⟨h,_⟩ | ⟨_,h⟩
   ·cases h
   ·exact h
  conv => cbv
  refine RetF.mk [.p (.bool false)] [hpB 0 1 4 3 W,hpD 1 2 3 1 n 3 254 8 n,hpP 2 C,hpP 3 B,hpP 4 V] 5 (Re.at [(0,0),(1,1),(2,2),(3,3),(4,4)] []) rfl ⟨false,rfl,rfl,rfl,iff_of_false (by decide) hno⟩
 have g4 : y = 0 := g4
 have hsl := sp2 (by omega) (by rw [← hz,← hy]; exact g4)
 rw [← hz,← hq] at hsl
 have hd0 : 0 ≤ z / w := Int.ediv_nonneg (by omega) (by omega)
 have hdz : z / w ≤ z := Int.ediv_le_self _ (by omega)
 have ht2 : Int.tdiv z w = z / w := Int.tdiv_eq_ediv_of_nonneg (by omega)
 have hiff : UsedAt R q (z / w) ↔ IsObj R at_ := by
  rcases obj_slot hA.rows hsl with ⟨_,h1,h2,h3,h4,h5,e',h6,h7,h8⟩ | ⟨h,_⟩
  ·rw [h8]
   constructor
   ·rintro ⟨e2,_,he2,_,hs2⟩
    rw [h6] at he2; cases he2; exact hs2
   ·intro hs2; exact ⟨e',h1,h6,h2,hs2⟩
  ·cases h
 conv => cbv
 refine Sum.mk fun z2 hz2 => ?_
 have hz2 : z2 = z := (show z2 = Int.tmod at_ 32 from hz2).trans ((Int.tmod_eq_emod_of_nonneg (by omega)).trans hz.symm)
 conv => cbv
 refine Need.mk (show w ≠ 0 by omega) ?_
 conv => cbv
 have ht3 : Int.tdiv z2 w = z / w := by rw [hz2]; exact ht2
 refine Fit.mk (by show (-9223372036854775808 : Int) ≤ Int.tdiv z2 w; omega) (by show Int.tdiv z2 w ≤ 9223372036854775807; omega) fun s0 hs0 => ?_
 have hs0 : s0 = z / w := (show s0 = Int.tdiv z2 w from hs0).trans ht3
 rw [← hs0] at hiff
 conv => cbv
 refine cfr (rused_lx q s0 R n C B hC hB hn hR (rok_of hA.rows)) [(0,1),(1,2),(2,3)] (fun r h' n' hrr => ?_)
 obtain ⟨b,e1,e2,e3,hb⟩ := hrr
 subst e1 e2 e3
 have hbi := hb.trans hiff
 clear hb
 cases b with
 | true =>
  conv => cbv
  refine RetF.mk [.p (.bool true)] [hpB 0 1 4 3 W,hpD 1 2 3 1 n 3 254 8 n,hpP 2 C,hpP 3 B,hpP 4 V] 5 (Re.at [(0,0),(1,1),(2,2),(3,3),(4,4)] []) rfl ⟨true,rfl,rfl,rfl,hbi⟩
 | false =>
  conv => cbv
  refine RetF.mk [.p (.bool false)] [hpB 0 1 4 3 W,hpD 1 2 3 1 n 3 254 8 n,hpP 2 C,hpP 3 B,hpP 4 V] 5 (Re.at [(0,0),(1,1),(2,2),(3,3),(4,4)] []) rfl ⟨false,rfl,rfl,rfl,hbi⟩
end Go.Proofs.YtjfdfbpgckilpaaGreatDoor
namespace Go.Proofs.YtjfdfbpgckilpaaGreatDoor
open Go Go.LX
set_option maxRecDepth 100000
set_option linter.unusedVariables false
set_option linter.unusedSimpArgs false
set_option maxHeartbeats 32000000
theorem rkind_lx (R : List Rw) (vs : List Int) (n at_ W : Int) (C B V : List PV) (hC : C = cpv R) (hB : B = bpv R) (hV : V = ipv vs) (hn : n = R.length) (hR : R.length ≤ 1000) (hA : AOk R vs) (hW : W = 32 * n) : CallF (fun _ => Tryz.prog) 146 [.ptr 0 (.lit 0),i6 at_] [hpB 0 1 4 3 W,hpD 1 2 3 1 n 3 254 8 n,hpP 2 C,hpP 3 B,hpP 4 V] 5
  (fun r h n' => ∃ v : Int,r = .p (.int .i64 (.sym v)) ∧ h = [hpB 0 1 4 3 W,hpD 1 2 3 1 n 3 254 8 n,hpP 2 C,hpP 3 B,hpP 4 V] ∧ n' = 5 ∧ KindR R vs at_ v) := by
 have hlen := hA.len
 refine callF_of_body tok Tryz.func146 (by kernel_rfl) rfl rfl rfl ?_; conv => cbv
 refine cfr (ris_lx R vs n at_ W C B V hC hB hV hn hR hA hW) [(0,0),(1,1),(2,2),(3,3),(4,4)] (fun r h' n' hrr => ?_)
 obtain ⟨b,e1,e2,e3,hb⟩ := hrr
 subst e1 e2 e3
 cases b with
 | false =>
  have hno : ¬ IsObj R at_ := fun h => by cases hb.2 h
  conv => cbv
  refine RetF.mk [i6 0] [hpB 0 1 4 3 W,hpD 1 2 3 1 n 3 254 8 n,hpP 2 C,hpP 3 B,hpP 4 V] 5 (Re.at [(0,0),(1,1),(2,2),(3,3),(4,4)] []) rfl ⟨0,rfl,rfl,rfl,.no hno⟩
 | true =>
  have hobj := hb.1 rfl
  conv => cbv
  obtain ⟨k,l,hk⟩ := Kept.of hA hobj
  have hk' := hk
  have hb2 := hk.bounds hA
  obtain ⟨w,_,hx,q1,q2,q3,_⟩ := hk'
  have hc := ipv_get hx
  rw [← hV] at hc
  have hh := (hdr_of q1 q2 q3).1
  refine Need.mk ⟨hb2.1,by show at_ < W; omega⟩ ?_
  conv => cbv
  refine Cell.at at_ _ hc (by simp [I.val]) rfl ?_
  conv => cbv
  refine Sum.mk fun v hv => ?_
  have hv : v = k := (show v = Int.tmod (k + 16 * l) 16 from hv).trans hh
  have hK : KindR R vs at_ v := by rw [hv]; exact .is k l hk
  conv => cbv
  refine RetF.mk [i6 v] [hpB 0 1 4 3 W,hpD 1 2 3 1 n 3 254 8 n,hpP 2 C,hpP 3 B,hpP 4 V] 5 (Re.at [(0,0),(1,1),(2,2),(3,3),(4,4)] []) rfl ⟨v,rfl,rfl,rfl,hK⟩
theorem rlen_lx (R : List Rw) (vs : List Int) (n at_ W : Int) (C B V : List PV) (hC : C = cpv R) (hB : B = bpv R) (hV : V = ipv vs) (hn : n = R.length) (hR : R.length ≤ 1000) (hA : AOk R vs) (hW : W = 32 * n) : CallF (fun _ => Tryz.prog) 86 [.ptr 0 (.lit 0),i6 at_] [hpB 0 1 4 3 W,hpD 1 2 3 1 n 3 254 8 n,hpP 2 C,hpP 3 B,hpP 4 V] 5
  (fun r h n' => ∃ v : Int,r = .p (.int .i64 (.sym v)) ∧ h = [hpB 0 1 4 3 W,hpD 1 2 3 1 n 3 254 8 n,hpP 2 C,hpP 3 B,hpP 4 V] ∧ n' = 5 ∧ LenR R vs at_ v) := by
 have hlen := hA.len
 refine callF_of_body tok Tryz.func86 (by kernel_rfl) rfl rfl rfl ?_; conv => cbv
 refine cfr (ris_lx R vs n at_ W C B V hC hB hV hn hR hA hW) [(0,0),(1,1),(2,2),(3,3),(4,4)] (fun r h' n' hrr => ?_)
 obtain ⟨b,e1,e2,e3,hb⟩ := hrr
 subst e1 e2 e3
 cases b with
 | false =>
  have hno : ¬ IsObj R at_ := fun h => by cases hb.2 h
  conv => cbv
  refine RetF.mk [i6 0] [hpB 0 1 4 3 W,hpD 1 2 3 1 n 3 254 8 n,hpP 2 C,hpP 3 B,hpP 4 V] 5 (Re.at [(0,0),(1,1),(2,2),(3,3),(4,4)] []) rfl ⟨0,rfl,rfl,rfl,.no hno⟩
 | true =>
  have hobj := hb.1 rfl
  conv => cbv
  obtain ⟨k,l,hk⟩ := Kept.of hA hobj
  have hk' := hk
  have hb2 := hk.bounds hA
  obtain ⟨w,_,hx,q1,q2,q3,_⟩ := hk'
  have hc := ipv_get hx
  rw [← hV] at hc
  have hh := (hdr_of q1 q2 q3).2
  refine Need.mk ⟨hb2.1,by show at_ < W; omega⟩ ?_
  conv => cbv
  refine Cell.at at_ _ hc (by simp [I.val]) rfl ?_
  conv => cbv
  refine Fit.mk (by show (-9223372036854775808 : Int) ≤ Int.tdiv (k + 16 * l) 16; omega) (by show Int.tdiv (k + 16 * l) 16 ≤ 9223372036854775807; omega) fun v hv => ?_
  have hv : v = l := (show v = Int.tdiv (k + 16 * l) 16 from hv).trans hh
  have hK : LenR R vs at_ v := by rw [hv]; exact .is k l hk
  conv => cbv
  refine RetF.mk [i6 v] [hpB 0 1 4 3 W,hpD 1 2 3 1 n 3 254 8 n,hpP 2 C,hpP 3 B,hpP 4 V] 5 (Re.at [(0,0),(1,1),(2,2),(3,3),(4,4)] []) rfl ⟨v,rfl,rfl,rfl,hK⟩
theorem rload_lx (i : Int) (R : List Rw) (vs : List Int) (n at_ W : Int) (C B V : List PV) (hC : C = cpv R) (hB : B = bpv R) (hV : V = ipv vs) (hn : n = R.length) (hR : R.length ≤ 1000) (hA : AOk R vs) (hW : W = 32 * n) : CallF (fun _ => Tryz.prog) 81 [.ptr 0 (.lit 0),i6 at_,i6 i] [hpB 0 1 4 3 W,hpD 1 2 3 1 n 3 254 8 n,hpP 2 C,hpP 3 B,hpP 4 V] 5
  (fun r h n' => ∃ x e : Int,r = .tup [i6 x,i6 e] ∧ h = [hpB 0 1 4 3 W,hpD 1 2 3 1 n 3 254 8 n,hpP 2 C,hpP 3 B,hpP 4 V] ∧ n' = 5 ∧ Loaded R vs at_ i x e) := by
 have hlen := hA.len
 refine callF_of_body tok Tryz.func81 (by kernel_rfl) rfl rfl rfl ?_; conv => cbv
 refine cfr (ris_lx R vs n at_ W C B V hC hB hV hn hR hA hW) [(0,0),(1,1),(2,2),(3,3),(4,4)] (fun r h' n' hrr => ?_)
 obtain ⟨b,e1,e2,e3,hb⟩ := hrr
 subst e1 e2 e3
 cases b with
 | false =>
  have hno : ¬ IsObj R at_ := fun h => by cases hb.2 h
  conv => cbv
  refine RetF.mk [i6 0,i6 8] [hpB 0 1 4 3 W,hpD 1 2 3 1 n 3 254 8 n,hpP 2 C,hpP 3 B,hpP 4 V] 5 (Re.at [(0,0),(1,1),(2,2),(3,3),(4,4)] []) rfl ⟨0,8,rfl,rfl,rfl,.none hno⟩
 | true =>
  have hobj := hb.1 rfl
  conv => cbv
  obtain ⟨k,l,hk⟩ := Kept.of hA hobj
  have hb2 := hk.bounds hA
  refine Br.mk (fun g => ?_) (fun g => ?_)
  ·have g : i < 0 := g
   conv => cbv
   refine RetF.mk [i6 0,i6 1] [hpB 0 1 4 3 W,hpD 1 2 3 1 n 3 254 8 n,hpP 2 C,hpP 3 B,hpP 4 V] 5 (Re.at [(0,0),(1,1),(2,2),(3,3),(4,4)] []) rfl ⟨0,1,rfl,rfl,rfl,.arg k l hk (by omega)⟩
  have g : ¬ i < 0 := g
  conv => cbv
  refine cfr (rlen_lx R vs n at_ W C B V hC hB hV hn hR hA hW) [(0,0),(1,1),(2,2),(3,3),(4,4)] (fun r h' n' hrr => ?_)
  obtain ⟨v,e1,e2,e3,hL⟩ := hrr
  subst e1 e2 e3
  conv => cbv
  have hvl : v = l := lenR_of6 hk hL
  refine Br.mk (fun g2 => ?_) (fun g2 => ?_)
  ·have g2 : v ≤ i := g2
   conv => cbv
   refine RetF.mk [i6 0,i6 1] [hpB 0 1 4 3 W,hpD 1 2 3 1 n 3 254 8 n,hpP 2 C,hpP 3 B,hpP 4 V] 5 (Re.at [(0,0),(1,1),(2,2),(3,3),(4,4)] []) rfl ⟨0,1,rfl,rfl,rfl,.arg k l hk (by omega)⟩
  have g2 : ¬ v ≤ i := g2
  obtain ⟨x,hx⟩ : ∃ x,vs[(at_ + 1 + i).toNat]? = some x := ⟨_,List.getElem?_eq_getElem (by omega)⟩
  have hc := ipv_get hx
  rw [← hV] at hc
  conv => cbv
  refine Fit.mk (by show (-9223372036854775808 : Int) ≤ at_ + 1; omega) (by show at_ + 1 ≤ 9223372036854775807; omega) fun a1 ha1 => ?_
  have ha1 : a1 = at_ + 1 := ha1
  conv => cbv
  refine Fit.mk (by show (-9223372036854775808 : Int) ≤ a1 + i; omega) (by show a1 + i ≤ 9223372036854775807; omega) fun a2 ha2 => ?_
  have ha2 : a2 = a1 + i := ha2
  have ha2 : a2 = at_ + 1 + i := by omega
  conv => cbv
  refine Need.mk ⟨by show 0 ≤ a2; omega,by show a2 < W; omega⟩ ?_
  conv => cbv
  refine Cell.at a2 _ hc (by simp [I.val]) (by omega) ?_
  conv => cbv
  refine RetF.mk [i6 x,i6 0] [hpB 0 1 4 3 W,hpD 1 2 3 1 n 3 254 8 n,hpP 2 C,hpP 3 B,hpP 4 V] 5 (Re.at [(0,0),(1,1),(2,2),(3,3),(4,4)] []) rfl ⟨x,0,rfl,rfl,rfl,.ok k l x hk (by omega) hx⟩
theorem rstore_lx (i x : Int) (R : List Rw) (vs : List Int) (n at_ W : Int) (C B V : List PV) (hC : C = cpv R) (hB : B = bpv R) (hV : V = ipv vs) (hn : n = R.length) (hR : R.length ≤ 1000) (hA : AOk R vs) (hW : W = 32 * n) : CallF (fun _ => Tryz.prog) 147 [.ptr 0 (.lit 0),i6 at_,i6 i,i6 x] [hpB 0 1 4 3 W,hpD 1 2 3 1 n 3 254 8 n,hpP 2 C,hpP 3 B,hpP 4 V] 5
  (fun r h n' => ∃ (e : Int) (vs' : List Int) (V' : List PV),r = .p (.int .i64 (.sym e)) ∧ h = [hpB 0 1 4 3 W,hpD 1 2 3 1 n 3 254 8 n,hpP 2 C,hpP 3 B,hpP 4 V'] ∧ n' = 5 ∧ V' = ipv vs' ∧ Stored R vs at_ i x e vs') := by
 have hlen := hA.len
 have hVl : V.length = vs.length := by rw [hV,ipv_length]
 refine callF_of_body tok Tryz.func147 (by kernel_rfl) rfl rfl rfl ?_; conv => cbv
 refine cfr (rload_lx i R vs n at_ W C B V hC hB hV hn hR hA hW) [(0,0),(1,1),(2,2),(3,3),(4,4)] (fun r h' n' hrr => ?_)
 obtain ⟨y,e,e1,e2,e3,hLd⟩ := hrr
 subst e1 e2 e3
 cases hLd with
 | none hno =>
  conv => cbv
  refine Br.mk (fun g => ?_) (fun g => ?_)
  case refine_1 =>
   have gf : False := absurd g (by decide)
   cases gf
  conv => cbv
  refine RetF.mk [i6 8] [hpB 0 1 4 3 W,hpD 1 2 3 1 n 3 254 8 n,hpP 2 C,hpP 3 B,hpP 4 V] 5 (Re.at [(0,0),(1,1),(2,2),(3,3),(4,4)] []) rfl ⟨8,vs,V,rfl,rfl,rfl,hV,.none hno⟩
 | arg k l hk hi =>
  conv => cbv
  refine Br.mk (fun g => ?_) (fun g => ?_)
  case refine_1 =>
   have gf : False := absurd g (by decide)
   cases gf
  conv => cbv
  refine RetF.mk [i6 1] [hpB 0 1 4 3 W,hpD 1 2 3 1 n 3 254 8 n,hpP 2 C,hpP 3 B,hpP 4 V] 5 (Re.at [(0,0),(1,1),(2,2),(3,3),(4,4)] []) rfl ⟨1,vs,V,rfl,rfl,rfl,hV,.arg k l hk hi⟩
 | ok k l _ hk hi hx =>
  conv => cbv
  refine Br.mk (fun g => ?_) (fun g => ?_)
  case refine_2 =>
   have gf : False := g rfl
   cases gf
  conv => cbv
  have hb2 := hk.bounds hA
  refine Fit.mk (by show (-9223372036854775808 : Int) ≤ at_ + 1; omega) (by show at_ + 1 ≤ 9223372036854775807; omega) fun a1 ha1 => ?_
  have ha1 : a1 = at_ + 1 := ha1
  conv => cbv
  refine Fit.mk (by show (-9223372036854775808 : Int) ≤ a1 + i; omega) (by show a1 + i ≤ 9223372036854775807; omega) fun a2 ha2 => ?_
  have ha2 : a2 = a1 + i := ha2
  have ha2 : a2 = at_ + 1 + i := by omega
  conv => cbv
  refine Need.mk ⟨by show 0 ≤ a2; omega,by show a2 < W; omega⟩ ?_
  conv => cbv
  refine Need.mk (by show a2 + ((1 : Nat) : Int) ≤ (V.length : Int); omega) ?_
  conv => cbv
  refine Upd.mk fun V2 hV2 => ?_
  have hV2 : V2 = updL V a2.toNat [.int .i64 (.sym x)] := hV2
  have hV3 : V2 = ipv (vs.set (at_ + 1 + i).toNat x) := by rw [hV2,hV,updL_ipv,ha2]
  clear hV2
  conv => cbv
  refine RetF.mk [i6 0] [hpB 0 1 4 3 W,hpD 1 2 3 1 n 3 254 8 n,hpP 2 C,hpP 3 B,hpP 4 V2] 5 (Re.at [(0,0),(1,1),(2,2),(3,3),(4,4)] []) rfl ⟨0,_,V2,rfl,rfl,rfl,hV3,.ok k l hk hi⟩
end Go.Proofs.YtjfdfbpgckilpaaGreatDoor
namespace Go.Proofs.YtjfdfbpgckilpaaGreatDoor
open Go Go.LX
set_option maxRecDepth 100000
set_option linter.unusedVariables false
set_option linter.unusedSimpArgs false
set_option maxHeartbeats 32000000
theorem obj_at {R : List Rw} (hR : RowsOk R) {a : Int} (h : IsObj R a) : ∃ (s : Nat) (e : Rw),R[(a / 32).toNat]? = some e ∧ clsOf e = e.1 ∧ wordsOf e.1 ≠ 0 ∧ e.2[s]? = some true ∧ a = 32 * (a / 32) + s * wordsOf e.1 := by
 obtain ⟨q,s,e,he,hs,hat⟩ := h
 have hne : e.2 ≠ [] := by intro e0; rw [e0] at hs; simp at hs
 obtain ⟨g1,g2,_⟩ := (hR _ (List.mem_of_getElem? he)).2 hne
 have hsl := (List.getElem?_eq_some_iff.1 hs).1
 have k2 := slots_words g1 (s := s) (by omega)
 have k3 : 0 ≤ (s : Int) * wordsOf e.1 := Int.mul_nonneg (by omega) (wordsOf_bd _).1
 have w1 := wordsOf_cases e.1
 have hq : a / 32 = q := by omega
 refine ⟨s,e,by rw [hq]; exact he,?_,g1,hs,by rw [hq]; exact hat⟩
 unfold clsOf
 first | rw [if_neg hne] | (split <;> simp_all)
theorem rfreeA_lx (R : List Rw) (vs : List Int) (n at_ W : Int) (C B V : List PV) (hC : C = cpv R) (hB : B = bpv R) (hV : V = ipv vs) (hn : n = R.length) (hR : R.length ≤ 1000) (hA : AOk R vs) (hW : W = 32 * n) : CallF (fun _ => Tryz.prog) 102 [.ptr 0 (.lit 0),i6 at_] [hpB 0 1 4 3 W,hpD 1 2 3 1 n 3 254 8 n,hpP 2 C,hpP 3 B,hpP 4 V] 5
  (fun r h n' => ∃ (e : Int) (R' : List Rw) (C' B' : List PV),r = .p (.int .i64 (.sym e)) ∧ h = [hpB 0 1 4 3 W,hpD 1 2 3 1 n 3 254 8 n,hpP 2 C',hpP 3 B',hpP 4 V] ∧ n' = 5 ∧ C' = cpv R' ∧ B' = bpv R' ∧ Freet R at_ e R') := by
 have hlen := hA.len
 refine callF_of_body tok Tryz.func102 (by kernel_rfl) rfl rfl rfl ?_; conv => cbv
 refine cfr (ris_lx R vs n at_ W C B V hC hB hV hn hR hA hW) [(0,0),(1,1),(2,2),(3,3),(4,4)] (fun r h' n' hrr => ?_)
 obtain ⟨b,e1,e2,e3,hb⟩ := hrr
 subst e1 e2 e3
 cases b with
 | false =>
  have hno : ¬ IsObj R at_ := fun h => by cases hb.2 h
  conv => cbv
  refine RetF.mk [i6 8] [hpB 0 1 4 3 W,hpD 1 2 3 1 n 3 254 8 n,hpP 2 C,hpP 3 B,hpP 4 V] 5 (Re.at [(0,0),(1,1),(2,2),(3,3),(4,4)] []) rfl ⟨8,R,C,B,rfl,rfl,rfl,hC,hB,.none hno⟩
 | true =>
  have hobj := hb.1 rfl
  conv => cbv
  have hin := obj_in hA.rows hobj
  have ht : Int.tdiv at_ 32 = at_ / 32 := Int.tdiv_eq_ediv_of_nonneg (by omega)
  refine Fit.mk (by show (-9223372036854775808 : Int) ≤ Int.tdiv at_ 32; omega) (by show Int.tdiv at_ 32 ≤ 9223372036854775807; omega) fun q hq => ?_
  have hq : q = at_ / 32 := (show q = Int.tdiv at_ 32 from hq).trans ht
  clear ht
  conv => cbv
  obtain ⟨sn,e,he,hce,hw0,hs1,hat⟩ := obj_at hA.rows hobj
  rw [← hq] at he hat
  obtain ⟨cv,hcv⟩ : ∃ cv,cv = clsOf e := ⟨_,rfl⟩
  obtain ⟨w,hw⟩ : ∃ w,w = wordsOf cv := ⟨_,rfl⟩
  have hcc := cpv_get he
  rw [← hC,← hcv] at hcc
  have hwe : wordsOf e.1 = w := by rw [hw,hcv,hce]
  rw [hwe] at hw0 hat
  have hw5 := wordsOf_cases cv
  rw [← hw] at hw5
  have hmul0 : 0 ≤ (sn : Int) * w := Int.mul_nonneg (by omega) (by omega)
  have hdiv : (sn : Int) * w / w = sn := Int.mul_ediv_cancel _ hw0
  obtain ⟨sw,hsw⟩ : ∃ sw,sw = (sn : Int) * w := ⟨_,rfl⟩
  rw [← hsw] at hmul0 hdiv hat
  obtain ⟨si,hsi⟩ : ∃ si : Int,si = sn := ⟨_,rfl⟩
  rw [← hsi] at hdiv
  have hsi0 : 0 ≤ si := by omega
  have ht : Int.tdiv sw w = sw / w := Int.tdiv_eq_ediv_of_nonneg (by omega)
  have hle : sw / w ≤ sw := Int.ediv_le_self _ (by omega)
  rw [hdiv] at ht hle
  refine drawn_sound tok (by kernel_rfl) [(17,[6,5,4,3,2,1,0]),(19,[])] [0,1,2,3,4,5,6,7,8,9,10,11,12,13,14,15,16,17,18,19] (by kernel_rfl) ?_; conv => cbv
  refine Sum.mk fun z hz => ?_
  have hz : z = at_ % 32 := (show z = Int.tmod at_ 32 from hz).trans (Int.tmod_eq_emod_of_nonneg (by omega))
  have hz : z = sw := by omega
  conv => cbv
  refine Need.mk ⟨by show 0 ≤ q; omega,by show q < n; omega⟩ ?_
  conv => cbv
  refine Cell.at q _ hcc (by simp [I.val]) rfl ?_
  conv => cbv
  refine callF_frame (refWordsA_lx cv w hw) [] rfl trivial rfl rfl (fun r h' n' ⟨e1,e2,e3⟩ => ?_)
  subst e1 e2 e3
  conv => cbv
  refine Need.mk (show w ≠ 0 by omega) ?_
  conv => cbv
  have ht3 : Int.tdiv z w = si := by rw [hz]; exact ht
  refine Fit.mk (by show (-9223372036854775808 : Int) ≤ Int.tdiv z w; omega) (by show Int.tdiv z w ≤ 9223372036854775807; omega) fun s0 hs0 => ?_
  have hs0 : s0 = si := (show s0 = Int.tdiv z w from hs0).trans ht3
  conv => cbv
  refine cfr (rfree_lx q s0 R n C B hC hB hn hR (rok_of hA.rows)) [(0,1),(1,2),(2,3)] (fun r h' n' hrr => ?_)
  obtain ⟨b,R2,C2,B2,e1,e2,e3,hC2,hB2,hF⟩ := hrr
  subst e1 e2 e3
  have hsn : s0.toNat = sn := by omega
  have hFr : Freet R at_ 0 R2 := by
   cases hF with
   | no hno => exact absurd ⟨e,by omega,he,by omega,by rw [hsn]; exact hs1⟩ hno
   | yes e' _ he' _ hs' =>
    rw [he] at he'; cases he'
    exact .ok q.toNat s0.toNat e he hs' (by rw [hwe,hsn,← hsw,show (q.toNat : Int) = q by omega]; exact hat)
  conv => cbv
  refine RetF.mk [i6 0] [hpB 0 1 4 3 W,hpD 1 2 3 1 n 3 254 8 n,hpP 2 C2,hpP 3 B2,hpP 4 V] 5 (Re.at [(0,0),(1,1),(2,2),(3,3),(4,4)] []) rfl ⟨0,R2,C2,B2,rfl,rfl,rfl,hC2,hB2,hFr⟩
theorem rnewA_lx (n W : Int) (h2 : 2 ≤ n) (h8 : n ≤ 128) (hW : W = 32 * n) : CallF (fun _ => Tryz.prog) 132 [i6 n] [] 0
  (fun r h m => ∃ C B V : List PV,r = .tup [.ptr 0 (.lit 0),.p (.int .i64 (.lit 0))] ∧ h = [hpB 0 1 4 3 W,hpD 1 2 3 1 n 3 254 8 n,hpP 2 C,hpP 3 B,hpP 4 V] ∧ m = 5 ∧ C = cpv (List.replicate n.toNat (0,[])) ∧ B = bpv (List.replicate n.toNat (0,[])) ∧ V = ipv (List.replicate W.toNat 0)) := by
 refine callF_of_body tok Tryz.func132 (by kernel_rfl) rfl rfl rfl ?_; conv => cbv
 refine callF_frame (rnew_lx n ⟨h2,h8⟩) [] rfl trivial rfl rfl (fun r h' n' hrr => ?_)
 obtain ⟨C,B,e1,e2,e3,hC,hB⟩ := hrr
 subst e1 e2 e3
 obtain ⟨V,hV⟩ : ∃ V,V = ipv (List.replicate W.toNat 0) := ⟨_,rfl⟩
 conv => cbv
 refine Fit.mk (by show (-9223372036854775808 : Int) ≤ n * 32; omega) (by show n * 32 ≤ 9223372036854775807; omega) fun v hv => ?_
 have hv : v = n * 32 := hv
 have hvW : v = W := by omega
 conv => cbv
 refine Need.mk ⟨by show 0 ≤ v; omega,Int.le_refl _,by show v * 8 ≤ 140737488355328; omega,by show v ≤ 9223372036854775807; omega⟩ ?_
 conv => cbv
 refine Upd.mk fun D0 hD0 => ?_
 have hle : pvles D0 V := by
  have hD0 : D0 = repsP [.int .i64 (.lit 0)] v.toNat := hD0
  rw [hD0,hV,hvW]; exact zero_ipv _
 clear hD0
 unfold pvles at hle
 conv => cbv
 refine RetF.mk [.ptr 0 (.lit 0),.p (.int .i64 (.lit 0))] [hpB 0 1 4 3 W,hpD 1 2 3 1 n 3 254 8 n,hpP 2 C,hpP 3 B,hpP 4 V] 5 (Re.at [(4,0),(0,1),(1,2),(2,3),(3,4)] []) rfl ⟨C,B,V,rfl,rfl,rfl,hC,hB,hV⟩
end Go.Proofs.YtjfdfbpgckilpaaGreatDoor
namespace Go.Proofs.YtjfdfbpgckilpaaGreatDoor
open Go Go.LX
set_option maxRecDepth 100000
set_option linter.unusedVariables false
set_option linter.unusedSimpArgs false
set_option maxHeartbeats 32000000
theorem rclassOf_lx (n : Int) : CallF (fun _ => Tryz.prog) 211 [i6 n] [] 0 (fun r h m => ∃ (c : Int) (b : Bool),r = .tup [i6 c,.p (.bool b)] ∧ h = [] ∧ m = 0 ∧ OfR n c b) := by
 refine callF_of_body tok Tryz.func211 (by kernel_rfl) rfl rfl rfl ?_; conv => cbv
 refine LoopF.mk (fun k s => ∃ c : Int,s = ⟨.p (.int .i64 (.sym n)) :: (undefs 3 ++ .p (.int .i64 (.sym c)) :: undefs 13),[],0⟩ ∧ 0 ≤ c ∧ c ≤ 4 ∧ (1 ≤ c → 4 ≤ n) ∧ (2 ≤ c → 8 ≤ n) ∧ (3 ≤ c → 16 ≤ n) ∧ (4 ≤ c → 32 ≤ n) ∧ k = (4 - c).toNat) 4 _
  (Re.at [] []) ⟨0,rfl,by omega,by omega,by omega,by omega,by omega,by omega,by omega⟩ ?_
 rintro k s ⟨c,rfl,h0,h4,q1,q2,q3,q4,hk⟩
 conv => cbv
 refine Br.mk (fun g => ?_) (fun g => ?_)
 case refine_2 =>
  have g : ¬ c < 4 := g
  have q : OfR n 0 false := .no (by omega)
  conv => cbv
  refine RetF.mk [i6 0,.p (.bool false)] [] 0 (Re.at [] []) rfl ⟨0,false,rfl,rfl,rfl,q⟩
 have g : c < 4 := g
 conv => cbv
 refine Br.mk (fun g2 => ?_) (fun g2 => ?_)
 case refine_2 =>
  have g2 : ¬ 0 ≤ n := g2
  have q : OfR n 0 false := .no (by omega)
  conv => cbv
  refine RetF.mk [i6 0,.p (.bool false)] [] 0 (Re.at [] []) rfl ⟨0,false,rfl,rfl,rfl,q⟩
 have g2 : 0 ≤ n := g2
 obtain ⟨k',rfl⟩ : ∃ k',k = k' + 1 := ⟨k - 1,by omega⟩
 obtain ⟨w,hw⟩ : ∃ w,w = wordsOf c := ⟨_,rfl⟩
 have hw4 : c = 0 ∧ w = 4 ∨ c = 1 ∧ w = 8 ∨ c = 2 ∧ w = 16 ∨ c = 3 ∧ w = 32 := by
  have : c = 0 ∨ c = 1 ∨ c = 2 ∨ c = 3 := by omega
  rcases this with e | e | e | e <;> (rw [e] at hw; rw [hw,e]; decide)
 conv => cbv
 refine callF_frame (refWordsA_lx c w hw) [] rfl trivial rfl rfl (fun r h' n' ⟨e1,e2,e3⟩ => ?_)
 subst e1 e2 e3
 conv => cbv
 refine Br.mk (fun g3 => ?_) (fun g3 => ?_)
 ·have g3 : n < w := g3
  have hc : c = ofN n := by
   unfold ofN
   rcases hw4 with ⟨e1,e2⟩ | ⟨e1,e2⟩ | ⟨e1,e2⟩ | ⟨e1,e2⟩
   ·rw [if_pos (by omega)]; exact e1
   ·rw [if_neg (by omega),if_pos (by omega)]; exact e1
   ·rw [if_neg (by omega),if_neg (by omega),if_pos (by omega)]; exact e1
   ·rw [if_neg (by omega),if_neg (by omega),if_neg (by omega)]; exact e1
  have qq : OfR n c true := .yes c hc (by omega)
  conv => cbv
  refine RetF.mk [i6 c,.p (.bool true)] [] 0 (Re.at [] []) rfl ⟨c,true,rfl,rfl,rfl,qq⟩
 ·have g3 : ¬ n < w := g3
  conv => cbv
  refine Fit.mk (by show (-9223372036854775808 : Int) ≤ c + 1; omega) (by show c + 1 ≤ 9223372036854775807; omega) fun c2 hc2 => ?_
  have hc2 : c2 = c + 1 := hc2
  conv => cbv
  refine Again.mk k' _ (Nat.lt_succ_self _) (Re.at [] []) ⟨c2,rfl,by omega,by omega,by omega,by omega,by omega,by omega,by omega⟩
theorem robjects_lx (m : Int) (R : List Rw) (vs : List Int) (n W : Int) (C B V : List PV) (hC : C = cpv R) (hB : B = bpv R) (hV : V = ipv vs) (hn : n = R.length) (hR : R.length ≤ 1000) (hA : AOk R vs) (hW : W = 32 * n) (hm : m = objCount R) : CallF (fun _ => Tryz.prog) 52 [.ptr 0 (.lit 0)] [hpB 0 1 4 3 W,hpD 1 2 3 1 n 3 254 8 n,hpP 2 C,hpP 3 B,hpP 4 V] 5
  (fun r h n' => ∃ O : List PV,r = .sl 5 3 1 (.lit 0) (.sym m) ∧ h = [hpB 0 1 4 3 W,hpD 1 2 3 1 n 3 254 8 n,hpP 2 C,hpP 3 B,hpP 4 V,hpP 5 O] ∧ n' = 6 ∧ O = ipv (objsTo R R.length)) := by
 have hlen := hA.len
 obtain ⟨gl,hg⟩ : ∃ gl : List Int → Int,∀ l,gl l = l.length := ⟨_,fun _ => rfl⟩
 have g0 : gl [] = 0 := by rw [hg]; rfl
 have P0 : (∀ x,x ∈ ([] : List Int) ↔ IsObj R x ∧ x < 0) := fun x => ⟨fun h => (by cases h),fun ⟨h,h2⟩ => by have := obj_in hA.rows h; omega⟩
 refine callF_of_body tok Tryz.func52 (by kernel_rfl) rfl rfl rfl ?_; conv => cbv
 refine LoopF.mk (fun k s => ∃ (a j : Int) (O : List PV) (l : List Int),s = ⟨.ptr 0 (.lit 0) :: (undefs 2 ++ .sl 5 3 1 (.lit 0) (.sym j) :: .p (.int .i64 (.sym a)) :: undefs 17),[hpB 0 1 4 3 W,hpD 1 2 3 1 n 3 254 8 n,hpP 2 C,hpP 3 B,hpP 4 V,hpP 5 O],6⟩ ∧ O = ipv l ∧ j = gl l ∧ l.Pairwise (· < ·) ∧ (∀ x,x ∈ l ↔ IsObj R x ∧ x < a) ∧ 0 ≤ a ∧ a ≤ W ∧ 0 ≤ j ∧ j ≤ a ∧ k = (W - a).toNat) W.toNat _
  (Re.at [(0,0),(1,1),(2,2),(3,3),(4,4)] [5]) ⟨0,0,[],[],rfl,rfl,g0.symm,.nil,P0,by omega,by omega,by omega,by omega,by omega⟩ ?_
 clear P0 g0
 rintro k s ⟨a,j,O,l,rfl,hO,hj,hasc,hmem,ha0,ha1,hj0,hj1,hk⟩
 conv => cbv
 refine Br.mk (fun ga => ?_) (fun ga => ?_)
 ·have ga : a < W := ga
  obtain ⟨k',rfl⟩ : ∃ k',k = k' + 1 := ⟨k - 1,by omega⟩
  conv => cbv
  refine cfr (ris_lx R vs n a W C B V hC hB hV hn hR hA hW) [(0,0),(1,1),(2,2),(3,3),(4,4)] (fun r h' n' hrr => ?_)
  obtain ⟨b,e1,e2,e3,hb⟩ := hrr
  subst e1 e2 e3
  cases b with
  | false =>
   have hno : ¬ IsObj R a := fun h => by cases hb.2 h
   have hm2 : ∀ x,x ∈ l ↔ IsObj R x ∧ x < a + 1 := fun x => by
    rw [hmem x]
    constructor
    ·rintro ⟨h1,h2⟩; exact ⟨h1,by omega⟩
    ·rintro ⟨h1,h2⟩
     refine ⟨h1,?_⟩
     have : x ≠ a := fun e => hno (e ▸ h1)
     omega
   conv => cbv
   refine Fit.mk (by show (-9223372036854775808 : Int) ≤ a + 1; omega) (by show a + 1 ≤ 9223372036854775807; omega) fun a2 ha2 => ?_
   have ha2 : a2 = a + 1 := ha2
   rw [← ha2] at hm2
   conv => cbv
   refine Again.mk k' _ (Nat.lt_succ_self _) (Re.at [(0,0),(1,1),(2,2),(3,3),(4,4),(5,5)] []) ⟨a2,j,O,l,rfl,hO,hj,hasc,hm2,by omega,by omega,by omega,by omega,by omega⟩
  | true =>
   have hobj := hb.1 rfl
   have hm2 : ∀ x,x ∈ l ++ [a] ↔ IsObj R x ∧ x < a + 1 := fun x => by
    rw [List.mem_append,hmem x,List.mem_singleton]
    constructor
    ·rintro (⟨h1,h2⟩ | rfl)
     ·exact ⟨h1,by omega⟩
     ·exact ⟨hobj,by omega⟩
    ·rintro ⟨h1,h2⟩
     by_cases e : x = a
     ·exact .inr e
     ·exact .inl ⟨h1,by omega⟩
   have hasc2 : (l ++ [a]).Pairwise (· < ·) := List.pairwise_append.2 ⟨hasc,List.pairwise_singleton _ _,fun x hx y hy => by
    have := (hmem x).1 hx
    rw [List.mem_singleton.1 hy]; exact this.2⟩
   have hol : (O.length : Int) = j := by rw [hO,ipv_length,hj,hg]
   conv => cbv
   refine Room.new rfl ?_
   conv => cbv
   refine Room.new ⟨?_,?_,?_⟩ ?_
   ·show (O.length : Int) = j * 1; omega
   ·show (j + 1) * 8 ≤ 140737488355328; omega
   ·show j + 1 ≤ 9223372036854775807; omega
   conv => cbv
   refine Upd.mk fun O3 hO3 => ?_
   have hO3 : O3 = O ++ [.int .i64 (.sym a)] := hO3
   have hO3 : O3 = ipv (l ++ [a]) := by rw [hO3,hO,← ipv_app]; rfl
   conv => cbv
   refine Sum.mk fun j2 hj2 => ?_
   have hj2 : j2 = j + 1 := hj2
   have hj3 : j2 = gl (l ++ [a]) := by rw [hj2,hj,hg,hg,List.length_append]; rfl
   conv => cbv
   refine Fit.mk (by show (-9223372036854775808 : Int) ≤ a + 1; omega) (by show a + 1 ≤ 9223372036854775807; omega) fun a2 ha2 => ?_
   have ha2 : a2 = a + 1 := ha2
   rw [← ha2] at hm2
   conv => cbv
   refine Again.mk k' _ (Nat.lt_succ_self _) (Re.at [(0,0),(1,1),(2,2),(3,3),(4,4),(7,5)] []) ⟨a2,j2,O3,l ++ [a],rfl,hO3,hj3,hasc2,hm2,by omega,by omega,by omega,by omega,by omega⟩
 ·have ga : ¬ a < W := ga
  have hl : l = objsTo R R.length := objs_is hA.rows hasc fun x => by
   rw [hmem x]
   exact ⟨fun h => h.1,fun h => ⟨h,by have := obj_in hA.rows h; omega⟩⟩
  have hjm : j = m := by rw [hj,hg,hl,objs_length hA.rows,hm]
  rw [hl] at hO
  conv => cbv
  refine RetF.mk [.sl 5 3 1 (.lit 0) (.sym m)] [hpB 0 1 4 3 W,hpD 1 2 3 1 n 3 254 8 n,hpP 2 C,hpP 3 B,hpP 4 V,hpP 5 O] 6 (Re.at [(0,0),(1,1),(2,2),(3,3),(4,4),(5,5)] []) rfl ⟨O,rfl,rfl,rfl,hO⟩
end Go.Proofs.YtjfdfbpgckilpaaGreatDoor
namespace Go.Proofs.YtjfdfbpgckilpaaGreatDoor
open Go Go.LX
set_option maxRecDepth 100000
set_option linter.unusedVariables false
set_option linter.unusedSimpArgs false
set_option maxHeartbeats 32000000
theorem zer_snoc : ∀ (n : Nat) (ws : List Int) (j : Nat),zer ws j (n + 1) = (zer ws j n).set (j + n) 0
 | 0,ws,j => rfl
 | n + 1,ws,j => by
  rw [zer,zer_snoc n,zer,show j + 1 + n = j + (n + 1) by omega]
theorem rallocA_lx (kind m : Int) (R : List Rw) (vs : List Int) (n W : Int) (C B V : List PV) (hC : C = cpv R) (hB : B = bpv R) (hV : V = ipv vs) (hn : n = R.length) (hR : R.length ≤ 1000) (hA : AOk R vs) (hW : W = 32 * n) : CallF (fun _ => Tryz.prog) 168 [.ptr 0 (.lit 0),i6 kind,i6 m] [hpB 0 1 4 3 W,hpD 1 2 3 1 n 3 254 8 n,hpP 2 C,hpP 3 B,hpP 4 V] 5
  (fun r h n' => ∃ (at_ e : Int) (R' : List Rw) (vs' : List Int) (C' B' V' : List PV),r = .tup [i6 at_,i6 e] ∧ h = [hpB 0 1 4 3 W,hpD 1 2 3 1 n 3 254 8 n,hpP 2 C',hpP 3 B',hpP 4 V'] ∧ n' = 5 ∧ C' = cpv R' ∧ B' = bpv R' ∧ V' = ipv vs' ∧ AlloctV R vs kind m at_ e R' vs') := by
 have hlen := hA.len
 have hVl : V.length = vs.length := by rw [hV,ipv_length]
 refine callF_of_body tok Tryz.func168 (by kernel_rfl) rfl rfl rfl ?_; conv => cbv
 refine callF_frame (rclassOf_lx m) [] rfl trivial rfl rfl (fun r h' n' hrr => ?_)
 obtain ⟨c,b,e1,e2,e3,hO⟩ := hrr
 subst e1 e2 e3
 conv => cbv
 refine Br.mk (fun g => ?_) (fun g => ?_)
 ·have g : kind < 1 := g
  have hno : ¬ (0 ≤ m ∧ m ≤ 31 ∧ 1 ≤ kind ∧ kind ≤ 6) := fun h => by omega
  conv => cbv
  refine RetF.mk [i6 0,i6 1] [hpB 0 1 4 3 W,hpD 1 2 3 1 n 3 254 8 n,hpP 2 C,hpP 3 B,hpP 4 V] 5 (Re.at [(0,0),(1,1),(2,2),(3,3),(4,4)] []) rfl ⟨0,1,R,vs,C,B,V,rfl,rfl,rfl,hC,hB,hV,.arg hno⟩
 have g : ¬ kind < 1 := g
 conv => cbv
 refine Br.mk (fun g2 => ?_) (fun g2 => ?_)
 ·have g2 : 6 < kind := g2
  have hno : ¬ (0 ≤ m ∧ m ≤ 31 ∧ 1 ≤ kind ∧ kind ≤ 6) := fun h => by omega
  conv => cbv
  refine RetF.mk [i6 0,i6 1] [hpB 0 1 4 3 W,hpD 1 2 3 1 n 3 254 8 n,hpP 2 C,hpP 3 B,hpP 4 V] 5 (Re.at [(0,0),(1,1),(2,2),(3,3),(4,4)] []) rfl ⟨0,1,R,vs,C,B,V,rfl,rfl,rfl,hC,hB,hV,.arg hno⟩
 have g2 : ¬ 6 < kind := g2
 cases hO with
 | no hno =>
  conv => cbv
  refine RetF.mk [i6 0,i6 1] [hpB 0 1 4 3 W,hpD 1 2 3 1 n 3 254 8 n,hpP 2 C,hpP 3 B,hpP 4 V] 5 (Re.at [(0,0),(1,1),(2,2),(3,3),(4,4)] []) rfl ⟨0,1,R,vs,C,B,V,rfl,rfl,rfl,hC,hB,hV,.arg (fun h => hno ⟨h.1,h.2.1⟩)⟩
 | yes _ hc hyes =>
  have hyk : 0 ≤ m ∧ m ≤ 31 ∧ 1 ≤ kind ∧ kind ≤ 6 := by omega
  conv => cbv
  refine cfr (ralloc_lx c R n C B hC hB hn hR (rok_of hA.rows)) [(0,1),(1,2),(2,3)] (fun r h' n' hrr => ?_)
  obtain ⟨i,s,b,R2,C2,B2,e1,e2,e3,hC2,hB2,hAl⟩ := hrr
  subst e1 e2 e3
  cases b with
  | false =>
   conv => cbv
   rw [hc] at hAl
   refine RetF.mk [i6 0,i6 9] [hpB 0 1 4 3 W,hpD 1 2 3 1 n 3 254 8 n,hpP 2 C2,hpP 3 B2,hpP 4 V] 5 (Re.at [(0,0),(1,1),(2,2),(3,3),(4,4)] []) rfl ⟨0,9,R2,vs,C2,B2,V,rfl,rfl,rfl,hC2,hB2,hV,.room i s R2 hyk hAl⟩
  | true =>
   conv => cbv
   obtain ⟨hi0,hi1,hs0,hs1⟩ := alloced_in hA.rows hAl
   obtain ⟨w,hw⟩ : ∃ w,w = wordsOf c := ⟨_,rfl⟩
   have hmw : m < w ∧ w ≠ 0 := by rw [hw,hc]; exact ofN_words hyes
   have hwb := wordsOf_bd c
   rw [← hw] at hwb
   have hsw : (s.toNat : Int) * w + w ≤ 32 := by rw [hw]; exact slots_words (by rw [← hw]; exact hmw.2) (by omega)
   rw [show (s.toNat : Int) = s by omega] at hsw
   obtain ⟨sw,hsw2⟩ : ∃ sw,sw = s * w := ⟨_,rfl⟩
   have hsw0 : 0 ≤ sw := by rw [hsw2]; exact Int.mul_nonneg hs0 (by rw [hw]; exact (wordsOf_bd _).1)
   rw [← hsw2] at hsw
   refine Fit.mk (by show (-9223372036854775808 : Int) ≤ i * 32; omega) (by show i * 32 ≤ 9223372036854775807; omega) fun i32 hi32 => ?_
   have hi32 : i32 = i * 32 := hi32
   conv => cbv
   refine callF_frame (refWordsA_lx c w hw) [] rfl trivial rfl rfl (fun r h' n' ⟨e1,e2,e3⟩ => ?_)
   subst e1 e2 e3
   conv => cbv
   refine Fit.mk (by show (-9223372036854775808 : Int) ≤ s * w; rw [← hsw2]; omega) (by show s * w ≤ 9223372036854775807; rw [← hsw2]; omega) fun sw' hsw' => ?_
   have hsw' : sw' = sw := by rw [hsw2]; exact hsw'
   conv => cbv
   refine Fit.mk (by show (-9223372036854775808 : Int) ≤ i32 + sw'; omega) (by show i32 + sw' ≤ 9223372036854775807; omega) fun at_ hat => ?_
   have hat : at_ = i32 + sw' := hat
   have hat2 : at_ = 32 * i + sw := by omega
   conv => cbv
   have hloc : at_ + w ≤ W := by omega
   refine LoopF.mk (fun k st => ∃ (j : Int) (V2 : List PV),st = ⟨.ptr 0 (.lit 0) :: .p (.int .i64 (.sym kind)) :: .p (.int .i64 (.sym m)) :: (undefs 5 ++ .p (.int .i64 (.sym c)) :: (undefs 3 ++ .p (.int .i64 (.sym at_)) :: .p (.int .i64 (.sym j)) :: undefs 59)),[hpB 0 1 4 3 W,hpD 1 2 3 1 n 3 254 8 n,hpP 2 C2,hpP 3 B2,hpP 4 V2],5⟩ ∧ V2 = ipv (zer vs at_.toNat j.toNat) ∧ 0 ≤ j ∧ j ≤ w ∧ k = (w - j).toNat) w.toNat _
    (Re.at [(0,0),(1,1),(2,2),(3,3),(4,4)] []) ⟨0,V,rfl,hV,by omega,by omega,by omega⟩ ?_
   rintro k st ⟨j,V2,rfl,hV2,hj0,hj1,hk⟩
   have hV2l : V2.length = vs.length := by rw [hV2,ipv_length,zer_length]
   conv => cbv
   refine callF_frame (refWordsA_lx c w hw) [] rfl trivial rfl rfl (fun r h' n' ⟨e1,e2,e3⟩ => ?_)
   subst e1 e2 e3
   conv => cbv
   refine Br.mk (fun g3 => ?_) (fun g3 => ?_)
   ·have g3 : j < w := g3
    obtain ⟨k',rfl⟩ : ∃ k',k = k' + 1 := ⟨k - 1,by omega⟩
    obtain ⟨j2,hj2⟩ : ∃ j2,j2 = j + 1 := ⟨_,rfl⟩
    obtain ⟨V3,hV3⟩ : ∃ V3,V3 = ipv (zer vs at_.toNat j2.toNat) := ⟨_,rfl⟩
    conv => cbv
    refine Fit.mk (by show (-9223372036854775808 : Int) ≤ at_ + j; omega) (by show at_ + j ≤ 9223372036854775807; omega) fun x hx => ?_
    have hx : x = at_ + j := hx
    conv => cbv
    refine Need.mk ⟨by show 0 ≤ x; omega,by show x < W; omega⟩ ?_
    conv => cbv
    refine Need.mk (by show x + ((1 : Nat) : Int) ≤ (V2.length : Int); omega) ?_
    conv => cbv
    refine Upd.mk fun D2 hD2 => ?_
    have hle : pvles D2 V3 := by
     have hD2 : D2 = updL V2 x.toNat (repsP [.int .i64 (.lit 0)] 1) := hD2
     rw [hD2,hV3,hV2,show j2.toNat = j.toNat + 1 by omega,zer_snoc,show at_.toNat + j.toNat = x.toNat by omega]
     exact upd_zer 1 _ _ _ (pvles_self _)
    clear hD2
    unfold pvles at hle
    conv => cbv
    refine Fit.mk (by show (-9223372036854775808 : Int) ≤ j + 1; omega) (by show j + 1 ≤ 9223372036854775807; omega) fun j3 hj3 => ?_
    have hj3 : j3 = j + 1 := hj3
    obtain rfl : j3 = j2 := by omega
    conv => cbv
    refine Again.mk k' _ (Nat.lt_succ_self _) (Re.at [(0,0),(1,1),(2,2),(3,3),(4,4)] []) ⟨j3,V3,rfl,hV3,by omega,by omega,by omega⟩
   ·have g3 : ¬ j < w := g3
    have hjw : j = w := by omega
    subst hjw
    obtain ⟨V3,hV3⟩ : ∃ V3,V3 = ipv ((zer vs at_.toNat j.toNat).set at_.toNat (kind + 16 * m)) := ⟨_,rfl⟩
    have hres : AlloctV R vs kind m at_ 0 R2 ((zer vs at_.toNat j.toNat).set at_.toNat (kind + 16 * m)) := by
     rw [hw,hc]
     exact .ok i s at_ R2 hyk (hc ▸ hAl) (by rw [hat2,hsw2,hw,hc])
    conv => cbv
    refine Fit.mk (by show (-9223372036854775808 : Int) ≤ 16 * m; omega) (by show 16 * m ≤ 9223372036854775807; omega) fun x hx => ?_
    have hx : x = 16 * m := hx
    conv => cbv
    refine Fit.mk (by show (-9223372036854775808 : Int) ≤ kind + x; omega) (by show kind + x ≤ 9223372036854775807; omega) fun y hy => ?_
    have hy : y = kind + x := hy
    conv => cbv
    refine Need.mk ⟨by show 0 ≤ at_; omega,by show at_ < W; omega⟩ ?_
    conv => cbv
    refine Need.mk (by show at_ + ((1 : Nat) : Int) ≤ (V2.length : Int); omega) ?_
    conv => cbv
    refine Upd.mk fun D2 hD2 => ?_
    have hD2 : D2 = updL V2 at_.toNat [.int .i64 (.sym y)] := hD2
    have hD2 : D2 = V3 := by rw [hD2,hV2,hV3,updL_ipv,hy,hx]
    subst hD2
    conv => cbv
    refine RetF.mk [i6 at_,i6 0] [hpB 0 1 4 3 W,hpD 1 2 3 1 n 3 254 8 n,hpP 2 C2,hpP 3 B2,hpP 4 D2] 5 (Re.at [(0,0),(1,1),(2,2),(3,3),(4,4)] []) rfl ⟨at_,0,R2,_,C2,B2,D2,rfl,rfl,rfl,hC2,hB2,hV3,hres⟩
end Go.Proofs.YtjfdfbpgckilpaaGreatDoor
