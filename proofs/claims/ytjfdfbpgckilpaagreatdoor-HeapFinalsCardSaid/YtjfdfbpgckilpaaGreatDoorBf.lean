/-
  The ground of the proof, part 6: the calculus and what is proved with it.
-/
import Derived.Test.YtjfdfbpgckilpaaGreatDoorBe
import Derived.Laws.OwnMore
import Derived.Deep.AppendLies
import Derived.Deep.Draws
import Derived.Lib.Hide
import Derived.ProofKit
import Derived.OpenShut
import Derived.Carry
import Derived.SliceStrings
import Derived.ChangeSlices
import Derived.Test.YtjfdfbpgckilpaaGreatDoorBd
import Derived.ChangeArms
import Derived.Test.YtjfdfbpgckilpaaGreatDoorRows
namespace Go.Proofs.YtjfdfbpgckilpaaGreatDoor
open Go.RowKit
set_option maxHeartbeats 32000000
theorem add_block (a : Addr) (n : Nat) : (a.add n).block = a.block := by
 unfold Addr.add; split <;> rfl
structure Sl (w : World) (B size : Nat) (v : Value) (n : Nat) (xs : List Value) : Prop where
 len : xs.length = n * size
 max : n ≤ maxLen
 form : (v = .slice none 0 0 ∧ n = 0) ∨ ∃ a c,v = .slice (some a) n c ∧ n ≤ c ∧ c ≤ maxLen ∧ (0 < n → a.block < B) ∧ ∀ j u,xs[j]? = some u → w.cell? (a.add j) = some u
section
variable {w w' : World} {B B' size n : Nat} {v : Value} {xs : List Value}
theorem Sl.nil : Sl w B size (.slice none 0 0) 0 [] := ⟨by simp,Nat.zero_le _,.inl ⟨rfl,rfl⟩⟩
theorem Sl.pos (h : Sl w B size v n xs) {j : Nat} {u : Value} (hu : xs[j]? = some u) : 0 < n := by
 have h1 := (List.getElem?_eq_some_iff.1 hu).1
 rw [h.len] at h1
 rcases Nat.eq_zero_or_pos n with rfl | h2
 ·simp at h1
 ·exact h2
theorem Sl.keep (h : Sl w B size v n xs) (hk : ∀ p : Addr,p.block < B → w'.cell? p = w.cell? p) : Sl w' B size v n xs := by
 refine ⟨h.len,h.max,?_⟩
 rcases h.form with e | ⟨a,c,e,h1,h2,h3,h4⟩
 ·exact .inl e
 ·exact .inr ⟨a,c,e,h1,h2,h3,fun j u hu => (hk _ (by rw [add_block]; exact h3 (h.pos hu))).trans (h4 j u hu)⟩
theorem Sl.below (h : Sl w B size v n xs) (hb : Below B w w') : Sl w' B size v n xs := h.keep fun _ hp => hb.cell hp
theorem Sl.step (h : Sl w B size v n xs) (hB : B ≤ w.heap.size) (k : Below w.heap.size w w') : Sl w' B size v n xs := h.keep fun _ hp => k.cell (Nat.lt_of_lt_of_le hp hB)
theorem Sl.drewN (h : Sl w B size v n xs) (k : Nat) : Sl (w.drewN k) B size v n xs := h.keep fun _ _ => rfl
theorem Sl.more (h : Sl w B size v n xs) (hB : B ≤ B') : Sl w B' size v n xs := by
 refine ⟨h.len,h.max,?_⟩
 rcases h.form with e | ⟨a,c,e,h1,h2,h3,h4⟩
 ·exact .inl e
 ·exact .inr ⟨a,c,e,h1,h2,fun h => Nat.lt_of_lt_of_le (h3 h) hB,h4⟩
theorem Sl.alloc (h : Sl w B size v n xs) (hB : B ≤ w.heap.size) (o : Obj) : Sl (w.alloc o) B size v n xs := h.keep fun p hp => World.cell?_alloc_lt w o p (by omega)
theorem Sl.take {a : Addr} {c : Nat} (h : Sl w B 1 (.slice (some a) n c) n xs) {k : Nat} (hk : k ≤ n) : Sl w B 1 (.slice (some a) k c) k (xs.take k) := by
 have hl := h.len
 refine ⟨by rw [List.length_take,hl]; omega,by have := h.max; omega,?_⟩
 rcases h.form with ⟨e,_⟩ | ⟨a',c',e,h1,h2,h3,h4⟩
 ·cases e
 ·cases e
  exact .inr ⟨a,c,rfl,by omega,h2,fun hh => h3 (by omega),fun j u hu => h4 j u (by rw [List.getElem?_take] at hu; split at hu; exact hu; cases hu)⟩
theorem Sl.cell {a : Addr} {c : Nat} (h : Sl w B size (.slice (some a) n c) n xs) {k : Nat} {u : Value} (hk : xs[k]? = some u) : w.cell? (a.add k) = some u := by
 rcases h.form with ⟨e,_⟩ | ⟨a',c',e,h1,h2,h3,h4⟩
 ·cases e
 ·cases e; exact h4 k u hk
theorem Sl.cap {a : Addr} {c : Nat} (h : Sl w B size (.slice (some a) n c) n xs) : n ≤ c ∧ c ≤ maxLen ∧ (0 < n → a.block < B) := by
 rcases h.form with ⟨e,_⟩ | ⟨a',c',e,h1,h2,h3,h4⟩
 ·cases e
 ·cases e; exact ⟨h1,h2,h3⟩
theorem Sl.some_ (h : Sl w B size v n xs) (hn : 0 < n) : ∃ a c,v = .slice (some a) n c := by
 rcases h.form with ⟨_,rfl⟩ | ⟨a,c,e,_⟩
 ·omega
 ·exact ⟨a,c,e⟩
theorem Sl.is_slice (h : Sl w B size v n xs) : ∃ A c,v = .slice A n c := by
 rcases h.form with ⟨rfl,rfl⟩ | ⟨a,c,rfl,_⟩
 ·exact ⟨_,_,rfl⟩
 ·exact ⟨_,_,rfl⟩
theorem Sl.of_own {base : Nat} {e : TypeId} (h : w.ownsRow base e size v n xs) : Sl w w.heap.size size v n xs := by
 obtain ⟨h1,h2⟩ := h
 rcases h2 with ⟨rfl,rfl⟩ | ⟨g,cap,cur,rfl,hb,hh,hn,hc,hz,ht⟩
 ·exact ⟨h1,Nat.zero_le _,.inl ⟨rfl,rfl⟩⟩
 ·have hg : g < w.heap.size := by
   rcases Nat.lt_or_ge g w.heap.size with hlt | hge
   ·exact hlt
   ·rw [Array.getElem?_eq_none hge] at hh; cases hh
  refine ⟨h1,Nat.le_trans hn hc,.inr ⟨⟨g,0,none⟩,cap,rfl,hn,hc,fun _ => hg,fun j u hu => ?_⟩⟩
  have hj : (Addr.add ⟨g,0,none⟩ j) = ⟨g,j,none⟩ := by
   unfold Addr.add; split
   ·rename_i h0; rw [h0]
   ·simp
  rw [hj,cell_of_row w g j cur e (0,0) hh]
  rw [← ht,List.getElem?_take] at hu
  split at hu
  ·simpa using hu
  ·cases hu
theorem add_zero_off (g j : Nat) : (Addr.add ⟨g,0,none⟩ j) = ⟨g,j,none⟩ := by
 unfold Addr.add; split
 ·rename_i h0; rw [h0]
 ·simp
theorem Sl.lit (w : World) (cs : Array Value) (t : TypeId) (c : Nat) (hn : n * size = cs.size) (hc : n ≤ c) (hm : c ≤ maxLen) : Sl (w.alloc (.cells cs t)) (w.heap.size + 1) size (.slice (some ⟨w.heap.size,0,none⟩) n c) n cs.toList := by
 refine ⟨by simp [hn],Nat.le_trans hc hm,.inr ⟨_,c,rfl,hc,hm,fun _ => Nat.lt_succ_self _,fun j u hu => ?_⟩⟩
 rw [add_zero_off,cell_of_row (w.alloc (.cells cs t)) w.heap.size j cs t (0,0) (heap_alloc_new w _)]
 simpa using hu
end
end Go.Proofs.YtjfdfbpgckilpaaGreatDoor
namespace Go.Proofs.YtjfdfbpgckilpaaGreatDoor
open Go.RowKit Go.ChangeShapes Go.WideShapes
set_option maxHeartbeats 32000000
section
variable {H : Type} {enc : TypeId × Value → H} {P : Program} {W : World}
theorem lt_of_cell {w : World} {a : Addr} {v : Value} (h : w.cell? a = some v) : a.block < w.heap.size := by
 rcases Nat.lt_or_ge a.block w.heap.size with h1 | h1
 ·exact h1
 ·simp [World.cell?,Array.getElem?_eq_none h1] at h
theorem open_ints_sl {t e : TypeId} {k : IntKind} {base : Nat} {v : Value} {d : DataW H} {ps : List MemPlace} (ht : P.underlying t = some (.slice e)) (he : P.underlying e = some (.int k)) (hc : P.cellsOf e = 1)
  (hval : Value.okWide P W .any base t v) (h : DataW.Trod enc P W 0 (fun _ => true) true t v d ps) : ∃ zs : List Int,Sl W W.heap.size 1 v zs.length (zs.map (Value.int k)) ∧ ∀ n ∈ zs,(Lit.int k n).wf = true := by
 obtain ⟨a0,len,cap,rfl⟩ := okWide_slice ht hval
 obtain ⟨fuel,hf⟩ := h
 rcases open_ints ht he hc hf with ⟨hcs,_⟩ | ⟨a,len',cap',zs,hcs,_,hl,hm,hz,_,hcell,hwz⟩
 ·simp only [Value.cells] at hcs
  cases hcs
  exact ⟨[],Sl.nil,by simp⟩
 ·simp only [Value.cells] at hcs
  cases hcs
  simp only [if_true] at hz
  have hlt : (zs.take len).length = len := by rw [List.length_take]; omega
  refine ⟨zs.take len,?_,fun n hn => hwz n (List.mem_of_mem_take hn)⟩
  rw [hlt]
  refine ⟨by rw [List.length_map,hlt]; omega,Nat.le_trans hl hm,.inr ⟨a,cap,rfl,hl,hm,fun hp => lt_of_cell (a := a.add 0) (hcell 0 (by omega)),fun j u hu => ?_⟩⟩
  rw [List.getElem?_map] at hu
  obtain ⟨z,hz2,rfl⟩ := Option.map_eq_some_iff.1 hu
  rw [List.getElem?_take] at hz2
  split at hz2
  ·have hj : j < zs.length := (List.getElem?_eq_some_iff.1 hz2).1
   rw [hcell j hj,List.getD_eq_getElem?_getD,hz2]; rfl
  ·cases hz2
theorem open_strs_sl {t e : TypeId} {base : Nat} {v : Value} {d : DataW H} {ps : List MemPlace} (ht : P.underlying t = some (.slice e)) (he : P.underlying e = some .string) (hc : P.cellsOf e = 1)
  (hval : Value.okWide P W .any base t v) (h : DataW.Trod enc P W 0 (fun _ => true) true t v d ps) : ∃ ss : List ByteArray,Sl W W.heap.size 1 v ss.length (ss.map Value.string) ∧ ∀ s ∈ ss,s.size ≤ maxLen := by
 obtain ⟨a0,len,cap,rfl⟩ := okWide_slice ht hval
 obtain ⟨fuel,hf⟩ := h
 rcases open_strings ht he hc hf with ⟨hcs,_⟩ | ⟨a,len',cap',zs,hcs,_,hl,hm,hz,_,hcell,hwz⟩
 ·simp only [Value.cells] at hcs
  cases hcs
  exact ⟨[],Sl.nil,by simp⟩
 ·simp only [Value.cells] at hcs
  cases hcs
  simp only [if_true] at hz
  have hlt : (zs.take len).length = len := by rw [List.length_take]; omega
  refine ⟨zs.take len,?_,fun n hn => hwz n (List.mem_of_mem_take hn)⟩
  rw [hlt]
  refine ⟨by rw [List.length_map,hlt]; omega,Nat.le_trans hl hm,.inr ⟨a,cap,rfl,hl,hm,fun hp => lt_of_cell (a := a.add 0) (hcell 0 (by omega)),fun j u hu => ?_⟩⟩
  rw [List.getElem?_map] at hu
  obtain ⟨z,hz2,rfl⟩ := Option.map_eq_some_iff.1 hu
  rw [List.getElem?_take] at hz2
  split at hz2
  ·have hj : j < zs.length := (List.getElem?_eq_some_iff.1 hz2).1
   rw [hcell j hj,List.getD_eq_getElem?_getD,hz2]; rfl
  ·cases hz2
end
end Go.Proofs.YtjfdfbpgckilpaaGreatDoor
namespace Go.Proofs.YtjfdfbpgckilpaaGreatDoor
open Go Go.LX Go.RowKit
set_option maxHeartbeats 32000000
theorem vsl_gen {w : World} {size n : Nat} {v : Value} {xs : List Value} (hsz : 0 < size) (h : Sl w w.heap.size size v n xs) {m : Int} {l : List PV} (hm : m = n) (hl : l.length = n * size) (hrel : ∀ (j : Nat) (u : PV),l[j]? = some u → ∃ x,xs[j]? = some x ∧ PR Ctx.empty.mut w u x) :
  LR Ctx.empty w (.p (.vsl (.sym m) true l)) v := by
 have h0 : (I.sym m).val = n := hm
 rcases h.form with ⟨rfl,rfl⟩ | ⟨a,c,rfl,h1,h2,h3,h4⟩
 ·exact .p _ _ (.vsl0 _ _ _ _ _ h0 (Nat.zero_le _))
 ·rcases Nat.eq_zero_or_pos n with rfl | hn
  ·exact .p _ _ (.vsl0 _ _ _ _ _ h0 h2)
  ·have hlen : 0 < l.length := by rw [hl]; exact Nat.mul_pos hn hsz
   obtain ⟨x0,hx0,_⟩ := hrel 0 l[0] (List.getElem?_eq_getElem hlen)
   have hc := h4 0 x0 hx0
   have hsp : a.spot = none := by
    have : w.cell? a = some x0 := hc
    unfold World.cell? at this
    split at this
    ·split at this
     ·cases this
     ·rename_i hns
      cases hs : a.spot with
      | none => rfl
      | some _ => rw [hs] at hns; exact absurd rfl hns
    ·cases this
   refine .p _ _ (.vsl _ _ _ a n c (fun j => xs.getD j Go.undef) h0 hsp (fun hM => ?_) (h3 hn) h1 h2 (fun j u hu => ?_) (fun j u hu => ?_))
   ·rcases hM with hx | ⟨b,hb⟩
    ·exact hx
    ·cases hb
   ·obtain ⟨x,hx,_⟩ := hrel j u hu
    rw [h4 j x hx,List.getD_eq_getElem?_getD,hx]; rfl
   ·obtain ⟨x,hx,hp⟩ := hrel j u hu
    rw [List.getD_eq_getElem?_getD,hx]; exact hp
theorem vsl_ints {w : World} {k : IntKind} {v : Value} {zs : List Int} (h : Sl w w.heap.size 1 v zs.length (zs.map (Value.int k))) {m : Int} {l : List PV} (hm : m = zs.length) (hl : l = zs.map fun z => PV.int k (.sym z)) : LR Ctx.empty w (.p (.vsl (.sym m) true l)) v := by
 subst hl
 refine vsl_gen Nat.one_pos h hm (by simp) fun j u hu => ?_
 rw [List.getElem?_map] at hu
 cases hz : zs[j]? with
 | none => rw [hz] at hu; cases hu
 | some z =>
  rw [hz] at hu
  cases hu
  exact ⟨.int k z,by rw [List.getElem?_map,hz]; rfl,.int k _ z rfl⟩
end Go.Proofs.YtjfdfbpgckilpaaGreatDoor
namespace Go.Proofs.YtjfdfbpgckilpaaGreatDoor
open Go Go.LX Go.RowKit Go.ChangeShapes Go.WideShapes
set_option maxHeartbeats 32000000
inductive CK where
 | i (k : IntKind)
 | b
 | s
def CK.is : CK → Option TypeDesc → Bool
 | .i k,some (.int k') => decide (k = k')
 | .b,some .bool => true
 | .s,some .string => true
 | _,_ => false
def CK.ok : CK → Value → Prop
 | .i k,x => ∃ n,x = .int k n ∧ (Lit.int k n).wf = true
 | .b,x => ∃ b,x = .bool b
 | .s,x => ∃ s,x = .string s ∧ s.size ≤ maxLen
def rowOK (P : Program) (e : TypeId) (sh : List CK) : Bool :=
 match P.underlying e with
 | some (.struct fs) => P.cellsOf e == sh.length && fs.size == sh.length && (List.range sh.length).all fun i => match fs[i]?,sh[i]? with
  | some f,some k => f.offset == i && P.cellsOf f.type == 1 && k.is (P.underlying f.type)
  | _,_ => false
 | _ => false
section
variable {H : Type} {enc : TypeId × Value → H} {P : Program} {W : World}
theorem ck_trod {k : CK} {t : TypeId} {base fuel : Nat} {spare : Nat → Bool} {held : Bool} {cs : List Value} {x : DataW H × List MemPlace} (hk : k.is (P.underlying t) = true) (h : DataW.trod enc P W base spare held fuel t cs = some x) : ∃ c,cs = [c] ∧ k.ok c := by
 unfold CK.is at hk
 split at hk
 ·rename_i k1 k2 hu
  have hk := of_decide_eq_true hk
  subst hk
  obtain ⟨n,h1,_,h2⟩ := DataW.trod_int hu h
  exact ⟨_,h1,n,rfl,h2⟩
 ·rename_i hu
  obtain ⟨b,h1,_⟩ := DataW.trod_bool hu h
  exact ⟨_,h1,b,rfl⟩
 ·rename_i hu
  obtain ⟨s,h1,_,h2⟩ := DataW.trod_string hu h
  exact ⟨_,h1,s,rfl,h2⟩
 ·cases hk
theorem row_trod {sh : List CK} {e : TypeId} {base fuel : Nat} {spare : Nat → Bool} {held : Bool} {cs : List Value} {x : DataW H × List MemPlace} (hk : rowOK P e sh = true) (h : DataW.trod enc P W base spare held fuel e cs = some x) :
  cs.length = sh.length ∧ P.cellsOf e = sh.length ∧ ∀ (j : Nat) (c : Value),cs[j]? = some c → ∃ k,sh[j]? = some k ∧ k.ok c := by
 unfold rowOK at hk
 split at hk
 ·rename_i fs hu
  simp only [Bool.and_eq_true,beq_iff_eq,List.all_eq_true,List.mem_range] at hk
  obtain ⟨⟨h1,h2⟩,h3⟩ := hk
  obtain ⟨xs,n,_,_,h4,h5,h6⟩ := DataW.trod_struct hu h
  refine ⟨by omega,h1,fun j c hj => ?_⟩
  have hlt := (List.getElem?_eq_some_iff.1 hj).1
  have h7 := h3 j (by omega)
  split at h7
  ·rename_i f k hf hk
   simp only [Bool.and_eq_true,beq_iff_eq] at h7
   obtain ⟨⟨h8,h9⟩,h10⟩ := h7
   have h11 := h6 j f hf
   rw [h8,h9,List.getElem?_eq_getElem (by omega : j < xs.length)] at h11
   obtain ⟨c',h12,h13⟩ := ck_trod h10 h11
   have : c' = c := by
    have e1 : ((cs.drop j).take 1)[0]? = some c' := by rw [h12]; rfl
    rw [List.getElem?_take,if_pos (by omega),List.getElem?_drop,Nat.add_zero,hj] at e1
    exact (Option.some.inj e1).symm
   subst this
   exact ⟨k,hk,h13⟩
  ·cases h7
 ·cases hk
theorem spot_of_cell {w : World} {a : Addr} {x : Value} (h : w.cell? a = some x) : a.spot = none := by
 unfold World.cell? at h
 split at h
 ·split at h
  ·cases h
  ·rename_i hns
   cases hs : a.spot with
   | none => rfl
   | some _ => rw [hs] at hns; exact absurd rfl hns
 ·cases h
theorem open_rows {t e : TypeId} (sh : List CK) {base : Nat} {v : Value} {d : DataW H} {ps : List MemPlace} (ht : P.underlying t = some (.slice e)) (hk : rowOK P e sh = true) (hsz : 0 < sh.length)
  (hval : Value.okWide P W .any base t v) (h : DataW.Trod enc P W 0 (fun _ => true) true t v d ps) : ∃ (n : Nat) (xs : List Value),Sl W W.heap.size sh.length v n xs ∧ ∀ (j : Nat) (c : Value),xs[j]? = some c → ∃ k,sh[j % sh.length]? = some k ∧ k.ok c := by
 obtain ⟨a0,len,cap,rfl⟩ := okWide_slice ht hval
 obtain ⟨fuel,hf⟩ := h
 rcases DataW.trod_slice ht hf with ⟨hcs,_⟩ | ⟨a,len',cap',elems,rest,n,_,hcs,_,hb,hl,hm,hlen,hel,_⟩
 ·simp only [Value.cells] at hcs
  cases hcs
  exact ⟨0,[],⟨by simp,Nat.zero_le _,.inl ⟨rfl,rfl⟩⟩,fun j c hj => by simp at hj⟩
 ·simp only [Value.cells] at hcs
  cases hcs
  have each : ∀ i,i < len → ∀ r,r < sh.length → ∃ c k,W.cell? ((a.add (i * sh.length)).add r) = some c ∧ sh[r]? = some k ∧ k.ok c := by
   intro i hi r hr
   have h1 := hel i hi
   rw [List.getElem?_eq_getElem (by omega : i < elems.length),Option.bind_eq_some_iff] at h1
   obtain ⟨cs,h2,h3⟩ := h1
   obtain ⟨h4,h5,h6⟩ := row_trod hk h3
   rw [h5] at h2
   obtain ⟨_,h7,h8⟩ := World.cells?_some h2
   have h9 : cs[r]? = some cs[r] := List.getElem?_eq_getElem (by omega)
   obtain ⟨k,h10,h11⟩ := h6 r _ h9
   exact ⟨_,k,(h8 r hr).trans h9,h10,h11⟩
  have cell : ∀ j,j < len * sh.length → ∃ c k,W.cell? (a.add j) = some c ∧ sh[j % sh.length]? = some k ∧ k.ok c := by
   intro j hj
   have hi : j / sh.length < len := (Nat.div_lt_iff_lt_mul hsz).2 hj
   have hr := Nat.mod_lt j hsz
   have hsp : a.spot = none := by
    obtain ⟨c,_,h1,_⟩ := each 0 (Nat.lt_of_le_of_lt (Nat.zero_le _) hi) 0 hsz
    have := spot_of_cell h1
    simpa [Addr.add] using this
   obtain ⟨c,k,h1,h2,h3⟩ := each _ hi _ hr
   rw [Addr.add_off hsp] at h1
   have : j / sh.length * sh.length + j % sh.length = j := by rw [Nat.mul_comm]; exact Nat.div_add_mod j sh.length
   rw [this] at h1
   exact ⟨c,k,h1,h2,h3⟩
  refine ⟨len,(List.range (len * sh.length)).map fun j => (W.cell? (a.add j)).getD Go.undef,⟨by simp,Nat.le_trans hl hm,.inr ⟨a,cap,rfl,hl,hm,fun hp => ?_,fun j u hu => ?_⟩⟩,fun j c hj => ?_⟩
  ·obtain ⟨c,_,h1,_⟩ := cell 0 (Nat.mul_pos hp hsz)
   have := lt_of_cell h1
   simpa [Addr.add] using this
  ·rw [List.getElem?_map] at hu
   by_cases hj : j < len * sh.length
   ·rw [List.getElem?_range hj] at hu
    obtain ⟨c,_,h1,_⟩ := cell j hj
    simp only [Option.map_some,h1,Option.getD_some] at hu
    rw [h1]; exact hu
   ·rw [List.getElem?_eq_none (by simp; omega)] at hu; cases hu
  ·rw [List.getElem?_map] at hj
   by_cases hjl : j < len * sh.length
   ·rw [List.getElem?_range hjl] at hj
    obtain ⟨c',k,h1,h2,h3⟩ := cell j hjl
    simp only [Option.map_some,h1,Option.getD_some] at hj
    cases hj
    exact ⟨k,h2,h3⟩
   ·rw [List.getElem?_eq_none (by simp; omega)] at hj; cases hj
theorem open_threes {t e : TypeId} {base : Nat} {v : Value} {d : DataW H} {ps : List MemPlace} (ht : P.underlying t = some (.slice e)) (hk : rowOK P e [.i .i64,.i .i64,.i .i64] = true)
  (hval : Value.okWide P W .any base t v) (h : DataW.Trod enc P W 0 (fun _ => true) true t v d ps) : ∃ A : List (Int × Int × Int),Sl W W.heap.size 3 v A.length (A.flatMap fun e => [.int .i64 e.1,.int .i64 e.2.1,.int .i64 e.2.2]) ∧ ∀ e ∈ A,(Lit.int .i64 e.1).wf = true ∧ (Lit.int .i64 e.2.1).wf = true ∧ (Lit.int .i64 e.2.2).wf = true := by
 obtain ⟨n,xs,h1,h2⟩ := open_rows [.i .i64,.i .i64,.i .i64] ht hk (by decide) hval h
 have h3 : ∀ (j : Nat) (c : Value),xs[j]? = some c → ∃ z,c = .int .i64 z ∧ (Lit.int .i64 z).wf = true := by
  intro j c hj
  obtain ⟨k,h4,h5⟩ := h2 j c hj
  have : j % 3 < 3 := Nat.mod_lt _ (by omega)
  have h6 : ∀ r,r < 3 → ([.i .i64,.i .i64,.i .i64] : List CK)[r]? = some (.i .i64) := by
   intro r hr
   rcases r with _ | _ | _ | r
   ·rfl
   ·rfl
   ·rfl
   ·omega
  have h4 : ([.i .i64,.i .i64,.i .i64] : List CK)[j % 3]? = some k := h4
  rw [h6 _ this] at h4; cases h4; exact h5
 have chunk : ∀ (n : Nat) (xs : List Value),xs.length = n * 3 → (∀ (j : Nat) (c : Value),xs[j]? = some c → ∃ z,c = .int .i64 z ∧ (Lit.int .i64 z).wf = true) → ∃ A : List (Int × Int × Int),A.length = n ∧ xs = (A.flatMap fun e => [.int .i64 e.1,.int .i64 e.2.1,.int .i64 e.2.2]) ∧ ∀ e ∈ A,(Lit.int .i64 e.1).wf = true ∧ (Lit.int .i64 e.2.1).wf = true ∧ (Lit.int .i64 e.2.2).wf = true := by
  intro n
  induction n with
  | zero => intro xs hl _; exact ⟨[],rfl,by simpa using hl,by simp⟩
  | succ n ih =>
   intro xs hl hx
   match xs,hl,hx with
   | x :: y :: z :: xs,hl,hx =>
    obtain ⟨a,rfl,ha⟩ := hx 0 x rfl
    obtain ⟨b,rfl,hb⟩ := hx 1 y rfl
    obtain ⟨c,rfl,hc⟩ := hx 2 z rfl
    obtain ⟨A,g1,g2,g3⟩ := ih xs (by simp at hl; omega) (fun j c hj => hx (j + 3) c (by simpa using hj))
    refine ⟨(a,b,c) :: A,by simp [g1],by rw [g2]; simp,fun e he => ?_⟩
    rcases List.mem_cons.1 he with rfl | he
    ·exact ⟨ha,hb,hc⟩
    ·exact g3 e he
   | [],hl,_ => simp at hl
   | [_],hl,_ => simp at hl; omega
   | [_,_],hl,_ => simp at hl; omega
 obtain ⟨A,g1,g2,g3⟩ := chunk n xs h1.len h3
 exact ⟨A,by rw [g1,← g2]; exact h1,g3⟩
theorem open_twos {t e : TypeId} {base : Nat} {v : Value} {d : DataW H} {ps : List MemPlace} (ht : P.underlying t = some (.slice e)) (hk : rowOK P e [.i .i64,.i .i64] = true)
  (hval : Value.okWide P W .any base t v) (h : DataW.Trod enc P W 0 (fun _ => true) true t v d ps) : ∃ A : List (Int × Int),Sl W W.heap.size 2 v A.length (A.flatMap fun e => [.int .i64 e.1,.int .i64 e.2]) ∧ ∀ e ∈ A,(Lit.int .i64 e.1).wf = true ∧ (Lit.int .i64 e.2).wf = true := by
 obtain ⟨n,xs,h1,h2⟩ := open_rows [.i .i64,.i .i64] ht hk (by decide) hval h
 have h3 : ∀ (j : Nat) (c : Value),xs[j]? = some c → ∃ z,c = .int .i64 z ∧ (Lit.int .i64 z).wf = true := by
  intro j c hj
  obtain ⟨k,h4,h5⟩ := h2 j c hj
  have : j % 2 < 2 := Nat.mod_lt _ (by omega)
  have h6 : ∀ r,r < 2 → ([.i .i64,.i .i64] : List CK)[r]? = some (.i .i64) := by
   intro r hr
   rcases r with _ | _ | r
   ·rfl
   ·rfl
   ·omega
  have h4 : ([.i .i64,.i .i64] : List CK)[j % 2]? = some k := h4
  rw [h6 _ this] at h4; cases h4; exact h5
 have chunk : ∀ (n : Nat) (xs : List Value),xs.length = n * 2 → (∀ (j : Nat) (c : Value),xs[j]? = some c → ∃ z,c = .int .i64 z ∧ (Lit.int .i64 z).wf = true) → ∃ A : List (Int × Int),A.length = n ∧ xs = (A.flatMap fun e => [.int .i64 e.1,.int .i64 e.2]) ∧ ∀ e ∈ A,(Lit.int .i64 e.1).wf = true ∧ (Lit.int .i64 e.2).wf = true := by
  intro n
  induction n with
  | zero => intro xs hl _; exact ⟨[],rfl,by simpa using hl,by simp⟩
  | succ n ih =>
   intro xs hl hx
   match xs,hl,hx with
   | x :: y :: xs,hl,hx =>
    obtain ⟨a,rfl,ha⟩ := hx 0 x rfl
    obtain ⟨b,rfl,hb⟩ := hx 1 y rfl
    obtain ⟨A,g1,g2,g3⟩ := ih xs (by simp at hl; omega) (fun j c hj => hx (j + 2) c (by simpa using hj))
    refine ⟨(a,b) :: A,by simp [g1],by rw [g2]; simp,fun e he => ?_⟩
    rcases List.mem_cons.1 he with rfl | he
    ·exact ⟨ha,hb⟩
    ·exact g3 e he
   | [],hl,_ => simp at hl
   | [_],hl,_ => simp at hl; omega
 obtain ⟨A,g1,g2,g3⟩ := chunk n xs h1.len h3
 exact ⟨A,by rw [g1,← g2]; exact h1,g3⟩
end
end Go.Proofs.YtjfdfbpgckilpaaGreatDoor
namespace Go.Proofs.YtjfdfbpgckilpaaGreatDoor
open Go Go.LX
set_option maxRecDepth 100000
set_option linter.unusedVariables false
set_option linter.unusedSimpArgs false
set_option maxHeartbeats 32000000
inductive Meant (w : Int) : LV → Prop
 | place (x : Int) (h : w % 2 = 1) (hx : x = (w - 1) / 2) : Meant w (.iface 230 (.p (.int .i64 (.sym x))))
 | number (x : Int) (h : ¬ w % 2 = 1) (hx : x = w / 2) : Meant w (.iface 277 (.p (.int .i64 (.sym x))))
theorem and1_bv (x : Int) : IntKind.i64.wrap ((BitVec.ofInt 64 x &&& BitVec.ofInt 64 1).toNat : Int) = x % 2 := and1_i64 x
theorem meaning_lx (w : Int) (hw : -9223372036854775808 ≤ w ∧ w ≤ 9223372036854775807) : CallF (fun _ => Tryz.prog) 180 [i6 w] [] 0 (fun r h n => Meant w r ∧ h = [] ∧ n = 0) := by
 refine callF_of_body tok Tryz.func180 (by kernel_rfl) rfl rfl rfl ?_; conv => cbv
 refine Sum.mk fun u hu => ?_
 have hu : u = w % 2 := hu.trans (and1_bv w)
 conv => cbv
 refine Br.mk (fun g => ?_) (fun g => ?_)
 ·have g : u = 1 := g
  conv => cbv
  refine Fit.mk (by show (-9223372036854775808 : Int) ≤ w - 1; omega) (by show w - 1 ≤ 9223372036854775807; omega) fun v hv => ?_
  have hv : v = w - 1 := hv
  conv => cbv
  have hdv : v.tdiv 2 = (w - 1) / 2 := by rw [hv]; exact Int.tdiv_eq_ediv_of_dvd (by omega)
  refine Fit.mk (by show (-9223372036854775808 : Int) ≤ v.tdiv 2; omega) (by show v.tdiv 2 ≤ 9223372036854775807; omega) fun y hy => ?_
  have hy : y = (w - 1) / 2 := hy.trans hdv
  conv => cbv
  refine RetF.mk [.iface 230 (.p (.int .i64 (.sym y)))] [] 0 (Re.at [] []) rfl ⟨.place y (by omega) hy,rfl,rfl⟩
 ·have g : ¬ u = 1 := g
  conv => cbv
  have hdv : w.tdiv 2 = w / 2 := Int.tdiv_eq_ediv_of_dvd (by omega)
  refine Fit.mk (by show (-9223372036854775808 : Int) ≤ w.tdiv 2; omega) (by show w.tdiv 2 ≤ 9223372036854775807; omega) fun y hy => ?_
  conv => cbv
  refine RetF.mk [.iface 277 (.p (.int .i64 (.sym y)))] [] 0 (Re.at [] []) rfl ⟨.number y (by omega) (hy.trans hdv),rfl,rfl⟩
theorem isPtr_lx (w : Int) (hw : -9223372036854775808 ≤ w ∧ w ≤ 9223372036854775807) : CallF (fun _ => Tryz.prog) 122 [i6 w] [] 0 (fun r h n => ∃ b : Bool,r = .p (.bool b) ∧ h = [] ∧ n = 0 ∧ (b = true ↔ w % 2 = 1)) := by
 refine callF_of_body tok Tryz.func122 (by kernel_rfl) rfl rfl rfl ?_; conv => cbv
 refine callF_frame (meaning_lx w hw) [] rfl trivial rfl rfl (fun r h' n' hrr => ?_)
 obtain ⟨hm,e2,e3⟩ := hrr
 subst e2 e3
 cases hm with
 | place x h hx =>
  conv => cbv
  refine RetF.mk [.p (.bool true)] [] 0 (Re.at [] []) rfl ⟨true,rfl,rfl,rfl,fun _ => h,fun _ => rfl⟩
 | number x h hx =>
  conv => cbv
  refine RetF.mk [.p (.bool false)] [] 0 (Re.at [] []) rfl ⟨false,rfl,rfl,rfl,fun k => (by cases k),fun k => absurd k h⟩
theorem atV_lx (w : Int) (hw : -9223372036854775808 ≤ w ∧ w ≤ 9223372036854775807) : CallF (fun _ => Tryz.prog) 123 [i6 w] [] 0 (fun r h n => ∃ x : Int,r = .p (.int .i64 (.sym x)) ∧ h = [] ∧ n = 0 ∧ (w % 2 = 1 → x = (w - 1) / 2) ∧ (¬ w % 2 = 1 → x = -1)) := by
 refine callF_of_body tok Tryz.func123 (by kernel_rfl) rfl rfl rfl ?_; conv => cbv
 refine callF_frame (meaning_lx w hw) [] rfl trivial rfl rfl (fun r h' n' hrr => ?_)
 obtain ⟨hm,e2,e3⟩ := hrr
 subst e2 e3
 cases hm with
 | place x h hx =>
  conv => cbv
  refine RetF.mk [i6 x] [] 0 (Re.at [] []) rfl ⟨x,rfl,rfl,rfl,fun _ => hx,fun k => absurd h k⟩
 | number x h hx =>
  conv => cbv
  refine RetF.mk [i6 (-1)] [] 0 (Re.at [] []) rfl ⟨-1,rfl,rfl,rfl,fun k => absurd k h,fun _ => rfl⟩
end Go.Proofs.YtjfdfbpgckilpaaGreatDoor
namespace Go.Proofs.YtjfdfbpgckilpaaGreatDoor
open Go Go.LX
set_option maxRecDepth 100000
set_option linter.unusedVariables false
set_option linter.unusedSimpArgs false
set_option maxHeartbeats 32000000
def objs (R : List Rw) : List Int := objsTo R R.length
def K1 (R : List Rw) (ws : List Int) : Prop := ∀ a k l,Kept R ws a k l → 1 ≤ k
structure HM (R : List Rw) (ws C G : List Int) (N W : Int) (L D Q : List PV) (z : ByteArray) : Prop where
 a : AOk R ws
 k : K1 R ws
 n : N = R.length
 r : R.length ≤ 1000
 w : W = 32 * N
 l : L = rpv R
 d : D = ipv ws
 q : Q = ipv C
 c : (C.length : Int) = W
 z : z = ⟨(enc G).toArray⟩
 g : ∀ x ∈ G,0 ≤ x ∧ x < W
 g8 : G.length ≤ 8
def shade (R : List Rw) (ph a : Int) (s : List Int × List Int × Bool) : List Int × List Int × Bool :=
 if ph = 1 ∧ a ∈ objs R ∧ s.1[a.toNat]? = some 0 then (s.1.set a.toNat 1,if s.2.1.length < 8 then (s.2.1 ++ [a],s.2.2) else (s.2.1,true)) else s
theorem obj_iff {R : List Rw} {ws : List Int} (hA : AOk R ws) (a : Int) : a ∈ objs R ↔ IsObj R a := objs_mem hA.rows a
theorem obj_bd {R : List Rw} {ws : List Int} (hA : AOk R ws) {a : Int} (h : a ∈ objs R) : 0 ≤ a ∧ a < 32 * R.length := by
 obtain ⟨k,l,hk⟩ := Kept.of hA ((obj_iff hA a).1 h)
 have := hk.bounds hA
 omega
theorem HM.g64 {R : List Rw} {ws C G : List Int} {N W : Int} {L D Q : List PV} {z : ByteArray} (h : HM R ws C G N W L D Q z) : ∀ x ∈ G,i64 x := by
 intro x hx
 have h1 := h.g x hx; have h2 := h.w; have h3 := h.n; have h4 := h.r
 exact ⟨by omega,by omega⟩
theorem HM.shade {R : List Rw} {ws C G C' G' : List Int} {N W : Int} {L D Q Q' : List PV} {z z' : ByteArray} {ph a : Int} {ov ov' : Bool} (h : HM R ws C G N W L D Q z) (hs : (C',G',ov') = shade R ph a (C,G,ov)) (hQ : Q' = ipv C') (hz : z' = ⟨(enc G').toArray⟩) : HM R ws C' G' N W L D Q' z' := by
 unfold Go.Proofs.YtjfdfbpgckilpaaGreatDoor.shade at hs
 split at hs
 ·rename_i hc
  have hb := obj_bd h.a hc.2.1
  have hn := h.n; have hw := h.w
  split at hs
  ·rename_i h8
   have h8 : G.length < 8 := h8
   have hl8 : (G ++ [a]).length ≤ 8 := by rw [List.length_append]; show G.length + 1 ≤ 8; omega
   cases hs
   refine ⟨h.a,h.k,h.n,h.r,h.w,h.l,h.d,hQ,by rw [List.length_set]; exact h.c,hz,fun x hx => ?_,hl8⟩
   rcases List.mem_append.1 hx with hx | hx
   ·exact h.g x hx
   ·rw [List.mem_singleton.1 hx]; omega
  ·cases hs
   exact ⟨h.a,h.k,h.n,h.r,h.w,h.l,h.d,hQ,by rw [List.length_set]; exact h.c,hz,h.g,h.g8⟩
 ·cases hs
  exact ⟨h.a,h.k,h.n,h.r,h.w,h.l,h.d,hQ,h.c,hz,h.g,h.g8⟩
theorem ipv_set (l : List Int) (i : Nat) (x : Int) : (ipv l).set i (.int .i64 (.sym x)) = ipv (l.set i x) := by
 unfold ipv
 rw [List.map_set]
theorem arena_lx (R : List Rw) (ws C G : List Int) (N W ph sp cy : Int) (L D Q : List PV) (z : ByteArray) (ov : Bool) : CallF (fun _ => Tryz.prog) 12 [.ptr 0 (.lit 0)] [hpA 0 1 5 6 3 W ph sp cy,hpB 1 2 4 3 W,hpC 2 3 179 2 N,hpP 3 L,hpP 4 D,hpF 5 z ov,hpP 6 Q] 7 (fun r h n => r = .ptr 1 (.lit 0) ∧ h = [hpA 0 1 5 6 3 W ph sp cy,hpB 1 2 4 3 W,hpC 2 3 179 2 N,hpP 3 L,hpP 4 D,hpF 5 z ov,hpP 6 Q] ∧ n = 7) := by
 refine callF_of_body tok Tryz.func12 (by kernel_rfl) rfl rfl rfl ?_; conv => cbv
 refine RetF.mk [.ptr 1 (.lit 0)] [hpA 0 1 5 6 3 W ph sp cy,hpB 1 2 4 3 W,hpC 2 3 179 2 N,hpP 3 L,hpP 4 D,hpF 5 z ov,hpP 6 Q] 7 (Re.at [(0,0),(1,1),(2,2),(3,3),(4,4),(5,5),(6,6)] []) rfl ⟨rfl,rfl,rfl⟩
theorem arenaNil_lx : CallF (fun _ => Tryz.prog) 12 [.p .nilp] [] 0 (fun r h n => r = .p .nilp ∧ h = [] ∧ n = 0) := by
 refine callF_of_body tok Tryz.func12 (by kernel_rfl) rfl rfl rfl ?_; conv => cbv
 refine RetF.mk [.p .nilp] [] 0 (Re.at [] []) rfl ⟨rfl,rfl,rfl⟩
theorem phase_lx (R : List Rw) (ws C G : List Int) (N W ph sp cy : Int) (L D Q : List PV) (z : ByteArray) (ov : Bool) : CallF (fun _ => Tryz.prog) 19 [.ptr 0 (.lit 0)] [hpA 0 1 5 6 3 W ph sp cy,hpB 1 2 4 3 W,hpC 2 3 179 2 N,hpP 3 L,hpP 4 D,hpF 5 z ov,hpP 6 Q] 7 (fun r h n => r = .p (.int .i64 (.sym ph)) ∧ h = [hpA 0 1 5 6 3 W ph sp cy,hpB 1 2 4 3 W,hpC 2 3 179 2 N,hpP 3 L,hpP 4 D,hpF 5 z ov,hpP 6 Q] ∧ n = 7) := by
 refine callF_of_body tok Tryz.func19 (by kernel_rfl) rfl rfl rfl ?_; conv => cbv
 refine RetF.mk [i6 ph] [hpA 0 1 5 6 3 W ph sp cy,hpB 1 2 4 3 W,hpC 2 3 179 2 N,hpP 3 L,hpP 4 D,hpF 5 z ov,hpP 6 Q] 7 (Re.at [(0,0),(1,1),(2,2),(3,3),(4,4),(5,5),(6,6)] []) rfl ⟨rfl,rfl,rfl⟩
theorem phaseNil_lx : CallF (fun _ => Tryz.prog) 19 [.p .nilp] [] 0 (fun r h n => r = .p (.int .i64 (.sym 0)) ∧ h = [] ∧ n = 0) := by
 refine callF_of_body tok Tryz.func19 (by kernel_rfl) rfl rfl rfl ?_; conv => cbv
 refine RetF.mk [i6 0] [] 0 (Re.at [] []) rfl ⟨rfl,rfl,rfl⟩
theorem is_lx (R : List Rw) (ws C G : List Int) (N W ph sp cy : Int) (L D Q : List PV) (z : ByteArray) (ov : Bool) (h : HM R ws C G N W L D Q z) (a c : Int) : CallF (fun _ => Tryz.prog) 124 [.ptr 0 (.lit 0),i6 a,i6 c] [hpA 0 1 5 6 3 W ph sp cy,hpB 1 2 4 3 W,hpC 2 3 179 2 N,hpP 3 L,hpP 4 D,hpF 5 z ov,hpP 6 Q] 7 (fun r h n => ∃ b : Bool,r = .p (.bool b) ∧ h = [hpA 0 1 5 6 3 W ph sp cy,hpB 1 2 4 3 W,hpC 2 3 179 2 N,hpP 3 L,hpP 4 D,hpF 5 z ov,hpP 6 Q] ∧ n = 7 ∧ (b = true ↔ a ∈ objs R ∧ C[a.toNat]? = some c)) := by
 have hCl := h.c; have hWn := h.w; have hNr := h.n
 have hQl : Q.length = C.length := by rw [h.q,ipv_length]
 refine callF_of_body tok Tryz.func124 (by kernel_rfl) rfl rfl rfl ?_; conv => cbv
 refine cfr (arena_lx R ws C G N W ph sp cy L D Q z ov) [(0,0),(1,1),(2,2),(3,3),(4,4),(5,5),(6,6)] (fun r h' n' ⟨e1,e2,e3⟩ => ?_)
 subst e1 e2 e3
 conv => cbv
 refine cfr (kind_lx R ws N a W L D h.l h.d h.n h.r h.a h.w) [(0,1),(1,2),(2,3),(3,4)] (fun r h' n' hrr => ?_)
 obtain ⟨v,e1,e2,e3,hv⟩ := hrr
 subst e1 e2 e3
 conv => cbv
 refine Br.mk (fun g => ?_) (fun g => ?_)
 ·have g : v ≠ 0 := g
  obtain ⟨l,hk⟩ : ∃ l,Kept R ws a v l := by
   cases hv with
   | no hn => exact absurd rfl g
   | is k l hk => exact ⟨l,hk⟩
  have hb := hk.bounds h.a
  have ho : a ∈ objs R := (obj_iff h.a a).2 hk.obj6
  obtain ⟨x,hx⟩ : ∃ x,C[a.toNat]? = some x := ⟨_,List.getElem?_eq_getElem (by omega)⟩
  have hq : Q[a.toNat]? = some (.int .i64 (.sym x)) := by rw [h.q]; exact ipv_get hx
  conv => cbv
  refine Need.mk ⟨by show 0 ≤ a; omega,by show a < W; omega⟩ ?_
  conv => cbv
  refine Cell.at a _ hq (by simp [I.val]) rfl ?_
  conv => cbv
  refine Br.mk (fun g2 => ?_) (fun g2 => ?_)
  ·have g2 : x = c := g2
   conv => cbv
   refine RetF.mk [.p (.bool true)] [hpA 0 1 5 6 3 W ph sp cy,hpB 1 2 4 3 W,hpC 2 3 179 2 N,hpP 3 L,hpP 4 D,hpF 5 z ov,hpP 6 Q] 7 (Re.at [(0,0),(1,1),(2,2),(3,3),(4,4),(5,5),(6,6)] []) rfl ⟨true,rfl,rfl,rfl,fun _ => ⟨ho,by rw [hx,g2]⟩,fun _ => rfl⟩
  ·have g2 : ¬ x = c := g2
   conv => cbv
   refine RetF.mk [.p (.bool false)] [hpA 0 1 5 6 3 W ph sp cy,hpB 1 2 4 3 W,hpC 2 3 179 2 N,hpP 3 L,hpP 4 D,hpF 5 z ov,hpP 6 Q] 7 (Re.at [(0,0),(1,1),(2,2),(3,3),(4,4),(5,5),(6,6)] []) rfl ⟨false,rfl,rfl,rfl,fun k => (by cases k),fun h => absurd (Option.some.inj (hx.symm.trans h.2)) g2⟩
 ·have g : ¬ v ≠ 0 := g
  have hno : ¬ a ∈ objs R := by
   intro ho
   cases hv with
   | no hn => exact hn ((obj_iff h.a a).1 ho)
   | is k l hk => have := h.k a v l hk; omega
  conv => cbv
  refine RetF.mk [.p (.bool false)] [hpA 0 1 5 6 3 W ph sp cy,hpB 1 2 4 3 W,hpC 2 3 179 2 N,hpP 3 L,hpP 4 D,hpF 5 z ov,hpP 6 Q] 7 (Re.at [(0,0),(1,1),(2,2),(3,3),(4,4),(5,5),(6,6)] []) rfl ⟨false,rfl,rfl,rfl,fun k => (by cases k),fun h => absurd h.1 hno⟩
theorem shade_lx (R : List Rw) (ws C G : List Int) (N W ph sp cy : Int) (L D Q : List PV) (z : ByteArray) (ov : Bool) (h : HM R ws C G N W L D Q z) (o : Unit → Obj) (ho : IsPow o) (a : Int) : CallF (fun _ => Tryz.prog) 61 [.ptr 0 (.lit 0),i6 a] [hpA 0 1 5 6 3 W ph sp cy,hpB 1 2 4 3 W,hpC 2 3 179 2 N,hpP 3 L,hpP 4 D,hpF 5 z ov,hpP 6 Q,(7,.fix 0 o)] 8 (fun r h n => ∃ (C' G' : List Int) (ov' : Bool) (Q' : List PV) (z' : ByteArray),r = .tup [] ∧ h = [hpA 0 1 5 6 3 W ph sp cy,hpB 1 2 4 3 W,hpC 2 3 179 2 N,hpP 3 L,hpP 4 D,hpF 5 z' ov',hpP 6 Q',(7,.fix 0 o)] ∧ n = 8 ∧ HM R ws C' G' N W L D Q' z' ∧ (C',G',ov') = shade R ph a (C,G,ov)) := by
 have hCl := h.c; have hWn := h.w; have hNr := h.n; have hRr := h.r
 have hQl : Q.length = C.length := by rw [h.q,ipv_length]
 refine callF_of_body tok Tryz.func61 (by kernel_rfl) rfl rfl rfl ?_; conv => cbv
 refine cfr (phase_lx R ws C G N W ph sp cy L D Q z ov) [(0,0),(1,1),(2,2),(3,3),(4,4),(5,5),(6,6)] (fun r h' n' ⟨e1,e2,e3⟩ => ?_)
 subst e1 e2 e3
 conv => cbv
 refine Br.mk (fun g => ?_) (fun g => ?_)
 ·have g : ph ≠ 1 := g
  conv => cbv
  refine RetF.mk [] [hpA 0 1 5 6 3 W ph sp cy,hpB 1 2 4 3 W,hpC 2 3 179 2 N,hpP 3 L,hpP 4 D,hpF 5 z ov,hpP 6 Q,(7,.fix 0 o)] 8 (Re.at [(0,0),(1,1),(2,2),(3,3),(4,4),(5,5),(6,6),(7,7)] []) rfl ⟨C,G,ov,Q,z,rfl,rfl,rfl,h,by unfold Go.Proofs.YtjfdfbpgckilpaaGreatDoor.shade; rw [if_neg (fun k => g k.1)]⟩
 ·have g : ¬ ph ≠ 1 := g
  have g : ph = 1 := by omega
  conv => cbv
  refine CallF.le (args0 := [.ptr 0 (.lit 0),i6 a,i6 0]) (cfr (is_lx R ws C G N W ph sp cy L D Q z ov h a 0) [(0,0),(1,1),(2,2),(3,3),(4,4),(5,5),(6,6)] (fun r h' n' hrr => ?_)) (by simp [ales,ale,pvle,I.val])
  obtain ⟨b,e1,e2,e3,hb⟩ := hrr
  subst e1 e2 e3
  cases b with
  | false =>
   conv => cbv
   refine RetF.mk [] [hpA 0 1 5 6 3 W ph sp cy,hpB 1 2 4 3 W,hpC 2 3 179 2 N,hpP 3 L,hpP 4 D,hpF 5 z ov,hpP 6 Q,(7,.fix 0 o)] 8 (Re.at [(0,0),(1,1),(2,2),(3,3),(4,4),(5,5),(6,6),(7,7)] []) rfl ⟨C,G,ov,Q,z,rfl,rfl,rfl,h,by unfold Go.Proofs.YtjfdfbpgckilpaaGreatDoor.shade; rw [if_neg (fun k => by have := hb.2 k.2; cases this)]⟩
  | true =>
   have hbd := obj_bd h.a (hb.1 rfl).1
   conv => cbv
   refine Need.mk ⟨by show 0 ≤ a; omega,by show a < W; omega⟩ ?_
   conv => cbv
   refine Need.mk (by show a + 1 ≤ (Q.length : Int); omega) ?_
   conv => cbv
   refine Upd.mk fun Q2 hQ2 => ?_
   obtain ⟨Q3,hQ3⟩ : ∃ Q3,Q3 = ipv (C.set a.toNat 1) := ⟨_,rfl⟩
   have hle : pvles Q2 Q3 := by
    have hQ2 : Q2 = Q.set a.toNat (.int .i64 (.lit 1)) := hQ2
    rw [hQ2,hQ3,h.q,← ipv_set]
    exact pvles_set _ _ _ _ _ (pvles_refl _) (by simp [pvle,I.val])
   unfold pvles at hle
   clear hQ2
   conv => cbv
   refine cfr (greyPush_lx G a z ov o ho h.z h.g64 h.g8 ⟨by omega,by omega⟩) [(0,7),(1,5)] (fun r h' n' hrr => ?_)
   obtain ⟨b2,ov',z',G',e1,e2,e3,hz',hp1,hp2⟩ := hrr
   subst e1 e2 e3
   have hsh : (C.set a.toNat 1,G',ov') = Go.Proofs.YtjfdfbpgckilpaaGreatDoor.shade R ph a (C,G,ov) := by
    unfold Go.Proofs.YtjfdfbpgckilpaaGreatDoor.shade
    rw [if_pos ⟨g,hb.1 rfl⟩]
    dsimp only
    split
    ·obtain ⟨_,q1,q2⟩ := hp1 (by assumption)
     rw [q1,q2]
    ·obtain ⟨_,q1,q2⟩ := hp2 (by omega)
     rw [q1,q2]
   conv => cbv
   refine RetF.mk [] [hpA 0 1 5 6 3 W ph sp cy,hpB 1 2 4 3 W,hpC 2 3 179 2 N,hpP 3 L,hpP 4 D,hpF 5 z' ov',hpP 6 Q3,(7,.fix 0 o)] 8 (Re.at [(0,0),(1,1),(2,2),(3,3),(4,4),(5,5),(6,6),(7,7)] []) rfl ⟨_,G',ov',Q3,z',rfl,rfl,rfl,h.shade hsh hQ3 hz',hsh⟩
def shadeW (R : List Rw) (ph w : Int) (s : List Int × List Int × Bool) : List Int × List Int × Bool := if w % 2 = 1 then shade R ph ((w - 1) / 2) s else s
theorem shadeWord_lx (R : List Rw) (ws C G : List Int) (N W ph sp cy : Int) (L D Q : List PV) (z : ByteArray) (ov : Bool) (h : HM R ws C G N W L D Q z) (o : Unit → Obj) (ho : IsPow o) (w : Int) (hw : -9223372036854775808 ≤ w ∧ w ≤ 9223372036854775807) : CallF (fun _ => Tryz.prog) 60 [.ptr 0 (.lit 0),i6 w] [hpA 0 1 5 6 3 W ph sp cy,hpB 1 2 4 3 W,hpC 2 3 179 2 N,hpP 3 L,hpP 4 D,hpF 5 z ov,hpP 6 Q,(7,.fix 0 o)] 8 (fun r h n => ∃ (C' G' : List Int) (ov' : Bool) (Q' : List PV) (z' : ByteArray),r = .tup [] ∧ h = [hpA 0 1 5 6 3 W ph sp cy,hpB 1 2 4 3 W,hpC 2 3 179 2 N,hpP 3 L,hpP 4 D,hpF 5 z' ov',hpP 6 Q',(7,.fix 0 o)] ∧ n = 8 ∧ HM R ws C' G' N W L D Q' z' ∧ (C',G',ov') = shadeW R ph w (C,G,ov)) := by
 refine callF_of_body tok Tryz.func60 (by kernel_rfl) rfl rfl rfl ?_; conv => cbv
 refine callF_frame (isPtr_lx w hw) [] rfl trivial rfl rfl (fun r h' n' hrr => ?_)
 obtain ⟨b,e1,e2,e3,hb⟩ := hrr
 subst e1 e2 e3
 cases b with
 | false =>
  have hb : ¬ w % 2 = 1 := fun k => by have := hb.2 k; cases this
  conv => cbv
  refine RetF.mk [] [hpA 0 1 5 6 3 W ph sp cy,hpB 1 2 4 3 W,hpC 2 3 179 2 N,hpP 3 L,hpP 4 D,hpF 5 z ov,hpP 6 Q,(7,.fix 0 o)] 8 (Re.at [(0,0),(1,1),(2,2),(3,3),(4,4),(5,5),(6,6),(7,7)] []) rfl ⟨C,G,ov,Q,z,rfl,rfl,rfl,h,by unfold shadeW; rw [if_neg (by omega)]⟩
 | true =>
  have hb : w % 2 = 1 := hb.1 rfl
  conv => cbv
  refine callF_frame (atV_lx w hw) [] rfl trivial rfl rfl (fun r h' n' hrr => ?_)
  obtain ⟨x,e1,e2,e3,hx⟩ := hrr
  subst e1 e2 e3
  have hx : x = (w - 1) / 2 := hx.1 hb
  conv => cbv
  refine cfr (shade_lx R ws C G N W ph sp cy L D Q z ov h o ho x) [(0,0),(1,1),(2,2),(3,3),(4,4),(5,5),(6,6),(7,7)] (fun r h' n' hrr => ?_)
  obtain ⟨C',G',ov',Q',z',e1,e2,e3,h2,hs⟩ := hrr
  subst e1 e2 e3
  conv => cbv
  refine RetF.mk [] [hpA 0 1 5 6 3 W ph sp cy,hpB 1 2 4 3 W,hpC 2 3 179 2 N,hpP 3 L,hpP 4 D,hpF 5 z' ov',hpP 6 Q',(7,.fix 0 o)] 8 (Re.at [(0,0),(1,1),(2,2),(3,3),(4,4),(5,5),(6,6),(7,7)] []) rfl ⟨C',G',ov',Q',z',rfl,rfl,rfl,h2,by unfold shadeW; rw [if_pos hb,← hx]; exact hs⟩
end Go.Proofs.YtjfdfbpgckilpaaGreatDoor
namespace Go.Proofs.YtjfdfbpgckilpaaGreatDoor
open Go Go.LX
set_option maxRecDepth 100000
set_option linter.unusedVariables false
set_option linter.unusedSimpArgs false
set_option maxHeartbeats 32000000
def Wrds (R : List Rw) (ws : List Int) (a : Int) (X : List Int) : Prop := LenR R ws a X.length ∧ ∀ (i : Nat) (x : Int),X[i]? = some x → Loaded R ws a i x 0
theorem Kept.det9 {R : List Rw} {ws : List Int} {a k l k' l' : Int} (h : Kept R ws a k l) (h' : Kept R ws a k' l') : k = k' ∧ l = l' := by
 obtain ⟨w,_,h1,h2,h3,h4,h5⟩ := h
 obtain ⟨w',_,k1,k2,k3,k4,k5⟩ := h'
 rw [h1] at k1
 have := Option.some.inj k1
 omega
theorem wrds_ex {R : List Rw} {ws : List Int} {a l : Int} (hA : AOk R ws) (h : LenR R ws a l) : ∃ X,Wrds R ws a X ∧ l = X.length ∧ X.length ≤ 31 := by
 cases h with
 | no hn => exact ⟨[],⟨.no hn,fun i x hx => by simp at hx⟩,rfl,by simp⟩
 | is k l hk =>
  have hb := hk.bounds hA
  have hlen := hA.len
  refine ⟨(ws.drop (a + 1).toNat).take l.toNat,⟨?_,fun i x hx => ?_⟩,?_,?_⟩
  ·have : (((ws.drop (a + 1).toNat).take l.toNat).length : Int) = l := by rw [List.length_take,List.length_drop]; omega
   rw [this]; exact .is k l hk
  ·rw [List.getElem?_take] at hx
   split at hx
   ·rw [List.getElem?_drop] at hx
    refine .ok k l x hk ⟨by omega,by omega⟩ ?_
    rw [show (a + 1 + (i : Int)).toNat = (a + 1).toNat + i by omega]; exact hx
   ·cases hx
  ·rw [List.length_take,List.length_drop]; omega
  ·rw [List.length_take]; omega
theorem loaded_det {R : List Rw} {ws : List Int} {a i x e y f : Int} (h : Loaded R ws a i x e) (h' : Loaded R ws a i y f) : x = y ∧ e = f := by
 cases h with
 | none hn => cases h' with
  | none _ => exact ⟨rfl,rfl⟩
  | arg k l hk _ => exact absurd hk.obj6 hn
  | ok k l x hk _ _ => exact absurd hk.obj6 hn
 | arg k l hk hi => cases h' with
  | none hn => exact absurd hk.obj6 hn
  | arg _ _ _ _ => exact ⟨rfl,rfl⟩
  | ok k' l' x hk' hi' _ => obtain ⟨_,rfl⟩ := hk.det9 hk'; exact absurd hi' hi
 | ok k l x hk hi hx => cases h' with
  | none hn => exact absurd hk.obj6 hn
  | arg k' l' hk' hi' => obtain ⟨_,rfl⟩ := hk.det9 hk'; exact absurd hi hi'
  | ok k' l' y hk' hi' hy => rw [hx] at hy; exact ⟨Option.some.inj hy,rfl⟩
theorem Wrds.bd {R : List Rw} {ws X : List Int} {a : Int} (hA : AOk R ws) (h : Wrds R ws a X) : ∀ x ∈ X,-9223372036854775808 ≤ x ∧ x ≤ 9223372036854775807 := by
 intro x hx
 obtain ⟨i,hi⟩ := List.getElem?_of_mem hx
 cases h.2 i x hi with
 | ok k l _ hk hi hx => exact hA.bd x (List.mem_of_getElem? hx)
theorem wordsH_lx (R : List Rw) (ws C G : List Int) (N W ph sp cy : Int) (L D Q : List PV) (z : ByteArray) (ov : Bool) (h : HM R ws C G N W L D Q z) (a : Int) : CallF (fun _ => Tryz.prog) 130 [.ptr 0 (.lit 0),i6 a] [hpA 0 1 5 6 3 W ph sp cy,hpB 1 2 4 3 W,hpC 2 3 179 2 N,hpP 3 L,hpP 4 D,hpF 5 z ov,hpP 6 Q] 7 (fun r h n => ∃ (X : List Int) (m : Int) (O : List PV),r = .sl 7 3 1 (.lit 0) (.sym m) ∧ h = [hpA 0 1 5 6 3 W ph sp cy,hpB 1 2 4 3 W,hpC 2 3 179 2 N,hpP 3 L,hpP 4 D,hpF 5 z ov,hpP 6 Q,hpP 7 O] ∧ n = 8 ∧ O = ipv X ∧ m = X.length ∧ Wrds R ws a X) := by
 refine callF_of_body tok Tryz.func130 (by kernel_rfl) rfl rfl rfl ?_; conv => cbv
 refine cfr (len_lx R ws N a W L D h.l h.d h.n h.r h.a h.w) [(0,1),(1,2),(2,3),(3,4)] (fun r h' n' hrr => ?_)
 obtain ⟨v,e1,e2,e3,hv⟩ := hrr
 subst e1 e2 e3
 conv => cbv
 obtain ⟨X,hX,hvX,hX31⟩ := wrds_ex h.a hv
 refine LoopF.mk (fun k s => ∃ (i : Int) (O : List PV),s = ⟨.ptr 0 (.lit 0) :: .p (.int .i64 (.sym a)) :: (undefs 3 ++ .sl 7 3 1 (.lit 0) (.sym i) :: (undefs 8 ++ .p (.int .i64 (.sym v)) :: .p (.int .i64 (.sym i)) :: undefs 18)),[hpA 0 1 5 6 3 W ph sp cy,hpB 1 2 4 3 W,hpC 2 3 179 2 N,hpP 3 L,hpP 4 D,hpF 5 z ov,hpP 6 Q,hpP 7 O],8⟩ ∧ 0 ≤ i ∧ i ≤ v ∧ O = ipv (X.take i.toNat) ∧ k = (v - i).toNat) v.toNat _
  (Re.at [(0,0),(1,1),(2,2),(3,3),(4,4),(5,5),(6,6)] [7]) ⟨0,[],rfl,by omega,by omega,by simp [ipv],by omega⟩ ?_
 rintro k s ⟨i,O,rfl,hi0,hi1,hO,hk⟩
 have hOl : (O.length : Int) = i := by rw [hO,ipv_length,List.length_take]; omega
 conv => cbv
 refine Br.mk (fun gi => ?_) (fun gi => ?_)
 ·have gi : i < v := gi
  obtain ⟨k',rfl⟩ : ∃ k',k = k' + 1 := ⟨k - 1,by omega⟩
  obtain ⟨x0,hx0⟩ : ∃ x0,X[i.toNat]? = some x0 := ⟨_,List.getElem?_eq_getElem (by omega)⟩
  have hld := hX.2 _ _ hx0
  rw [show ((i.toNat : Nat) : Int) = i by omega] at hld
  conv => cbv
  refine cfr (load_lx i R ws N a W L D h.l h.d h.n h.r h.a h.w) [(0,1),(1,2),(2,3),(3,4)] (fun r h' n' hrr => ?_)
  obtain ⟨x,e,e1,e2,e3,hx⟩ := hrr
  subst e1 e2 e3
  obtain ⟨rfl,rfl⟩ := loaded_det hx hld
  conv => cbv
  refine Room.new rfl ?_
  conv => cbv
  refine Room.new ⟨?_,?_,?_⟩ ?_
  ·show (O.length : Int) = i * 1; omega
  ·show (i + 1) * 8 ≤ 140737488355328; omega
  ·show i + 1 ≤ 9223372036854775807; omega
  conv => cbv
  refine Upd.mk fun O3 hO3 => ?_
  have hO3 : O3 = O ++ [.int .i64 (.sym x)] := hO3
  have hO3 : O3 = ipv (X.take (i.toNat + 1)) := by
   rw [hO3,hO,List.take_add_one,hx0]
   simp [ipv]
  conv => cbv
  refine Sum.mk fun j2 hj2 => ?_
  have hj2 : j2 = i + 1 := hj2
  conv => cbv
  refine Fit.mk (by show (-9223372036854775808 : Int) ≤ i + 1; omega) (by show i + 1 ≤ 9223372036854775807; omega) fun i2 hi2 => ?_
  have hi2 : i2 = i + 1 := hi2
  obtain rfl : j2 = i2 := by omega
  have htt : j2.toNat = i.toNat + 1 := by omega
  rw [← htt] at hO3
  conv => cbv
  refine Again.mk k' _ (Nat.lt_succ_self _) (Re.at [(0,0),(1,1),(2,2),(3,3),(4,4),(5,5),(6,6),(9,7)] []) ⟨j2,O3,rfl,by omega,by omega,hO3,by omega⟩
 ·have gi : ¬ i < v := gi
  obtain rfl : i = v := by omega
  have hOX : O = ipv X := by rw [hO,List.take_of_length_le (by omega)]
  conv => cbv
  refine RetF.mk [.sl 7 3 1 (.lit 0) (.sym i)] [hpA 0 1 5 6 3 W ph sp cy,hpB 1 2 4 3 W,hpC 2 3 179 2 N,hpP 3 L,hpP 4 D,hpF 5 z ov,hpP 6 Q,hpP 7 O] 8 (Re.at [(0,0),(1,1),(2,2),(3,3),(4,4),(5,5),(6,6),(7,7)] []) rfl ⟨X,i,O,rfl,rfl,rfl,hOX,hvX,hX⟩
theorem load9_lx (R : List Rw) (ws C G : List Int) (N W ph sp cy : Int) (L D Q : List PV) (z : ByteArray) (ov : Bool) (h : HM R ws C G N W L D Q z) (a i : Int) : CallF (fun _ => Tryz.prog) 77 [.ptr 0 (.lit 0),i6 a,i6 i] [hpA 0 1 5 6 3 W ph sp cy,hpB 1 2 4 3 W,hpC 2 3 179 2 N,hpP 3 L,hpP 4 D,hpF 5 z ov,hpP 6 Q] 7 (fun r h n => ∃ x e : Int,r = .tup [i6 x,i6 e] ∧ h = [hpA 0 1 5 6 3 W ph sp cy,hpB 1 2 4 3 W,hpC 2 3 179 2 N,hpP 3 L,hpP 4 D,hpF 5 z ov,hpP 6 Q] ∧ n = 7 ∧ Loaded R ws a i x e) := by
 refine callF_of_body tok Tryz.func77 (by kernel_rfl) rfl rfl rfl ?_; conv => cbv
 refine cfr (arena_lx R ws C G N W ph sp cy L D Q z ov) [(0,0),(1,1),(2,2),(3,3),(4,4),(5,5),(6,6)] (fun r h' n' ⟨e1,e2,e3⟩ => ?_)
 subst e1 e2 e3
 conv => cbv
 refine cfr (load_lx i R ws N a W L D h.l h.d h.n h.r h.a h.w) [(0,1),(1,2),(2,3),(3,4)] (fun r h' n' hrr => ?_)
 obtain ⟨x,e,e1,e2,e3,hx⟩ := hrr
 subst e1 e2 e3
 conv => cbv
 refine RetF.mk [i6 x,i6 e] [hpA 0 1 5 6 3 W ph sp cy,hpB 1 2 4 3 W,hpC 2 3 179 2 N,hpP 3 L,hpP 4 D,hpF 5 z ov,hpP 6 Q] 7 (Re.at [(0,0),(1,1),(2,2),(3,3),(4,4),(5,5),(6,6)] []) rfl ⟨x,e,rfl,rfl,rfl,hx⟩
theorem loadNil9_lx (a i : I) : CallF (fun _ => Tryz.prog) 77 [.p .nilp,.p (.int .i64 a),.p (.int .i64 i)] [] 0 (fun r h n => r = .tup [i6 0,i6 2] ∧ h = [] ∧ n = 0) := by
 refine callF_of_body tok Tryz.func77 (by kernel_rfl) rfl rfl rfl ?_; conv => cbv
 refine callF_frame arenaNil_lx [] rfl trivial rfl rfl (fun r h' n' ⟨e1,e2,e3⟩ => ?_)
 subst e1 e2 e3
 conv => cbv
 refine callF_frame (loadA_nil a i) [] rfl trivial rfl rfl (fun r h' n' ⟨e1,e2,e3⟩ => ?_)
 subst e1 e2 e3
 conv => cbv
 refine RetF.mk [i6 0,i6 2] [] 0 (Re.at [] []) rfl ⟨rfl,rfl,rfl⟩
theorem colour_lx (R : List Rw) (ws C G : List Int) (N W ph sp cy : Int) (L D Q : List PV) (z : ByteArray) (ov : Bool) (h : HM R ws C G N W L D Q z) (a : Int) : CallF (fun _ => Tryz.prog) 57 [.ptr 0 (.lit 0),i6 a] [hpA 0 1 5 6 3 W ph sp cy,hpB 1 2 4 3 W,hpC 2 3 179 2 N,hpP 3 L,hpP 4 D,hpF 5 z ov,hpP 6 Q] 7 (fun r h n => ∃ c : Int,r = .p (.int .i64 (.sym c)) ∧ h = [hpA 0 1 5 6 3 W ph sp cy,hpB 1 2 4 3 W,hpC 2 3 179 2 N,hpP 3 L,hpP 4 D,hpF 5 z ov,hpP 6 Q] ∧ n = 7 ∧ (a ∈ objs R → C[a.toNat]? = some c) ∧ (¬ a ∈ objs R → c = 0)) := by
 have hCl := h.c; have hWn := h.w; have hNr := h.n
 have hQl : Q.length = C.length := by rw [h.q,ipv_length]
 refine callF_of_body tok Tryz.func57 (by kernel_rfl) rfl rfl rfl ?_; conv => cbv
 refine cfr (arena_lx R ws C G N W ph sp cy L D Q z ov) [(0,0),(1,1),(2,2),(3,3),(4,4),(5,5),(6,6)] (fun r h' n' ⟨e1,e2,e3⟩ => ?_)
 subst e1 e2 e3
 conv => cbv
 refine cfr (kind_lx R ws N a W L D h.l h.d h.n h.r h.a h.w) [(0,1),(1,2),(2,3),(3,4)] (fun r h' n' hrr => ?_)
 obtain ⟨v,e1,e2,e3,hv⟩ := hrr
 subst e1 e2 e3
 conv => cbv
 refine Br.mk (fun g => ?_) (fun g => ?_)
 ·have g : v = 0 := g
  have hno : ¬ a ∈ objs R := by
   intro ho
   cases hv with
   | no hn => exact hn ((obj_iff h.a a).1 ho)
   | is k l hk => have := h.k a v l hk; omega
  conv => cbv
  refine RetF.mk [i6 0] [hpA 0 1 5 6 3 W ph sp cy,hpB 1 2 4 3 W,hpC 2 3 179 2 N,hpP 3 L,hpP 4 D,hpF 5 z ov,hpP 6 Q] 7 (Re.at [(0,0),(1,1),(2,2),(3,3),(4,4),(5,5),(6,6)] []) rfl ⟨0,rfl,rfl,rfl,fun k => absurd k hno,fun _ => rfl⟩
 ·have g : ¬ v = 0 := g
  obtain ⟨l,hk⟩ : ∃ l,Kept R ws a v l := by
   cases hv with
   | no hn => exact absurd rfl g
   | is k l hk => exact ⟨l,hk⟩
  have hb := hk.bounds h.a
  have ho : a ∈ objs R := (obj_iff h.a a).2 hk.obj6
  obtain ⟨x,hx⟩ : ∃ x,C[a.toNat]? = some x := ⟨_,List.getElem?_eq_getElem (by omega)⟩
  have hq : Q[a.toNat]? = some (.int .i64 (.sym x)) := by rw [h.q]; exact ipv_get hx
  conv => cbv
  refine Need.mk ⟨by show 0 ≤ a; omega,by show a < W; omega⟩ ?_
  conv => cbv
  refine Cell.at a _ hq (by simp [I.val]) rfl ?_
  conv => cbv
  refine RetF.mk [i6 x] [hpA 0 1 5 6 3 W ph sp cy,hpB 1 2 4 3 W,hpC 2 3 179 2 N,hpP 3 L,hpP 4 D,hpF 5 z ov,hpP 6 Q] 7 (Re.at [(0,0),(1,1),(2,2),(3,3),(4,4),(5,5),(6,6)] []) rfl ⟨x,rfl,rfl,rfl,fun _ => hx,fun k => absurd ho k⟩
theorem colourNil_lx (a : I) : CallF (fun _ => Tryz.prog) 57 [.p .nilp,.p (.int .i64 a)] [] 0 (fun r h n => r = .p (.int .i64 (.sym 0)) ∧ h = [] ∧ n = 0) := by
 refine callF_of_body tok Tryz.func57 (by kernel_rfl) rfl rfl rfl ?_; conv => cbv
 refine callF_frame arenaNil_lx [] rfl trivial rfl rfl (fun r h' n' ⟨e1,e2,e3⟩ => ?_)
 subst e1 e2 e3
 conv => cbv
 refine callF_frame (kind_nil a) [] rfl trivial rfl rfl (fun r h' n' ⟨e1,e2,e3⟩ => ?_)
 subst e1 e2 e3
 conv => cbv
 refine Br.mk (fun g => ?_) (fun g => ?_)
 case refine_2 =>
  have g : ¬ (0 : Int) = 0 := g
  exfalso
  exact g rfl
 conv => cbv
 refine RetF.mk [i6 0] [] 0 (Re.at [] []) rfl ⟨rfl,rfl,rfl⟩
def storeS (R : List Rw) (ph e x : Int) (s : List Int × List Int × Bool) : List Int × List Int × Bool := if e = 0 then shadeW R ph x s else s
theorem K1.stored {R : List Rw} {ws ws' : List Int} {a i x e : Int} (hA : AOk R ws) (hk : K1 R ws) (h : Stored R ws a i x e ws') : K1 R ws' := by
 cases h with
 | none _ => exact hk
 | arg _ _ _ _ => exact hk
 | ok k l hka hi =>
  intro b k' l' hb
  have hbn := hka.bounds hA
  obtain ⟨w,q1,q2,q3,q4,q5,q6⟩ := hb
  have hne : (a + 1 + i).toNat ≠ b.toNat := by
   obtain ⟨wa,p1,p2,p3,p4,p5,p6⟩ := hka
   have := within_not hA.rows p1 q1 (j := a + 1 + i) (by omega) (by omega)
   have := q1.facts hA.rows
   omega
  rw [List.getElem?_set_ne hne] at q2
  exact hk b k' l' (.mk k' l' w q1 q2 q3 q4 q5 q6)
theorem HM.stored {R : List Rw} {ws ws' C G : List Int} {N W : Int} {L D D' Q : List PV} {z : ByteArray} {a i x e : Int} (h : HM R ws C G N W L D Q z) (hx : -9223372036854775808 ≤ x ∧ x ≤ 9223372036854775807) (hs : Stored R ws a i x e ws') (hD : D' = ipv ws') : HM R ws' C G N W L D' Q z :=
 ⟨h.a.stored hx hs,h.k.stored h.a hs,h.n,h.r,h.w,h.l,hD,h.q,h.c,h.z,h.g,h.g8⟩
theorem store9_lx (R : List Rw) (ws C G : List Int) (N W ph sp cy : Int) (L D Q : List PV) (z : ByteArray) (ov : Bool) (h : HM R ws C G N W L D Q z) (o : Unit → Obj) (ho : IsPow o) (a i x : Int) (hx : -9223372036854775808 ≤ x ∧ x ≤ 9223372036854775807) : CallF (fun _ => Tryz.prog) 14 [.ptr 0 (.lit 0),i6 a,i6 i,i6 x] [hpA 0 1 5 6 3 W ph sp cy,hpB 1 2 4 3 W,hpC 2 3 179 2 N,hpP 3 L,hpP 4 D,hpF 5 z ov,hpP 6 Q,(7,.fix 0 o)] 8 (fun r h n => ∃ (e : Int) (ws' C' G' : List Int) (ov' : Bool) (D' Q' : List PV) (z' : ByteArray),r = .p (.int .i64 (.sym e)) ∧ h = [hpA 0 1 5 6 3 W ph sp cy,hpB 1 2 4 3 W,hpC 2 3 179 2 N,hpP 3 L,hpP 4 D',hpF 5 z' ov',hpP 6 Q',(7,.fix 0 o)] ∧ n = 8 ∧ HM R ws' C' G' N W L D' Q' z' ∧ Stored R ws a i x e ws' ∧ (C',G',ov') = storeS R ph e x (C,G,ov)) := by
 refine callF_of_body tok Tryz.func14 (by kernel_rfl) rfl rfl rfl ?_; conv => cbv
 refine cfr (arena_lx R ws C G N W ph sp cy L D Q z ov) [(0,0),(1,1),(2,2),(3,3),(4,4),(5,5),(6,6)] (fun r h' n' ⟨e1,e2,e3⟩ => ?_)
 subst e1 e2 e3
 conv => cbv
 refine cfr (store_lx i x R ws N a W L D h.l h.d h.n h.r h.a h.w) [(0,1),(1,2),(2,3),(3,4)] (fun r h' n' hrr => ?_)
 obtain ⟨e,ws',D',e1,e2,e3,hD',hT⟩ := hrr
 subst e1 e2 e3
 conv => cbv
 have h2 := h.stored hx hT hD'
 refine Br.mk (fun g => ?_) (fun g => ?_)
 ·have g : e = 0 := g
  conv => cbv
  refine cfr (shadeWord_lx R ws' C G N W ph sp cy L D' Q z ov h2 o ho x hx) [(0,0),(1,1),(2,2),(3,3),(4,4),(5,5),(6,6),(7,7)] (fun r h' n' hrr => ?_)
  obtain ⟨C',G',ov',Q',z',e1,e2,e3,h3,hs⟩ := hrr
  subst e1 e2 e3
  conv => cbv
  refine RetF.mk [i6 e] [hpA 0 1 5 6 3 W ph sp cy,hpB 1 2 4 3 W,hpC 2 3 179 2 N,hpP 3 L,hpP 4 D',hpF 5 z' ov',hpP 6 Q',(7,.fix 0 o)] 8 (Re.at [(0,0),(1,1),(2,2),(3,3),(4,4),(5,5),(6,6),(7,7)] []) rfl ⟨e,ws',C',G',ov',D',Q',z',rfl,rfl,rfl,h3,hT,by unfold storeS; rw [if_pos g]; exact hs⟩
 ·have g : ¬ e = 0 := g
  conv => cbv
  refine RetF.mk [i6 e] [hpA 0 1 5 6 3 W ph sp cy,hpB 1 2 4 3 W,hpC 2 3 179 2 N,hpP 3 L,hpP 4 D',hpF 5 z ov,hpP 6 Q,(7,.fix 0 o)] 8 (Re.at [(0,0),(1,1),(2,2),(3,3),(4,4),(5,5),(6,6),(7,7)] []) rfl ⟨e,ws',C,G,ov,D',Q,z,rfl,rfl,rfl,h2,hT,by unfold storeS; rw [if_neg g]⟩
theorem storeNil9_lx (a i x : I) : CallF (fun _ => Tryz.prog) 14 [.p .nilp,.p (.int .i64 a),.p (.int .i64 i),.p (.int .i64 x)] [] 0 (fun r h n => r = .p (.int .i64 (.sym 2)) ∧ h = [] ∧ n = 0) := by
 refine callF_of_body tok Tryz.func14 (by kernel_rfl) rfl rfl rfl ?_; conv => cbv
 refine callF_frame arenaNil_lx [] rfl trivial rfl rfl (fun r h' n' ⟨e1,e2,e3⟩ => ?_)
 subst e1 e2 e3
 conv => cbv
 refine callF_frame (storeA_nil a i x) [] rfl trivial rfl rfl (fun r h' n' ⟨e1,e2,e3⟩ => ?_)
 subst e1 e2 e3
 conv => cbv
 refine Br.mk (fun g => ?_) (fun g => ?_)
 case refine_1 =>
  have g : (2 : Int) = 0 := g
  exfalso
  omega
 conv => cbv
 refine RetF.mk [i6 2] [] 0 (Re.at [] []) rfl ⟨rfl,rfl,rfl⟩
end Go.Proofs.YtjfdfbpgckilpaaGreatDoor
namespace Go.Proofs.YtjfdfbpgckilpaaGreatDoor
open Go Go.LX
set_option maxRecDepth 100000
set_option linter.unusedVariables false
set_option linter.unusedSimpArgs false
set_option maxHeartbeats 32000000
theorem alloct_gen9 {R R' : List Rw} {ws ws' : List Int} {kind n a e : Int} (hA : AOk R ws) (h : Alloct R ws kind n a e R' ws') :
  (e ≠ 0 ∧ a = 0 ∧ R' = R ∧ ws' = ws) ∨ (e = 0 ∧ (0 ≤ n ∧ n ≤ 31 ∧ 1 ≤ kind ∧ kind ≤ 6) ∧ Kept R' ws' a kind n ∧ (∀ b k l,Kept R ws b k l → Kept R' ws' b k l ∧ b ≠ a ∧ ∀ i,0 ≤ i → i < l → ws'[(b + 1 + i).toNat]? = ws[(b + 1 + i).toNat]?) ∧ (∀ b,IsObj R' b → b = a ∨ IsObj R b)) := by
 have hA1 := (hA.alloct h).1
 cases h with
 | arg h => exact .inl ⟨by decide,rfl,rfl,rfl⟩
 | room i s R' hc ha =>
  obtain ⟨rfl,_⟩ := full_count hA.rows (ofN_slots n) ha
  exact .inl ⟨by decide,rfl,rfl,rfl⟩
 | ok i s _ R' hc ha hi hat =>
  right
  obtain ⟨w,hw⟩ : ∃ w,w = wordsOf (ofN n) := ⟨_,rfl⟩
  obtain ⟨q1,q2,q3,q4,q5⟩ := alloc_objs hA.rows ha a w hat hw
  have hobj : ObjAt R' a w := (q5 _ _).2 (.inr ⟨rfl,rfl⟩)
  obtain ⟨f1,f2,f3,_⟩ := hobj.facts q1
  have hnw : n < w := by rw [hw]; exact (ofN_words ⟨hc.1,hc.2.1⟩).1
  have hlw := hA.len
  have gw : ∀ j : Nat,j < ws.length → (zer (ws.set a.toNat (kind + 16 * n)) (a.toNat + 1) n.toNat)[j]? = if a.toNat + 1 ≤ j ∧ j < a.toNat + 1 + n.toNat then some 0 else (ws.set a.toNat (kind + 16 * n))[j]? := fun j hj => zer_get _ _ _ _ (by rw [List.length_set]; exact hj)
  have farw : ∀ j : Nat,(j : Int) < a ∨ a + w ≤ j → (zer (ws.set a.toNat (kind + 16 * n)) (a.toNat + 1) n.toNat)[j]? = ws[j]? := fun j hj => by
   by_cases hjl : j < ws.length
   ·rw [gw j hjl,if_neg (by omega),List.getElem?_set_ne (by omega)]
   ·rw [List.getElem?_eq_none (by rw [zer_length,List.length_set]; omega),List.getElem?_eq_none (by omega)]
  obtain ⟨p1,p2,p3,p4⟩ := alloc_gen hA hc ha hat hw (by rw [zer_length,List.length_set]) (by rw [gw _ (by omega),if_neg (by omega),List.getElem?_set_self (by omega)]) farw hA1.bd
  exact ⟨rfl,hc,p2,p3,p4⟩
theorem K1.alloct {R R' : List Rw} {ws ws' : List Int} {kind n a e : Int} (hA : AOk R ws) (hk : K1 R ws) (h : Alloct R ws kind n a e R' ws') : K1 R' ws' := by
 rcases alloct_gen9 hA h with ⟨_,_,rfl,rfl⟩ | ⟨_,hc,h1,h2,h3⟩
 ·exact hk
 ·intro b k l hb
  rcases h3 b hb.obj6 with rfl | ho
  ·obtain ⟨rfl,_⟩ := h1.det9 hb; omega
  ·obtain ⟨k',l',hk'⟩ := Kept.of hA ho
   obtain ⟨rfl,_⟩ := (h2 b k' l' hk').1.det9 hb
   exact hk b k' l' hk'
theorem HM.alloct {R R' : List Rw} {ws ws' C C' G : List Int} {N W : Int} {L L' D D' Q Q' : List PV} {z : ByteArray} {kind n a e : Int} (h : HM R ws C G N W L D Q z) (hs : Alloct R ws kind n a e R' ws') (hL : L' = rpv R') (hD : D' = ipv ws') (hC : C'.length = C.length) (hQ : Q' = ipv C') : HM R' ws' C' G N W L' D' Q' z := by
 obtain ⟨h1,h2⟩ := h.a.alloct hs
 exact ⟨h1,h.k.alloct h.a hs,by rw [h2]; exact h.n,by rw [h2]; exact h.r,h.w,hL,hD,hQ,by rw [hC]; exact h.c,h.z,h.g,h.g8⟩
def allocC (ph a e : Int) (C : List Int) : List Int := if e = 0 then C.set a.toNat (if ph = 0 then 0 else 2) else C
theorem allocC_length (ph a e : Int) (C : List Int) : (allocC ph a e C).length = C.length := by
 unfold allocC; split
 ·rw [List.length_set]
 ·rfl
theorem alloc9_lx (R : List Rw) (ws C G : List Int) (N W ph sp cy : Int) (L D Q : List PV) (z : ByteArray) (ov : Bool) (h : HM R ws C G N W L D Q z) (kind m : Int) : CallF (fun _ => Tryz.prog) 13 [.ptr 0 (.lit 0),i6 kind,i6 m] [hpA 0 1 5 6 3 W ph sp cy,hpB 1 2 4 3 W,hpC 2 3 179 2 N,hpP 3 L,hpP 4 D,hpF 5 z ov,hpP 6 Q] 7 (fun r h n => ∃ (a e : Int) (R' : List Rw) (ws' C' : List Int) (L' D' Q' : List PV),r = .tup [i6 a,i6 e] ∧ h = [hpA 0 1 5 6 3 W ph sp cy,hpB 1 2 4 3 W,hpC 2 3 179 2 N,hpP 3 L',hpP 4 D',hpF 5 z ov,hpP 6 Q'] ∧ n = 7 ∧ HM R' ws' C' G N W L' D' Q' z ∧ Alloct R ws kind m a e R' ws' ∧ C' = allocC ph a e C) := by
 have hCl := h.c; have hWn := h.w; have hNr := h.n; have hRr := h.r
 have hQl : Q.length = C.length := by rw [h.q,ipv_length]
 refine callF_of_body tok Tryz.func13 (by kernel_rfl) rfl rfl rfl ?_; conv => cbv
 refine cfr (arena_lx R ws C G N W ph sp cy L D Q z ov) [(0,0),(1,1),(2,2),(3,3),(4,4),(5,5),(6,6)] (fun r h' n' ⟨e1,e2,e3⟩ => ?_)
 subst e1 e2 e3
 conv => cbv
 refine cfr (allocA_lx kind m R ws N W L D h.l h.d h.n h.r h.a h.w) [(0,1),(1,2),(2,3),(3,4)] (fun r h' n' hrr => ?_)
 obtain ⟨a,e,R',ws',L',D',e1,e2,e3,hL',hD',hT⟩ := hrr
 subst e1 e2 e3
 conv => cbv
 have hgen := alloct_gen9 h.a hT
 refine Br.mk (fun g => ?_) (fun g => ?_)
 ·have g : e ≠ 0 := g
  have ha0 : a = 0 := by
              rcases hgen with h | h; · exact h.2.1
              ·exact absurd h.1 g
  conv => cbv
  refine RetF.mk [i6 a,i6 e] [hpA 0 1 5 6 3 W ph sp cy,hpB 1 2 4 3 W,hpC 2 3 179 2 N,hpP 3 L',hpP 4 D',hpF 5 z ov,hpP 6 Q] 7 (Re.at [(0,0),(1,1),(2,2),(3,3),(4,4),(5,5),(6,6)] []) rfl ⟨a,e,R',ws',C,L',D',Q,rfl,rfl,rfl,h.alloct hT hL' hD' rfl h.q,hT,by unfold allocC; rw [if_neg g]⟩
 ·have g : ¬ e ≠ 0 := g
  have g : e = 0 := by omega
  have hA1 := (h.a.alloct hT).1
  have hlR := (h.a.alloct hT).2
  have hb : 0 ≤ a ∧ a < W := by
   rcases hgen with h | h
   ·exact absurd g h.1
   ·have h1 := (h.2.2.1).bounds hA1
    omega
  obtain ⟨C',hC'⟩ : ∃ C',C' = allocC ph a e C := ⟨_,rfl⟩
  obtain ⟨Q',hQ'⟩ : ∃ Q',Q' = ipv C' := ⟨_,rfl⟩
  have hfin := h.alloct hT hL' hD' (by rw [hC']; exact allocC_length _ _ _ _) hQ'
  conv => cbv
  refine Need.mk ⟨by show 0 ≤ a; omega,by show a < W; omega⟩ ?_
  conv => cbv
  refine Need.mk (by show a + 1 ≤ (Q.length : Int); omega) ?_
  conv => cbv
  refine Upd.mk fun Q2 hQ2 => ?_
  have hQ2 : Q2 = Q.set a.toNat (.int .i64 (.lit 0)) := hQ2
  conv => cbv
  refine Br.mk (fun gp => ?_) (fun gp => ?_)
  ·have gp : ph ≠ 0 := gp
   conv => cbv
   refine Need.mk ⟨by show 0 ≤ a; omega,by show a < W; omega⟩ ?_
   conv => cbv
   refine Need.mk (by show a + 1 ≤ (Q2.length : Int); rw [hQ2,List.length_set]; omega) ?_
   conv => cbv
   refine Upd.mk fun Q3 hQ3 => ?_
   have hle : pvles Q3 Q' := by
    have hQ3 : Q3 = Q2.set a.toNat (.int .i64 (.lit 2)) := hQ3
    rw [hQ3,hQ2,hQ',hC',allocC,if_pos g,if_neg gp,h.q,← ipv_set,List.set_set]
    exact pvles_set _ _ _ _ _ (pvles_refl _) (by simp [pvle,I.val])
   unfold pvles at hle
   clear hQ3 hQ2
   conv => cbv
   refine RetF.mk [i6 a,i6 e] [hpA 0 1 5 6 3 W ph sp cy,hpB 1 2 4 3 W,hpC 2 3 179 2 N,hpP 3 L',hpP 4 D',hpF 5 z ov,hpP 6 Q'] 7 (Re.at [(0,0),(1,1),(2,2),(3,3),(4,4),(5,5),(6,6)] []) rfl ⟨a,e,R',ws',C',L',D',Q',rfl,rfl,rfl,hfin,hT,hC'⟩
  ·have gp : ¬ ph ≠ 0 := gp
   have gp : ph = 0 := by omega
   have hle : pvles Q2 Q' := by
    rw [hQ2,hQ',hC',allocC,if_pos g,if_pos gp,h.q,← ipv_set]
    exact pvles_set _ _ _ _ _ (pvles_refl _) (by simp [pvle,I.val])
   unfold pvles at hle
   clear hQ2
   conv => cbv
   refine RetF.mk [i6 a,i6 e] [hpA 0 1 5 6 3 W ph sp cy,hpB 1 2 4 3 W,hpC 2 3 179 2 N,hpP 3 L',hpP 4 D',hpF 5 z ov,hpP 6 Q'] 7 (Re.at [(0,0),(1,1),(2,2),(3,3),(4,4),(5,5),(6,6)] []) rfl ⟨a,e,R',ws',C',L',D',Q',rfl,rfl,rfl,hfin,hT,hC'⟩
theorem allocNil9_lx (a m : I) : CallF (fun _ => Tryz.prog) 13 [.p .nilp,.p (.int .i64 a),.p (.int .i64 m)] [] 0 (fun r h n => r = .tup [i6 0,i6 2] ∧ h = [] ∧ n = 0) := by
 refine callF_of_body tok Tryz.func13 (by kernel_rfl) rfl rfl rfl ?_; conv => cbv
 refine callF_frame arenaNil_lx [] rfl trivial rfl rfl (fun r h' n' ⟨e1,e2,e3⟩ => ?_)
 subst e1 e2 e3
 conv => cbv
 refine callF_frame (allocA_nil a m) [] rfl trivial rfl rfl (fun r h' n' ⟨e1,e2,e3⟩ => ?_)
 subst e1 e2 e3
 conv => cbv
 refine Br.mk (fun g => ?_) (fun g => ?_)
 case refine_2 =>
  have g : ¬ (2 : Int) ≠ 0 := g
  exfalso
  omega
 conv => cbv
 refine RetF.mk [i6 0,i6 2] [] 0 (Re.at [] []) rfl ⟨rfl,rfl,rfl⟩
end Go.Proofs.YtjfdfbpgckilpaaGreatDoor
namespace Go.Proofs.YtjfdfbpgckilpaaGreatDoor
open Go Go.LX
set_option maxRecDepth 100000
set_option linter.unusedVariables false
set_option linter.unusedSimpArgs false
set_option maxHeartbeats 32000000
theorem spanNew_arg (n : Int) (hn : n < 2) : CallF (fun _ => Tryz.prog) 116 [i6 n] [] 0 (fun r h m => r = .tup [.p .nilp,i6 1] ∧ h = [] ∧ m = 0) := by
 refine callF_of_body tok Tryz.func116 (by kernel_rfl) rfl rfl rfl ?_; conv => cbv
 refine Br.mk (fun g => ?_) (fun g => ?_)
 ·conv => cbv
  refine RetF.mk [.p .nilp,i6 1] [] 0 (Re.at [] []) rfl ⟨rfl,rfl,rfl⟩
 ·have gf : False := g hn
  cases gf
theorem newA_arg (n : Int) (hn : n < 2) : CallF (fun _ => Tryz.prog) 54 [i6 n] [] 0 (fun r h m => r = .tup [.p .nilp,i6 1] ∧ h = [] ∧ m = 0) := by
 refine callF_of_body tok Tryz.func54 (by kernel_rfl) rfl rfl rfl ?_; conv => cbv
 refine callF_frame (spanNew_arg n hn) [] rfl trivial rfl rfl (fun r h' n' ⟨e1,e2,e3⟩ => ?_)
 subst e1 e2 e3
 conv => cbv
 refine Br.mk (fun g => ?_) (fun g => ?_)
 case refine_2 =>
  have gf : False := g (by decide)
  cases gf
 conv => cbv
 refine RetF.mk [.p .nilp,i6 1] [] 0 (Re.at [] []) rfl ⟨rfl,rfl,rfl⟩
theorem Kept.det {R : List Rw} {ws : List Int} {a k l k' l' : Int} (h : Kept R ws a k l) (h' : Kept R ws a k' l') : k' = k ∧ l' = l := by
 obtain ⟨w,_,h1,h2,h3,h4,_⟩ := h
 obtain ⟨w',_,h1',h2',h3',h4',_⟩ := h'
 rw [h1] at h1'
 have h1' : k + 16 * l = k' + 16 * l' := Option.some.inj h1'
 omega
theorem Kept.obj {R : List Rw} {ws : List Int} {a k l : Int} (h : Kept R ws a k l) : IsObj R a := by
 obtain ⟨w,h,_⟩ := h
 exact isObj_iff.2 ⟨w,h⟩
theorem kindR_of {R : List Rw} {ws : List Int} {a k l v : Int} (h : Kept R ws a k l) (hv : KindR R ws a v) : v = k := by
 cases hv with
 | no hn => exact absurd h.obj hn
 | is k' l' h' => exact (h.det h').1
theorem lenR_of {R : List Rw} {ws : List Int} {a k l v : Int} (h : Kept R ws a k l) (hv : LenR R ws a v) : v = l := by
 cases hv with
 | no hn => exact absurd h.obj hn
 | is k' l' h' => exact (h.det h').2
theorem stored_of {R : List Rw} {ws ws' : List Int} {a k l i x e : Int} (h : Kept R ws a k l) (hi : 0 ≤ i ∧ i < l) (hv : Stored R ws a i x e ws') : e = 0 ∧ ws' = ws.set (a + 1 + i).toNat x := by
 cases hv with
 | none hn => exact absurd h.obj hn
 | arg k' l' h' hi' => rw [(h.det h').2] at hi'; exact absurd hi hi'
 | ok k' l' h' hi' => exact ⟨rfl,rfl⟩
theorem loaded_of {R : List Rw} {ws : List Int} {a k l i x e : Int} (h : Kept R ws a k l) (hi : 0 ≤ i ∧ i < l) (hv : Loaded R ws a i x e) : e = 0 ∧ ws[(a + 1 + i).toNat]? = some x := by
 cases hv with
 | none hn => exact absurd h.obj hn
 | arg k' l' h' hi' => rw [(h.det h').2] at hi'; exact absurd hi hi'
 | ok k' l' x' h' hi' hx => exact ⟨rfl,hx⟩
theorem alloct_ok {R R' : List Rw} {ws ws' : List Int} {kind n a e : Int} (hA : AOk R ws) (h : Alloct R ws kind n a e R' ws') (he : e = 0) :
  Kept R' ws' a kind n ∧ ¬ IsObj R a ∧ objCount R' = objCount R + 1 ∧ (∀ i,0 ≤ i → i < n → ws'[(a + 1 + i).toNat]? = some 0) ∧ (∀ b k l,Kept R ws b k l → Kept R' ws' b k l) ∧ (∀ b,IsObj R' b → b = a ∨ IsObj R b) ∧ (∀ b k l i,Kept R ws b k l → 0 ≤ i → i < l → ws'[(b + 1 + i).toNat]? = ws[(b + 1 + i).toNat]?) := by
 cases h with
 | arg h => exact absurd he (by decide)
 | room i s R' h ha => exact absurd he (by decide)
 | ok i s _ R' h ha hi hat =>
  have hA' := (AOk.alloct hA (Alloct.ok i s a R' h ha hi hat)).1
  obtain ⟨w,hw⟩ : ∃ w,w = wordsOf (ofN n) := ⟨_,rfl⟩
  obtain ⟨h1,h2,h3,h4,h5⟩ := alloc_objs hA.rows ha a w (by rw [hat]) hw
  have hobj : ObjAt R' a w := (h5 _ _).2 (.inr ⟨rfl,rfl⟩)
  obtain ⟨f1,f2,f3,_⟩ := hobj.facts h1
  have hnw : n < w := by rw [hw]; exact (ofN_words ⟨h.1,h.2.1⟩).1
  have hlen := hA.len
  have hget : ∀ j,j < ws.length → (zer (ws.set a.toNat (kind + 16 * n)) (a.toNat + 1) n.toNat)[j]? = if a.toNat + 1 ≤ j ∧ j < a.toNat + 1 + n.toNat then some 0 else (ws.set a.toNat (kind + 16 * n))[j]? := fun j hj => zer_get _ _ _ _ (by rw [List.length_set]; exact hj)
  have hfar : ∀ j,j < ws.length → (j : Int) < a ∨ a + w ≤ j → (zer (ws.set a.toNat (kind + 16 * n)) (a.toNat + 1) n.toNat)[j]? = ws[j]? := by
   intro j hj hfar
   rw [hget j hj,if_neg (by omega),List.getElem?_set_ne (by omega)]
  refine ⟨?_,h4,h3,?_,?_,?_,?_⟩
  ·refine .mk kind n w hobj ?_ (by omega) (by omega) h.1 hnw
   rw [hget _ (by omega),if_neg (by omega),List.getElem?_set_self (by omega)]
  ·intro j hj0 hj1
   rw [hget _ (by omega),if_pos (by omega)]
  ·rintro b k l ⟨v,hb,hx,g1,g2,g3,g4⟩
   have hb' := (h5 b v).2 (.inl hb)
   have hne : b ≠ a := fun e => h4 (isObj_iff.2 ⟨v,e ▸ hb⟩)
   obtain ⟨q1,q2,q3,_⟩ := hb'.facts h1
   refine .mk k l v hb' ?_ g1 g2 g3 g4
   rw [hfar _ (by omega) (by rcases hobj.apart h1 hb' with ⟨h,_⟩ | h | h <;> omega)]
   exact hx
  ·intro b hb
   obtain ⟨v,hb⟩ := isObj_iff.1 hb
   rcases (h5 b v).1 hb with hb | ⟨hb,_⟩
   ·exact .inr (isObj_iff.2 ⟨v,hb⟩)
   ·exact .inl hb
  ·rintro b k l j ⟨v,hb,hx,g1,g2,g3,g4⟩ hj0 hj1
   have hb' := (h5 b v).2 (.inl hb)
   have hne : b ≠ a := fun e => h4 (isObj_iff.2 ⟨v,e ▸ hb⟩)
   obtain ⟨q1,q2,q3,_⟩ := hb'.facts h1
   exact hfar _ (by omega) (by rcases hobj.apart h1 hb' with ⟨h,_⟩ | h | h <;> omega)
theorem alloct_err {R R' : List Rw} {ws ws' : List Int} {kind n a e : Int} (hA : AOk R ws) (h : Alloct R ws kind n a e R' ws') (hroom : objCount R < R.length) : e = if 0 ≤ n ∧ n ≤ 31 ∧ 1 ≤ kind ∧ kind ≤ 6 then 0 else 1 := by
 cases h with
 | arg h => rw [if_neg h]
 | room i s R' h ha => obtain ⟨_,h2⟩ := full_count hA.rows (ofN_slots n) ha; omega
 | ok i s _ R' h ha hi hat => rw [if_pos h]
theorem freet_none {R R' : List Rw} {a e : Int} (h : Freet R a e R') (hn : ¬ IsObj R a) : e = 8 ∧ R = R' := by
 cases h with
 | none h => exact ⟨rfl,rfl⟩
 | ok q s e he hs hat => exact absurd ⟨q,s,e,he,hs,hat⟩ hn
theorem stored_none {R : List Rw} {ws ws' : List Int} {a i x e : Int} (h : Stored R ws a i x e ws') (hn : ¬ IsObj R a) : e = 8 := by
 cases h with
 | none h => rfl
 | arg k l h hi => exact absurd h.obj hn
 | ok k l h hi => exact absurd h.obj hn
theorem rep2 : (List.replicate (2 : Int).toNat ((0,[]) : Rw)) = List.replicate 2 (0,[]) := rfl
end Go.Proofs.YtjfdfbpgckilpaaGreatDoor
namespace Go.Proofs.YtjfdfbpgckilpaaGreatDoor
open Go Go.LX
set_option maxRecDepth 100000
set_option linter.unusedVariables false
set_option linter.unusedSimpArgs false
set_option maxHeartbeats 32000000
theorem zer_all (ws : List Int) : zer ws 0 ws.length = List.replicate ws.length 0 := by
 apply List.ext_getElem?
 intro i
 by_cases h : i < ws.length
 ·rw [zer_get _ _ _ _ h,if_pos (by omega),List.getElem?_replicate,if_pos h]
 ·rw [List.getElem?_eq_none (by rw [zer_length]; omega),List.getElem?_eq_none (by rw [List.length_replicate]; omega)]
theorem HM.new {N W : Int} (h2 : 2 ≤ N) (h8 : N ≤ 128) (hW : W = 32 * N) {L D Q : List PV} {z : ByteArray} (hL : L = rpv (List.replicate N.toNat (0,[]))) (hD : D = ipv (List.replicate W.toNat 0)) (hQ : Q = ipv (List.replicate W.toNat 0)) (hz : z = ⟨(enc []).toArray⟩) :
  HM (List.replicate N.toNat (0,[])) (List.replicate W.toNat 0) (List.replicate W.toNat 0) [] N W L D Q z :=
 ⟨by rw [show W.toNat = 32 * N.toNat by omega]; exact AOk.new _,fun a k l hk => absurd hk.obj6 (new_none _ _),by rw [List.length_replicate]; omega,by rw [List.length_replicate]; omega,hW,hL,hD,hQ,by rw [List.length_replicate]; omega,hz,fun x hx => (by cases hx),Nat.zero_le _⟩
theorem newH_lx (N W : Int) (h2 : 2 ≤ N) (h8 : N ≤ 128) (hW : W = 32 * N) (L D Q : List PV) (z : ByteArray) (hL : L = rpv (List.replicate N.toNat (0,[]))) (hD : D = ipv (List.replicate W.toNat 0)) (hQ : Q = ipv (List.replicate W.toNat 0)) (hz : z = ⟨(enc []).toArray⟩) : CallF (fun _ => Tryz.prog) 10 [i6 N] [] 0 (fun r h n => r = .tup [.ptr 0 (.lit 0),.p (.int .i64 (.lit 0))] ∧ h = [hpA 0 1 5 6 3 W 0 0 0,hpB 1 2 4 3 W,hpC 2 3 179 2 N,hpP 3 L,hpP 4 D,hpF 5 z false,hpP 6 Q] ∧ n = 7) := by
 refine callF_of_body tok Tryz.func10 (by kernel_rfl) rfl rfl rfl ?_; conv => cbv
 refine callF_frame (newA_lx N W h2 h8 hW L D hL hD) [] rfl trivial rfl rfl (fun r h' n' ⟨e1,e2,e3⟩ => ?_)
 subst e1 e2 e3
 conv => cbv
 refine callF_frame greyNew_lx [] rfl trivial rfl rfl (fun r h' n' hrr => ?_)
 obtain ⟨z1,e1,e2,e3,hz1⟩ := hrr
 subst e1 e2 e3
 obtain rfl : z1 = z := by rw [hz1,hz]
 have hA0 : AOk (List.replicate N.toNat ((0,[]) : Rw)) (List.replicate W.toNat 0) := by rw [show W.toNat = 32 * N.toNat by omega]; exact AOk.new _
 conv => cbv
 refine cfr (wordsA_lx (List.replicate N.toNat ((0,[]) : Rw)) (List.replicate W.toNat 0) N W L D hL hD (by rw [List.length_replicate]; omega) (by rw [List.length_replicate]; omega) hA0 hW) [(0,0),(1,1),(2,2),(3,3)] (fun r h' n' ⟨e1,e2,e3⟩ => ?_)
 subst e1 e2 e3
 conv => cbv
 refine Need.mk ⟨by show 0 ≤ W; omega,Int.le_refl _,by show W * 8 ≤ 140737488355328; omega,by show W ≤ 9223372036854775807; omega⟩ ?_
 conv => cbv
 refine Upd.mk fun Q0 hQ0 => ?_
 have hle : pvles Q0 Q := by
  have hQ0 : Q0 = repsP [.int .i64 (.lit 0)] W.toNat := hQ0
  rw [hQ0,hQ]; exact zero_ipv _
 unfold pvles at hle
 clear hQ0
 conv => cbv
 refine RetF.mk [.ptr 0 (.lit 0),.p (.int .i64 (.lit 0))] [hpA 0 1 5 6 3 W 0 0 0,hpB 1 2 4 3 W,hpC 2 3 179 2 N,hpP 3 L,hpP 4 D,hpF 5 z1 false,hpP 6 Q] 7 (Re.at [(6,0),(0,1),(1,2),(2,3),(3,4),(4,5),(5,6)] []) rfl ⟨rfl,rfl,rfl⟩
theorem newHArg_lx (n : Int) (h : n < 2) : CallF (fun _ => Tryz.prog) 10 [i6 n] [] 0 (fun r h m => r = .tup [.p .nilp,.p (.int .i64 (.lit 1))] ∧ h = [] ∧ m = 0) := by
 refine callF_of_body tok Tryz.func10 (by kernel_rfl) rfl rfl rfl ?_; conv => cbv
 refine callF_frame (newA_arg n h) [] rfl trivial rfl rfl (fun r h' n' ⟨e1,e2,e3⟩ => ?_)
 subst e1 e2 e3
 conv => cbv
 refine Br.mk (fun g => ?_) (fun g => ?_)
 case refine_2 =>
  have g : ¬ (1 : Int) ≠ 0 := g
  exfalso
  omega
 conv => cbv
 refine RetF.mk [.p .nilp,.p (.int .i64 (.lit 1))] [] 0 (Re.at [] []) rfl ⟨rfl,rfl,rfl⟩
def begS (R : List Rw) (W : Int) (A : List Int) : List Int × List Int × Bool := A.foldl (fun s a => shade R 1 a s) (List.replicate W.toNat 0,[],false)
theorem begin_lx (R : List Rw) (ws C G : List Int) (N W ph sp cy : Int) (L D Q : List PV) (z : ByteArray) (ov : Bool) (h : HM R ws C G N W L D Q z) (o : Unit → Obj) (ho : IsPow o) (A : List Int) (k : Int) (rs : List PV) (hrs : rs = ipv A) (hk : k = A.length) (hA : (A.length : Int) < 1000000) (hph : ph = 0) : CallF (fun _ => Tryz.prog) 18 [.ptr 0 (.lit 0),.p (.vsl (.sym k) true rs)] [hpA 0 1 5 6 3 W ph sp cy,hpB 1 2 4 3 W,hpC 2 3 179 2 N,hpP 3 L,hpP 4 D,hpF 5 z ov,hpP 6 Q,(7,.fix 0 o)] 8 (fun r h n => ∃ (C' G' : List Int) (ov' : Bool) (Q' : List PV) (z' : ByteArray),r = .p (.int .i64 (.lit 0)) ∧ h = [hpA 0 1 8 6 3 W 1 sp cy,hpB 1 2 4 3 W,hpC 2 3 179 2 N,hpP 3 L,hpP 4 D,hpF 8 z' ov',hpP 6 Q',(7,.fix 0 o)] ∧ n = 9 ∧ HM R ws C' G' N W L D Q' z' ∧ (C',G',ov') = begS R W A) := by
 have hCl := h.c; have hWn := h.w; have hNr := h.n; have hRr := h.r
 have hQl : Q.length = C.length := by rw [h.q,ipv_length]
 refine callF_of_body tok Tryz.func18 (by kernel_rfl) rfl rfl rfl ?_; conv => cbv
 refine cfr (arena_lx R ws C G N W ph sp cy L D Q z ov) [(0,0),(1,1),(2,2),(3,3),(4,4),(5,5),(6,6)] (fun r h' n' ⟨e1,e2,e3⟩ => ?_)
 subst e1 e2 e3
 conv => cbv
 refine Br.mk (fun g => ?_) (fun g => ?_)
 case refine_1 =>
  have g : ph ≠ 0 := g
  exact absurd hph g
 conv => cbv
 refine Need.mk ⟨Int.le_refl _,by show 0 ≤ W; omega,by show 0 + W * 1 ≤ (Q.length : Int); omega⟩ ?_
 conv => cbv
 obtain ⟨Q0,hQ0⟩ : ∃ Q0,Q0 = ipv (List.replicate W.toNat 0) := ⟨_,rfl⟩
 refine Upd.mk fun Q2 hQ2 => ?_
 have hle : pvles Q2 Q0 := by
  have hQ2 : Q2 = updL Q 0 (repsP [.int .i64 (.lit 0)] W.toNat) := hQ2
  rw [hQ2,hQ0,h.q,show W.toNat = C.length by omega,← zer_all]
  exact upd_zer _ _ _ _ (pvles_refl _)
 unfold pvles at hle
 clear hQ2
 conv => cbv
 refine callF_frame greyNew_lx [] rfl trivial rfl rfl (fun r h' n' hrr => ?_)
 obtain ⟨z1,e1,e2,e3,hz1⟩ := hrr
 subst e1 e2 e3
 have hM0 : HM R ws (List.replicate W.toNat 0) [] N W L D Q0 z1 := ⟨h.a,h.k,h.n,h.r,h.w,h.l,h.d,hQ0,by rw [List.length_replicate]; omega,hz1,fun x hx => (by cases hx),Nat.zero_le _⟩
 conv => cbv
 refine LoopF.mk (fun kk s => ∃ (i : Int) (C' G' : List Int) (ov' : Bool) (Q' : List PV) (z' : ByteArray),s = ⟨.ptr 0 (.lit 0) :: (undefs 25 ++ .p (.vsl (.sym k) true rs) :: .p (.int .i64 (.sym k)) :: .p (.int .i64 (.sym i)) :: undefs 7),[hpA 0 1 8 6 3 W 1 sp cy,hpB 1 2 4 3 W,hpC 2 3 179 2 N,hpP 3 L,hpP 4 D,hpF 8 z' ov',hpP 6 Q',(7,.fix 0 o)],9⟩ ∧ 0 ≤ i ∧ i ≤ k ∧ HM R ws C' G' N W L D Q' z' ∧ (C',G',ov') = begS R W (A.take i.toNat) ∧ kk = (k - i).toNat) k.toNat _
  (Re.at [(0,0),(1,1),(2,2),(3,3),(4,4),(6,6),(7,7),(8,8)] []) ⟨0,_,_,_,Q0,z1,rfl,by omega,by omega,hM0,rfl,by omega⟩ ?_
 rintro kk s ⟨i,C',G',ov',Q',z',rfl,hi0,hi1,h2,hS,hk2⟩
 conv => cbv
 refine Br.mk (fun gi => ?_) (fun gi => ?_)
 ·have gi : i < k := gi
  obtain ⟨k',rfl⟩ : ∃ k',kk = k' + 1 := ⟨kk - 1,by omega⟩
  obtain ⟨a,ha⟩ : ∃ a,A[i.toNat]? = some a := ⟨_,List.getElem?_eq_getElem (by omega)⟩
  have hc : rs[i.toNat]? = some (.int .i64 (.sym a)) := by rw [hrs]; exact ipv_get ha
  conv => cbv
  refine Need.mk ⟨hi0,gi⟩ ?_
  conv => cbv
  refine Cell.at i _ hc (by simp [I.val]) rfl ?_
  conv => cbv
  refine cfr (shade_lx R ws C' G' N W 1 sp cy L D Q' z' ov' h2 o ho a) [(0,0),(1,1),(2,2),(3,3),(4,4),(5,8),(6,6),(7,7)] (fun r h' n' hrr => ?_)
  obtain ⟨C2,G2,ov2,Q2,z2,e1,e2,e3,h3,hS2⟩ := hrr
  subst e1 e2 e3
  have hS3 : (C2,G2,ov2) = begS R W (A.take (i.toNat + 1)) := by
   rw [hS2,hS]
   unfold begS
   rw [List.take_add_one,ha,Option.toList_some,List.foldl_append]; rfl
  conv => cbv
  refine Fit.mk (by show (-9223372036854775808 : Int) ≤ i + 1; omega) (by show i + 1 ≤ 9223372036854775807; omega) fun i2 hi2 => ?_
  have hi2 : i2 = i + 1 := hi2
  rw [show i.toNat + 1 = i2.toNat by omega] at hS3
  conv => cbv
  refine Again.mk k' _ (Nat.lt_succ_self _) (Re.at [(0,0),(1,1),(2,2),(3,3),(4,4),(6,6),(7,7),(8,8)] []) ⟨i2,C2,G2,ov2,Q2,z2,rfl,by omega,by omega,h3,hS3,by omega⟩
 ·have gi : ¬ i < k := gi
  rw [List.take_of_length_le (by omega)] at hS
  conv => cbv
  refine RetF.mk [.p (.int .i64 (.lit 0))] [hpA 0 1 8 6 3 W 1 sp cy,hpB 1 2 4 3 W,hpC 2 3 179 2 N,hpP 3 L,hpP 4 D,hpF 8 z' ov',hpP 6 Q',(7,.fix 0 o)] 9 (Re.at [(0,0),(1,1),(2,2),(3,3),(4,4),(6,6),(7,7),(8,8)] []) rfl ⟨C',G',ov',Q',z',rfl,rfl,rfl,h2,hS⟩
theorem beginState_lx (R : List Rw) (ws C G : List Int) (N W ph sp cy : Int) (L D Q : List PV) (z : ByteArray) (ov : Bool) (h : HM R ws C G N W L D Q z) (hph : ph ≠ 0) : CallF (fun _ => Tryz.prog) 18 [.ptr 0 (.lit 0),.p .nils] [hpA 0 1 5 6 3 W ph sp cy,hpB 1 2 4 3 W,hpC 2 3 179 2 N,hpP 3 L,hpP 4 D,hpF 5 z ov,hpP 6 Q] 7 (fun r h n => r = .p (.int .i64 (.lit 11)) ∧ h = [hpA 0 1 5 6 3 W ph sp cy,hpB 1 2 4 3 W,hpC 2 3 179 2 N,hpP 3 L,hpP 4 D,hpF 5 z ov,hpP 6 Q] ∧ n = 7) := by
 refine callF_of_body tok Tryz.func18 (by kernel_rfl) rfl rfl rfl ?_; conv => cbv
 refine cfr (arena_lx R ws C G N W ph sp cy L D Q z ov) [(0,0),(1,1),(2,2),(3,3),(4,4),(5,5),(6,6)] (fun r h' n' ⟨e1,e2,e3⟩ => ?_)
 subst e1 e2 e3
 conv => cbv
 refine Br.mk (fun g => ?_) (fun g => ?_)
 case refine_2 =>
  have g : ¬ ph ≠ 0 := g
  exact absurd hph g
 conv => cbv
 refine RetF.mk [.p (.int .i64 (.lit 11))] [hpA 0 1 5 6 3 W ph sp cy,hpB 1 2 4 3 W,hpC 2 3 179 2 N,hpP 3 L,hpP 4 D,hpF 5 z ov,hpP 6 Q] 7 (Re.at [(0,0),(1,1),(2,2),(3,3),(4,4),(5,5),(6,6)] []) rfl ⟨rfl,rfl,rfl⟩
theorem beginNil_lx : CallF (fun _ => Tryz.prog) 18 [.p .nilp,.p .nils] [] 0 (fun r h n => r = .p (.int .i64 (.sym 2)) ∧ h = [] ∧ n = 0) := by
 refine callF_of_body tok Tryz.func18 (by kernel_rfl) rfl rfl rfl ?_; conv => cbv
 refine callF_frame arenaNil_lx [] rfl trivial rfl rfl (fun r h' n' ⟨e1,e2,e3⟩ => ?_)
 subst e1 e2 e3
 conv => cbv
 refine RetF.mk [i6 2] [] 0 (Re.at [] []) rfl ⟨rfl,rfl,rfl⟩
def scanS (R : List Rw) (ph a : Int) (X : List Int) (s : List Int × List Int × Bool) : List Int × List Int × Bool := ((X.foldl (fun s w => shadeW R ph w s) s).1.set a.toNat 2,(X.foldl (fun s w => shadeW R ph w s) s).2)
theorem scan_lx (R : List Rw) (ws C G : List Int) (N W ph sp cy : Int) (L D Q : List PV) (z : ByteArray) (ov : Bool) (h : HM R ws C G N W L D Q z) (o : Unit → Obj) (ho : IsPow o) (a : Int) (ha : 0 ≤ a ∧ a < W) : CallF (fun _ => Tryz.prog) 127 [.ptr 0 (.lit 0),i6 a] [hpA 0 1 5 6 3 W ph sp cy,hpB 1 2 4 3 W,hpC 2 3 179 2 N,hpP 3 L,hpP 4 D,hpF 5 z ov,hpP 6 Q,(7,.fix 0 o)] 8 (fun r h n => ∃ (X C' G' : List Int) (ov' : Bool) (Q' : List PV) (z' : ByteArray),r = .tup [] ∧ h = [hpA 0 1 5 6 3 W ph sp cy,hpB 1 2 4 3 W,hpC 2 3 179 2 N,hpP 3 L,hpP 4 D,hpF 5 z' ov',hpP 6 Q',(7,.fix 0 o)] ∧ n = 8 ∧ HM R ws C' G' N W L D Q' z' ∧ Wrds R ws a X ∧ (C',G',ov') = scanS R ph a X (C,G,ov)) := by
 refine callF_of_body tok Tryz.func127 (by kernel_rfl) rfl rfl rfl ?_; conv => cbv
 refine cfr (wordsH_lx R ws C G N W ph sp cy L D Q z ov h a) [(0,0),(1,1),(2,2),(3,3),(4,4),(5,5),(6,6)] (fun r h' n' hrr => ?_)
 obtain ⟨X,m,O,e1,e2,e3,hO,hm,hX⟩ := hrr
 subst e1 e2 e3
 conv => cbv
 have hXb := hX.bd h.a
 have hX31 : X.length ≤ 31 := by
  have hle := hX.1
  generalize hxl : (X.length : Int) = xl at hle
  cases hle with
  | no _ => omega
  | is k l hk => have := hk.bounds h.a; omega
 refine LoopF.mk (fun k s => ∃ (i : Int) (C' G' : List Int) (ov' : Bool) (Q' : List PV) (z' : ByteArray),s = ⟨.ptr 0 (.lit 0) :: .p (.int .i64 (.sym a)) :: (undefs 6 ++ .sl 8 3 1 (.lit 0) (.sym m) :: .p (.int .i64 (.sym m)) :: .p (.int .i64 (.sym i)) :: undefs 13),[hpA 0 1 5 6 3 W ph sp cy,hpB 1 2 4 3 W,hpC 2 3 179 2 N,hpP 3 L,hpP 4 D,hpF 5 z' ov',hpP 6 Q',(7,.fix 0 o),hpP 8 O],9⟩ ∧ 0 ≤ i ∧ i ≤ m ∧ HM R ws C' G' N W L D Q' z' ∧ (C',G',ov') = (X.take i.toNat).foldl (fun s w => shadeW R ph w s) (C,G,ov) ∧ k = (m - i).toNat) m.toNat _
  (Re.at [(0,0),(1,1),(2,2),(3,3),(4,4),(5,5),(6,6),(7,7),(8,8)] []) ⟨0,C,G,ov,Q,z,rfl,by omega,by omega,h,rfl,by omega⟩ ?_
 rintro k s ⟨i,C',G',ov',Q',z',rfl,hi0,hi1,h2,hS,hk⟩
 conv => cbv
 refine Br.mk (fun gi => ?_) (fun gi => ?_)
 ·have gi : i < m := gi
  obtain ⟨k',rfl⟩ : ∃ k',k = k' + 1 := ⟨k - 1,by omega⟩
  obtain ⟨w,hw⟩ : ∃ w,X[i.toNat]? = some w := ⟨_,List.getElem?_eq_getElem (by omega)⟩
  have hc : O[i.toNat]? = some (.int .i64 (.sym w)) := by rw [hO]; exact ipv_get hw
  conv => cbv
  refine Need.mk ⟨hi0,gi⟩ ?_
  conv => cbv
  refine Cell.at i _ hc (by simp [I.val]) rfl ?_
  conv => cbv
  refine cfr (shadeWord_lx R ws C' G' N W ph sp cy L D Q' z' ov' h2 o ho w (hXb w (List.mem_of_getElem? hw))) [(0,0),(1,1),(2,2),(3,3),(4,4),(5,5),(6,6),(7,7)] (fun r h' n' hrr => ?_)
  obtain ⟨C2,G2,ov2,Q2,z2,e1,e2,e3,h3,hS2⟩ := hrr
  subst e1 e2 e3
  have hS3 : (C2,G2,ov2) = (X.take (i.toNat + 1)).foldl (fun s w => shadeW R ph w s) (C,G,ov) := by
   rw [List.take_add_one,hw,Option.toList_some,List.foldl_append,← hS,hS2]; rfl
  conv => cbv
  refine Fit.mk (by show (-9223372036854775808 : Int) ≤ i + 1; omega) (by show i + 1 ≤ 9223372036854775807; omega) fun i2 hi2 => ?_
  have hi2 : i2 = i + 1 := hi2
  rw [show i.toNat + 1 = i2.toNat by omega] at hS3
  conv => cbv
  refine Again.mk k' _ (Nat.lt_succ_self _) (Re.at [(0,0),(1,1),(2,2),(3,3),(4,4),(5,5),(6,6),(7,7),(8,8)] []) ⟨i2,C2,G2,ov2,Q2,z2,rfl,by omega,by omega,h3,hS3,by omega⟩
 ·have gi : ¬ i < m := gi
  rw [List.take_of_length_le (by omega)] at hS
  have hCl := h2.c; have hWn := h.w; have hNr := h.n; have hRr := h.r
  have hQl : Q'.length = C'.length := by rw [h2.q,ipv_length]
  obtain ⟨Q3,hQ3⟩ : ∃ Q3,Q3 = ipv (C'.set a.toNat 2) := ⟨_,rfl⟩
  have hfin : HM R ws (C'.set a.toNat 2) G' N W L D Q3 z' := ⟨h2.a,h2.k,h2.n,h2.r,h2.w,h2.l,h2.d,hQ3,by rw [List.length_set]; exact h2.c,h2.z,h2.g,h2.g8⟩
  conv => cbv
  refine Need.mk ⟨by show 0 ≤ a; omega,by show a < W; omega⟩ ?_
  conv => cbv
  refine Need.mk (by show a + 1 ≤ (Q'.length : Int); omega) ?_
  conv => cbv
  refine Upd.mk fun Q2 hQ2 => ?_
  have hle : pvles Q2 Q3 := by
   have hQ2 : Q2 = Q'.set a.toNat (.int .i64 (.lit 2)) := hQ2
   rw [hQ2,hQ3,h2.q,← ipv_set]
   exact pvles_set _ _ _ _ _ (pvles_refl _) (by simp [pvle,I.val])
  unfold pvles at hle
  clear hQ2
  conv => cbv
  refine RetF.mk [] [hpA 0 1 5 6 3 W ph sp cy,hpB 1 2 4 3 W,hpC 2 3 179 2 N,hpP 3 L,hpP 4 D,hpF 5 z' ov',hpP 6 Q3,(7,.fix 0 o)] 8 (Re.at [(0,0),(1,1),(2,2),(3,3),(4,4),(5,5),(6,6),(7,7)] []) rfl ⟨X,_,G',ov',Q3,z',rfl,rfl,rfl,hfin,hX,by unfold scanS; rw [← hS]⟩
end Go.Proofs.YtjfdfbpgckilpaaGreatDoor
namespace Go.Proofs.YtjfdfbpgckilpaaGreatDoor
open Go Go.LX
set_option maxRecDepth 100000
set_option linter.unusedVariables false
set_option linter.unusedSimpArgs false
set_option maxHeartbeats 32000000
theorem HM.pop {R : List Rw} {ws C A : List Int} {v : Int} {N W : Int} {L D Q : List PV} {z z' : ByteArray} (h : HM R ws C (A ++ [v]) N W L D Q z) (hz : z' = ⟨(enc A).toArray⟩) : HM R ws C A N W L D Q z' ∧ 0 ≤ v ∧ v < W :=
 ⟨⟨h.a,h.k,h.n,h.r,h.w,h.l,h.d,h.q,h.c,hz,fun x hx => h.g x (List.mem_append_left _ hx),by have := h.g8; rw [List.length_append] at this; omega⟩,h.g v (by simp)⟩
theorem nextGreyPop_lx (R : List Rw) (ws C G : List Int) (N W ph sp cy : Int) (L D Q : List PV) (z : ByteArray) (ov : Bool) (h : HM R ws C G N W L D Q z) (A : List Int) (v : Int) (hG : G = A ++ [v]) : CallF (fun _ => Tryz.prog) 126 [.ptr 0 (.lit 0)] [hpA 0 1 5 6 3 W ph sp cy,hpB 1 2 4 3 W,hpC 2 3 179 2 N,hpP 3 L,hpP 4 D,hpF 5 z ov,hpP 6 Q] 7 (fun r h n => ∃ (z' : ByteArray),r = .tup [i6 v,.p (.bool true)] ∧ h = [hpA 0 1 5 6 3 W ph sp cy,hpB 1 2 4 3 W,hpC 2 3 179 2 N,hpP 3 L,hpP 4 D,hpF 5 z' ov,hpP 6 Q] ∧ n = 7 ∧ HM R ws C A N W L D Q z') := by
 refine callF_of_body tok Tryz.func126 (by kernel_rfl) rfl rfl rfl ?_; conv => cbv
 refine cfr (greyPop_lx G z ov h.z h.g64 h.g8) [(0,5)] (fun r h' n' hrr => ?_)
 obtain ⟨v2,b,z',A',e1,e2,e3,hz',h4⟩ := hrr
 subst e1 e2 e3
 obtain ⟨hGA,rfl⟩ : G = A' ++ [v2] ∧ b = true := by
  rcases h4 with ⟨e,_⟩ | h4
  ·rw [e] at hG; exact absurd hG.symm (by simp)
  ·exact h4
 obtain ⟨rfl,hv2⟩ := List.append_inj' (hG.symm.trans hGA) rfl
 obtain rfl : v = v2 := by simpa using hv2
 conv => cbv
 refine RetF.mk [i6 v,.p (.bool true)] [hpA 0 1 5 6 3 W ph sp cy,hpB 1 2 4 3 W,hpC 2 3 179 2 N,hpP 3 L,hpP 4 D,hpF 5 z' ov,hpP 6 Q] 7 (Re.at [(0,0),(1,1),(2,2),(3,3),(4,4),(5,5),(6,6)] []) rfl ⟨z',rfl,rfl,rfl,(HM.pop (hG ▸ h) hz').1⟩
theorem markPop_lx (R : List Rw) (ws C G : List Int) (N W ph sp cy : Int) (L D Q : List PV) (z : ByteArray) (ov : Bool) (h : HM R ws C G N W L D Q z) (o : Unit → Obj) (ho : IsPow o) (A : List Int) (v : Int) (hG : G = A ++ [v]) : CallF (fun _ => Tryz.prog) 62 [.ptr 0 (.lit 0)] [hpA 0 1 5 6 3 W ph sp cy,hpB 1 2 4 3 W,hpC 2 3 179 2 N,hpP 3 L,hpP 4 D,hpF 5 z ov,hpP 6 Q,(7,.fix 0 o)] 8 (fun r h n => ∃ (X C' G' : List Int) (ov' : Bool) (Q' : List PV) (z' : ByteArray),r = .p .nils ∧ h = [hpA 0 1 5 6 3 W ph sp cy,hpB 1 2 4 3 W,hpC 2 3 179 2 N,hpP 3 L,hpP 4 D,hpF 5 z' ov',hpP 6 Q',(7,.fix 0 o)] ∧ n = 8 ∧ HM R ws C' G' N W L D Q' z' ∧ Wrds R ws v X ∧ (C',G',ov') = scanS R ph v X (C,A,ov)) := by
 have hv := (HM.pop (z' := ⟨(enc A).toArray⟩) (hG ▸ h) rfl).2
 refine callF_of_body tok Tryz.func62 (by kernel_rfl) rfl rfl rfl ?_; conv => cbv
 refine cfr (nextGreyPop_lx R ws C G N W ph sp cy L D Q z ov h A v hG) [(0,0),(1,1),(2,2),(3,3),(4,4),(5,5),(6,6)] (fun r h' n' hrr => ?_)
 obtain ⟨z1,e1,e2,e3,h1⟩ := hrr
 subst e1 e2 e3
 conv => cbv
 refine cfr (scan_lx R ws C A N W ph sp cy L D Q z1 ov h1 o ho v hv) [(0,0),(1,1),(2,2),(3,3),(4,4),(5,5),(6,6),(7,7)] (fun r h' n' hrr => ?_)
 obtain ⟨X,C',G',ov',Q',z',e1,e2,e3,h2,hX,hS⟩ := hrr
 subst e1 e2 e3
 conv => cbv
 refine RetF.mk [.p .nils] [hpA 0 1 5 6 3 W ph sp cy,hpB 1 2 4 3 W,hpC 2 3 179 2 N,hpP 3 L,hpP 4 D,hpF 5 z' ov',hpP 6 Q',(7,.fix 0 o)] 8 (Re.at [(0,0),(1,1),(2,2),(3,3),(4,4),(5,5),(6,6),(7,7)] []) rfl ⟨X,C',G',ov',Q',z',rfl,rfl,rfl,h2,hX,hS⟩
theorem stepPop_lx (R : List Rw) (ws C G : List Int) (N W ph sp cy : Int) (L D Q : List PV) (z : ByteArray) (ov : Bool) (h : HM R ws C G N W L D Q z) (o : Unit → Obj) (ho : IsPow o) (A : List Int) (v : Int) (hG : G = A ++ [v]) (hph : ph = 1) : CallF (fun _ => Tryz.prog) 20 [.ptr 0 (.lit 0)] [hpA 0 1 5 6 3 W ph sp cy,hpB 1 2 4 3 W,hpC 2 3 179 2 N,hpP 3 L,hpP 4 D,hpF 5 z ov,hpP 6 Q,(7,.fix 0 o)] 8 (fun r h n => ∃ (X C' G' : List Int) (ov' : Bool) (Q' : List PV) (z' : ByteArray),r = .p .nils ∧ h = [hpA 0 1 5 6 3 W ph sp cy,hpB 1 2 4 3 W,hpC 2 3 179 2 N,hpP 3 L,hpP 4 D,hpF 5 z' ov',hpP 6 Q',(7,.fix 0 o)] ∧ n = 8 ∧ HM R ws C' G' N W L D Q' z' ∧ Wrds R ws v X ∧ (C',G',ov') = scanS R ph v X (C,A,ov)) := by
 refine callF_of_body tok Tryz.func20 (by kernel_rfl) rfl rfl rfl ?_; conv => cbv
 refine cfr (phase_lx R ws C G N W ph sp cy L D Q z ov) [(0,0),(1,1),(2,2),(3,3),(4,4),(5,5),(6,6)] (fun r h' n' ⟨e1,e2,e3⟩ => ?_)
 subst e1 e2 e3
 conv => cbv
 refine Br.mk (fun g => ?_) (fun g => ?_)
 case refine_2 =>
  have g : ¬ ph = 1 := g
  exact absurd hph g
 conv => cbv
 refine cfr (markPop_lx R ws C G N W ph sp cy L D Q z ov h o ho A v hG) [(0,0),(1,1),(2,2),(3,3),(4,4),(5,5),(6,6),(7,7)] (fun r h' n' hrr => ?_)
 obtain ⟨X,C',G',ov',Q',z',e1,e2,e3,h2,hX,hS⟩ := hrr
 subst e1 e2 e3
 conv => cbv
 refine RetF.mk [.p .nils] [hpA 0 1 5 6 3 W ph sp cy,hpB 1 2 4 3 W,hpC 2 3 179 2 N,hpP 3 L,hpP 4 D,hpF 5 z' ov',hpP 6 Q',(7,.fix 0 o)] 8 (Re.at [(0,0),(1,1),(2,2),(3,3),(4,4),(5,5),(6,6),(7,7)] []) rfl ⟨X,C',G',ov',Q',z',rfl,rfl,rfl,h2,hX,hS⟩
theorem stepIdle_lx (R : List Rw) (ws C G : List Int) (N W ph sp cy : Int) (L D Q : List PV) (z : ByteArray) (ov : Bool) (h : HM R ws C G N W L D Q z) (hph : ph = 0) : CallF (fun _ => Tryz.prog) 20 [.ptr 0 (.lit 0)] [hpA 0 1 5 6 3 W ph sp cy,hpB 1 2 4 3 W,hpC 2 3 179 2 N,hpP 3 L,hpP 4 D,hpF 5 z ov,hpP 6 Q] 7 (fun r h n => r = .p .nils ∧ h = [hpA 0 1 5 6 3 W ph sp cy,hpB 1 2 4 3 W,hpC 2 3 179 2 N,hpP 3 L,hpP 4 D,hpF 5 z ov,hpP 6 Q] ∧ n = 7) := by
 refine callF_of_body tok Tryz.func20 (by kernel_rfl) rfl rfl rfl ?_; conv => cbv
 refine cfr (phase_lx R ws C G N W ph sp cy L D Q z ov) [(0,0),(1,1),(2,2),(3,3),(4,4),(5,5),(6,6)] (fun r h' n' ⟨e1,e2,e3⟩ => ?_)
 subst e1 e2 e3
 conv => cbv
 refine Br.mk (fun g => ?_) (fun g => ?_)
 case refine_1 =>
  have g : ph = 1 := g
  exfalso
  omega
 conv => cbv
 refine Br.mk (fun g => ?_) (fun g => ?_)
 case refine_1 =>
  have g : ph = 2 := g
  exfalso
  omega
 conv => cbv
 refine RetF.mk [.p .nils] [hpA 0 1 5 6 3 W ph sp cy,hpB 1 2 4 3 W,hpC 2 3 179 2 N,hpP 3 L,hpP 4 D,hpF 5 z ov,hpP 6 Q] 7 (Re.at [(0,0),(1,1),(2,2),(3,3),(4,4),(5,5),(6,6)] []) rfl ⟨rfl,rfl,rfl⟩
theorem stepNil_lx : CallF (fun _ => Tryz.prog) 20 [.p .nilp] [] 0 (fun r h n => r = .p .nils ∧ h = [] ∧ n = 0) := by
 refine callF_of_body tok Tryz.func20 (by kernel_rfl) rfl rfl rfl ?_; conv => cbv
 refine callF_frame phaseNil_lx [] rfl trivial rfl rfl (fun r h' n' ⟨e1,e2,e3⟩ => ?_)
 subst e1 e2 e3
 conv => cbv
 refine Br.mk (fun g => ?_) (fun g => ?_)
 case refine_1 =>
  have g : (0 : Int) = 1 := g
  exfalso
  omega
 conv => cbv
 refine Br.mk (fun g => ?_) (fun g => ?_)
 case refine_1 =>
  have g : (0 : Int) = 2 := g
  exfalso
  omega
 conv => cbv
 refine RetF.mk [.p .nils] [] 0 (Re.at [] []) rfl ⟨rfl,rfl,rfl⟩
theorem shadeNil_lx (a : I) : CallF (fun _ => Tryz.prog) 61 [.p .nilp,.p (.int .i64 a)] [] 0 (fun r h n => r = .tup [] ∧ h = [] ∧ n = 0) := by
 refine callF_of_body tok Tryz.func61 (by kernel_rfl) rfl rfl rfl ?_; conv => cbv
 refine callF_frame phaseNil_lx [] rfl trivial rfl rfl (fun r h' n' ⟨e1,e2,e3⟩ => ?_)
 subst e1 e2 e3
 conv => cbv
 refine Br.mk (fun g => ?_) (fun g => ?_)
 case refine_2 =>
  have g : ¬ (0 : Int) ≠ 1 := g
  exfalso
  omega
 conv => cbv
 refine RetF.mk [] [] 0 (Re.at [] []) rfl ⟨rfl,rfl,rfl⟩
theorem scan_self {R : List Rw} {ph a : Int} {X C G : List Int} {ov : Bool} {s : List Int × List Int × Bool} (h : (C,G,ov) = scanS R ph a X s) (hl : a.toNat < C.length) : C[a.toNat]? = some 2 := by
 unfold scanS at h
 have h1 := congrArg Prod.fst h
 dsimp only at h1
 rw [h1] at hl ⊢
 rw [List.length_set] at hl
 exact List.getElem?_set_self hl
theorem beg_one {R : List Rw} {ws C G : List Int} {ov : Bool} {W a : Int} (ha : a ∈ objs R) (hA : AOk R ws) (hW : W = 32 * R.length) (hS : (C,G,ov) = begS R W [a]) : C = (List.replicate W.toNat 0).set a.toNat 1 ∧ G = [a] ∧ ov = false := by
 have hb := obj_bd hA ha
 have hS : (C,G,ov) = shade R 1 a (List.replicate W.toNat 0,[],false) := hS
 unfold shade at hS
 rw [if_pos ⟨rfl,ha,by show (List.replicate W.toNat (0 : Int))[a.toNat]? = some 0; rw [List.getElem?_replicate,if_pos (by omega)]⟩] at hS
 simpa using hS
theorem awake09_lx (o : Unit → Obj) (ho : IsPow o) : CallF (fun _ => Tryz.prog) 11 [] [(0,.fix 0 o)] 1 (fun r h n => r = .p (.bool true) ∧ h = [(0,.fix 0 o)] ∧ n = 1) := by
 obtain ⟨Rz,hRz⟩ : ∃ Rz,Rz = List.replicate (2 : Int).toNat ((0,[]) : Rw) := ⟨_,rfl⟩
 obtain ⟨wz,hwz⟩ : ∃ wz,wz = List.replicate (64 : Int).toNat (0 : Int) := ⟨_,rfl⟩
 obtain ⟨L0,hL0⟩ : ∃ L0,L0 = rpv Rz := ⟨_,rfl⟩
 obtain ⟨D0,hD0⟩ : ∃ D0,D0 = ipv wz := ⟨_,rfl⟩
 obtain ⟨z0,hz0⟩ : ∃ z0 : ByteArray,z0 = ⟨(enc []).toArray⟩ := ⟨_,rfl⟩
 have hM0 : HM Rz wz wz [] 2 64 L0 D0 D0 z0 := by
  have := HM.new (N := 2) (W := 64) (by decide) (by decide) (by decide) (L := L0) (D := D0) (Q := D0) (z := z0) (by rw [hL0,hRz]) (by rw [hD0,hwz]) (by rw [hD0,hwz]) hz0
  rw [← hRz,← hwz] at this
  exact this
 refine callF_of_body tok Tryz.func11 (by kernel_rfl) rfl rfl rfl ?_; conv => cbv
 refine CallF.le (args0 := [i6 2]) (callF_frame (newH_lx 2 64 (by decide) (by decide) rfl L0 D0 D0 z0 (by rw [hL0,hRz]) (by rw [hD0,hwz]) (by rw [hD0,hwz]) hz0) [] rfl trivial rfl rfl (fun r h' n' ⟨e1,e2,e3⟩ => ?_)) (by simp [ales,ale,pvle,I.val])
 subst e1 e2 e3
 conv => cbv
 refine cfr (arena_lx Rz wz wz [] 2 64 0 0 0 L0 D0 D0 z0 false) [(0,1),(1,2),(2,3),(3,4),(4,5),(5,6),(6,7)] (fun r h' n' ⟨e1,e2,e3⟩ => ?_)
 subst e1 e2 e3
 conv => cbv
 refine CallF.le (args0 := [.ptr 1 (.lit 0),i6 5,i6 2]) (cfr (alloc9_lx Rz wz wz [] 2 64 0 0 0 L0 D0 D0 z0 false hM0 5 2) [(0,1),(1,2),(2,3),(3,4),(4,5),(5,6),(6,7)] (fun r h' n' hrr => ?_)) (by simp [ales,ale,pvle,I.val])
 obtain ⟨a,e,R1,w1,C1,L1,D1,Q1,e1,e2,e3,hM1,hT,hC1⟩ := hrr
 subst e1 e2 e3
 conv => cbv
 have he : e = 0 := by have := alloct_err hM0.a hT (by rw [hRz]; decide); rw [if_pos (by decide)] at this; exact this
 have hk : Kept R1 w1 a 5 2 := by
  rcases alloct_gen9 hM0.a hT with h | h
  ·exact absurd he h.1
  ·exact h.2.2.1
 have ho1 : a ∈ objs R1 := (obj_iff hM1.a a).2 hk.obj6
 have hab := obj_bd hM1.a ho1
 have hR1l : (R1.length : Int) = 2 := hM1.n.symm
 have hC1l : C1.length = 64 := by have := hM1.c; omega
 refine CallF.re (args0 := [.ptr 1 (.lit 0),.p (.vsl (.sym 1) true [.int .i64 (.sym a)])]) (h' := [hpA 1 2 6 7 3 64 0 0 0,hpB 2 3 5 3 64,hpC 3 4 179 2 2,hpP 4 L1,hpP 5 D1,hpF 6 z0 false,hpP 7 Q1,(0,.fix 0 o)]) (Re.at [(0,0),(1,1),(2,2),(3,3),(4,4),(5,5),(6,6),(7,7)] []) (cfr (begin_lx R1 w1 C1 [] 2 64 0 0 0 L1 D1 Q1 z0 false hM1 o ho [a] 1 [.int .i64 (.sym a)] rfl rfl (by simp) rfl) [(0,1),(1,2),(2,3),(3,4),(4,5),(5,6),(6,7),(7,0)] (fun r h' n' hrr => ?_))
 obtain ⟨C2,G2,ov2,Q2,z2,e1,e2,e3,hM2,hS⟩ := hrr
 subst e1 e2 e3
 obtain ⟨hC2,hG2,_⟩ := beg_one ho1 hM1.a (show (64 : Int) = 32 * R1.length by omega) hS
 clear hS
 conv => cbv
 refine Br.yes (show e = 0 from he) ?_
 conv => cbv
 refine cfr (phase_lx R1 w1 C2 G2 2 64 1 0 0 L1 D1 Q2 z2 ov2) [(0,1),(1,2),(2,3),(3,4),(4,5),(5,9),(6,7)] (fun r h' n' ⟨e1,e2,e3⟩ => ?_)
 subst e1 e2 e3
 conv => cbv
 refine Br.yes (show (1 : Int) = 1 from rfl) ?_
 conv => cbv
 refine cfr (colour_lx R1 w1 C2 G2 2 64 1 0 0 L1 D1 Q2 z2 ov2 hM2 a) [(0,1),(1,2),(2,3),(3,4),(4,5),(5,9),(6,7)] (fun r h' n' hrr => ?_)
 obtain ⟨c1,e1,e2,e3,hc1,_⟩ := hrr
 subst e1 e2 e3
 conv => cbv
 have hc1 : c1 = 1 := by
  have := hc1 ho1
  rw [hC2,List.getElem?_set_self (by rw [List.length_replicate]; omega)] at this
  exact (Option.some.inj this).symm
 refine Br.yes (show c1 = 1 from hc1) ?_
 conv => cbv
 refine cfr (stepPop_lx R1 w1 C2 G2 2 64 1 0 0 L1 D1 Q2 z2 ov2 hM2 o ho [] a hG2 rfl) [(0,1),(1,2),(2,3),(3,4),(4,5),(5,9),(6,7),(7,0)] (fun r h' n' hrr => ?_)
 obtain ⟨X,C3,G3,ov3,Q3,z3,e1,e2,e3,hM3,hX,hS⟩ := hrr
 subst e1 e2 e3
 conv => cbv
 refine cfr (colour_lx R1 w1 C3 G3 2 64 1 0 0 L1 D1 Q3 z3 ov3 hM3 a) [(0,1),(1,2),(2,3),(3,4),(4,5),(5,9),(6,7)] (fun r h' n' hrr => ?_)
 obtain ⟨c2,e1,e2,e3,hc2,_⟩ := hrr
 subst e1 e2 e3
 conv => cbv
 have hc2 : c2 = 2 := by
  have := hc2 ho1
  rw [scan_self hS (by have := hM3.c; omega)] at this
  exact (Option.some.inj this).symm
 refine Br.yes (show c2 = 2 from hc2) ?_
 conv => cbv
 refine RetF.mk [.p (.bool true)] [(0,.fix 0 o)] 1 (Re.at [(0,0)] []) rfl ⟨rfl,rfl,rfl⟩
end Go.Proofs.YtjfdfbpgckilpaaGreatDoor
namespace Go.Proofs.YtjfdfbpgckilpaaGreatDoor
open Go Go.LX
set_option maxRecDepth 100000
set_option linter.unusedVariables false
set_option linter.unusedSimpArgs false
set_option maxHeartbeats 32000000
inductive NextG (R : List Rw) (C G : List Int) (ov : Bool) : Int → Bool → List Int → Bool → Prop
 | pop (A : List Int) (v : Int) (h : G = A ++ [v]) : NextG R C G ov v true A ov
 | none (h : G = []) (ho : ov = false) : NextG R C G ov 0 false [] false
 | found (i : Nat) (a : Int) (h : G = []) (ho : ov = true) (ha : (objs R)[i]? = some a) (hc : C[a.toNat]? = some 1) (hn : ∀ j b,j < i → (objs R)[j]? = some b → C[b.toNat]? ≠ some 1) : NextG R C G ov a true [] true
 | settle (h : G = []) (ho : ov = true) (hn : ∀ (j : Nat) b,(objs R)[j]? = some b → C[b.toNat]? ≠ some 1) : NextG R C G ov 0 false [] false
theorem NextG.det {R : List Rw} {C G G1 G2 : List Int} {ov o1 o2 b1 b2 : Bool} {v1 v2 : Int} (h1 : NextG R C G ov v1 b1 G1 o1) (h2 : NextG R C G ov v2 b2 G2 o2) : v1 = v2 ∧ b1 = b2 ∧ G1 = G2 ∧ o1 = o2 := by
 cases h1 with
 | pop A v h => cases h2 with
  | pop A' v' h' =>
   obtain ⟨rfl,e⟩ := List.append_inj' (h.symm.trans h') rfl
   obtain rfl : v1 = v2 := by simpa using e
   exact ⟨rfl,rfl,rfl,rfl⟩
  | none h' _ => rw [h'] at h; exact absurd h.symm (by simp)
  | found i a h' _ _ _ _ => rw [h'] at h; exact absurd h.symm (by simp)
  | settle h' _ _ => rw [h'] at h; exact absurd h.symm (by simp)
 | none h ho => cases h2 with
  | pop A' v' h' => rw [h] at h'; exact absurd h'.symm (by simp)
  | none _ _ => exact ⟨rfl,rfl,rfl,rfl⟩
  | found i a h' ho' _ _ _ => rw [ho] at ho'; cases ho'
  | settle h' ho' _ => rw [ho] at ho'; cases ho'
 | found i a h ho ha hc hn => cases h2 with
  | pop A' v' h' => rw [h] at h'; exact absurd h'.symm (by simp)
  | none _ ho' => rw [ho] at ho'; cases ho'
  | found i' a' h' ho' ha' hc' hn' =>
   obtain rfl : i = i' := by
    rcases Nat.lt_trichotomy i i' with q | q | q
    ·exact absurd hc (hn' _ _ q ha)
    ·exact q
    ·exact absurd hc' (hn _ _ q ha')
   rw [ha] at ha'
   obtain rfl := Option.some.inj ha'
   exact ⟨rfl,rfl,rfl,rfl⟩
  | settle _ _ hn' => exact absurd hc (hn' _ _ ha)
 | settle h ho hn => cases h2 with
  | pop A' v' h' => rw [h] at h'; exact absurd h'.symm (by simp)
  | none _ ho' => rw [ho] at ho'; cases ho'
  | found i' a' h' ho' ha' hc' hn' => exact absurd hc' (hn _ _ ha')
  | settle _ _ _ => exact ⟨rfl,rfl,rfl,rfl⟩
def Due (R : List Rw) (ws C : List Int) (a : Int) : Prop := (∃ l,Kept R ws a 5 l) ∧ C[a.toNat]? = some 0 ∧ ∃ x,Loaded R ws a 1 x 0 ∧ x ≠ 0
inductive NextF (R : List Rw) (ws C : List Int) : Int → Bool → Prop
 | found (i : Nat) (a : Int) (ha : (objs R)[i]? = some a) (hd : Due R ws C a) (hn : ∀ j b,j < i → (objs R)[j]? = some b → ¬ Due R ws C b) : NextF R ws C a true
 | none (hn : ∀ (j : Nat) b,(objs R)[j]? = some b → ¬ Due R ws C b) : NextF R ws C 0 false
theorem NextF.det {R : List Rw} {ws C : List Int} {b1 b2 : Bool} {v1 v2 : Int} (h1 : NextF R ws C v1 b1) (h2 : NextF R ws C v2 b2) : v1 = v2 ∧ b1 = b2 := by
 cases h1 with
 | found i a ha hd hn => cases h2 with
  | found i' a' ha' hd' hn' =>
   obtain rfl : i = i' := by
    rcases Nat.lt_trichotomy i i' with q | q | q
    ·exact absurd hd (hn' _ _ q ha)
    ·exact q
    ·exact absurd hd' (hn _ _ q ha')
   rw [ha] at ha'
   obtain rfl := Option.some.inj ha'
   exact ⟨rfl,rfl⟩
  | none hn' => exact absurd hd (hn' _ _ ha)
 | none hn => cases h2 with
  | found i' a' ha' hd' hn' => exact absurd hd' (hn _ _ ha')
  | none _ => exact ⟨rfl,rfl⟩
abbrev Gn := Int × Int × List Int × Bool
def gpv : List Gn → List PV
 | [] => []
 | g :: l => .int .i64 (.sym g.1) :: .int .i64 (.sym g.2.1) :: .vsl (.sym (g.2.2.1.length : Int)) true (ipv g.2.2.1) :: .bool g.2.2.2 :: gpv l
theorem gpv_length : ∀ l,(gpv l).length = 4 * l.length
 | [] => rfl
 | g :: l => by simp [gpv,gpv_length l]; omega
theorem gpv_app : ∀ l m,gpv (l ++ m) = gpv l ++ gpv m
 | [],m => rfl
 | g :: l,m => by simp [gpv,gpv_app l m]
inductive Marked (R : List Rw) (ws C G : List Int) (ov : Bool) (sp : Int) : List Gn → Int → Int → List Int → List Int → List Int → Bool → Prop
 | scan (v : Int) (A X C' G' : List Int) (o1 ov' : Bool) (hg : NextG R C G ov v true A o1) (hX : Wrds R ws v X) (hs : (C',G',ov') = scanS R 1 v X (C,A,o1)) : Marked R ws C G ov sp [] 1 sp ws C' G' ov'
 | keep (a : Int) (A X ws' C' G' : List Int) (o1 ov' : Bool) (hg : NextG R C G ov 0 false A o1) (hf : NextF R ws C a true) (hX : Wrds R ws a X) (hst : Stored R ws a 1 0 0 ws') (hs : (C',G',ov') = shade R 1 a (C,A,o1)) : Marked R ws C G ov sp [(5,a,X,true)] 1 sp ws' C' G' ov'
 | sweep (A : List Int) (o1 : Bool) (hg : NextG R C G ov 0 false A o1) (hf : NextF R ws C 0 false) : Marked R ws C G ov sp [] 2 0 ws C A o1
end Go.Proofs.YtjfdfbpgckilpaaGreatDoor
namespace Go.Proofs.YtjfdfbpgckilpaaGreatDoor
open Go Go.LX
set_option maxRecDepth 100000
set_option linter.unusedVariables false
set_option linter.unusedSimpArgs false
set_option maxHeartbeats 32000000
theorem HM.over {R : List Rw} {ws C G : List Int} {N W : Int} {L D Q : List PV} {z z' : ByteArray} {G' : List Int} (h : HM R ws C G N W L D Q z) (hz : z' = ⟨(enc G').toArray⟩) (hG : G = [] ∧ G' = []) : HM R ws C G' N W L D Q z' :=
 ⟨h.a,h.k,h.n,h.r,h.w,h.l,h.d,h.q,h.c,hz,fun x hx => (by rw [hG.2] at hx; cases hx),(by rw [hG.2]; exact Nat.zero_le _)⟩
theorem nextGrey_lx (R : List Rw) (ws C G : List Int) (N W ph sp cy : Int) (L D Q : List PV) (z : ByteArray) (ov : Bool) (h : HM R ws C G N W L D Q z) : CallF (fun _ => Tryz.prog) 126 [.ptr 0 (.lit 0)] [hpA 0 1 5 6 3 W ph sp cy,hpB 1 2 4 3 W,hpC 2 3 179 2 N,hpP 3 L,hpP 4 D,hpF 5 z ov,hpP 6 Q] 7 (fun r h n => ∃ (v : Int) (b : Bool) (G' : List Int) (ov' : Bool) (z' : ByteArray),r = .tup [i6 v,.p (.bool b)] ∧ h = [hpA 0 1 5 6 3 W ph sp cy,hpB 1 2 4 3 W,hpC 2 3 179 2 N,hpP 3 L,hpP 4 D,hpF 5 z' ov',hpP 6 Q] ∧ n = 7 ∧ HM R ws C G' N W L D Q z' ∧ NextG R C G ov v b G' ov') := by
 by_cases hG0 : G = []
 case neg =>
  obtain ⟨A,v,hG⟩ : ∃ A v,G = A ++ [v] := ⟨_,_,(List.dropLast_concat_getLast hG0).symm⟩
  exact (nextGreyPop_lx R ws C G N W ph sp cy L D Q z ov h A v hG).mono fun r h' n' ⟨z',e1,e2,e3,h2⟩ => ⟨v,true,A,ov,z',e1,e2,e3,h2,.pop A v hG⟩
 refine callF_of_body tok Tryz.func126 (by kernel_rfl) rfl rfl rfl ?_; conv => cbv
 refine cfr (greyPop_lx G z ov h.z h.g64 h.g8) [(0,5)] (fun r h' n' hrr => ?_)
 obtain ⟨v2,b,z',A',e1,e2,e3,hz',h4⟩ := hrr
 subst e1 e2 e3
 obtain ⟨rfl,rfl,hA'⟩ : v2 = 0 ∧ b = false ∧ A' = [] := by
  rcases h4 with ⟨_,e1,e2,e3⟩ | ⟨e,_⟩
  ·exact ⟨e1,e2,e3⟩
  ·rw [hG0] at e; exact absurd e (by simp)
 have h1 := h.over hz' ⟨hG0,hA'⟩
 conv => cbv
 refine cfr (greyOver_lx z' ov) [(0,5)] (fun r h' n' ⟨e1,e2,e3⟩ => ?_)
 subst e1 e2 e3
 cases ov with
 | false =>
  conv => cbv
  refine RetF.mk [i6 0,.p (.bool false)] [hpA 0 1 5 6 3 W ph sp cy,hpB 1 2 4 3 W,hpC 2 3 179 2 N,hpP 3 L,hpP 4 D,hpF 5 z' false,hpP 6 Q] 7 (Re.at [(0,0),(1,1),(2,2),(3,3),(4,4),(5,5),(6,6)] []) rfl ⟨0,false,A',false,z',rfl,rfl,rfl,h1,by rw [hA']; exact .none hG0 rfl⟩
 | true =>
  conv => cbv
  obtain ⟨m,hm⟩ : ∃ m : Int,m = objCount R := ⟨_,rfl⟩
  refine cfr (objects_lx m R N W L D h.l h.n h.r h.a.rows h.w hm) [(0,1),(1,2),(2,3),(3,4)] (fun r h' n' hrr => ?_)
  obtain ⟨O,e1,e2,e3,hO⟩ := hrr
  subst e1 e2 e3
  have hOl : (O.length : Int) = m := by rw [hO,ipv_length,objs_length h.a.rows,hm]
  have hO : O = ipv (objs R) := hO
  have hol : ((objs R).length : Int) = m := by rw [← hOl,hO,ipv_length]
  have hob : m ≤ 8000 := by have := objsTo_le R R.length; rw [objs_length h.a.rows] at this; have := h.r; omega
  conv => cbv
  refine LoopF.mk (fun k s => ∃ i : Int,s = ⟨.ptr 0 (.lit 0) :: (undefs 27 ++ .sl 7 3 1 (.lit 0) (.sym m) :: .p (.int .i64 (.sym m)) :: .p (.int .i64 (.sym i)) :: undefs 13),[hpA 0 1 5 6 3 W ph sp cy,hpB 1 2 4 3 W,hpC 2 3 179 2 N,hpP 3 L,hpP 4 D,hpF 5 z' true,hpP 6 Q,hpP 7 O],8⟩ ∧ 0 ≤ i ∧ i ≤ m ∧ (∀ (j : Nat) b,(j : Int) < i → (objs R)[j]? = some b → C[b.toNat]? ≠ some 1) ∧ k = (m - i).toNat) m.toNat _
   (Re.at [(0,0),(1,1),(2,2),(3,3),(4,4),(5,5),(6,6),(7,7)] []) ⟨0,rfl,by omega,by omega,fun j b hj => by omega,by omega⟩ ?_
  rintro k s ⟨i,rfl,hi0,hi1,hn,hk⟩
  conv => cbv
  refine Br.mk (fun gi => ?_) (fun gi => ?_)
  ·have gi : i < m := gi
   obtain ⟨k',rfl⟩ : ∃ k',k = k' + 1 := ⟨k - 1,by omega⟩
   obtain ⟨a,ha⟩ : ∃ a,(objs R)[i.toNat]? = some a := ⟨_,List.getElem?_eq_getElem (by omega)⟩
   have hc : O[i.toNat]? = some (.int .i64 (.sym a)) := by rw [hO]; exact ipv_get ha
   conv => cbv
   refine Need.mk ⟨hi0,gi⟩ ?_
   conv => cbv
   refine Cell.at i _ hc (by simp [I.val]) rfl ?_
   conv => cbv
   refine CallF.le (args0 := [.ptr 0 (.lit 0),i6 a,i6 1]) (cfr (is_lx R ws C A' N W ph sp cy L D Q z' true h1 a 1) [(0,0),(1,1),(2,2),(3,3),(4,4),(5,5),(6,6)] (fun r h' n' hrr => ?_)) (by simp [ales,ale,pvle,I.val])
   obtain ⟨b,e1,e2,e3,hb⟩ := hrr
   subst e1 e2 e3
   cases b with
   | true =>
    conv => cbv
    refine RetF.mk [i6 a,.p (.bool true)] [hpA 0 1 5 6 3 W ph sp cy,hpB 1 2 4 3 W,hpC 2 3 179 2 N,hpP 3 L,hpP 4 D,hpF 5 z' true,hpP 6 Q] 7 (Re.at [(0,0),(1,1),(2,2),(3,3),(4,4),(5,5),(6,6)] []) rfl ⟨a,true,A',true,z',rfl,rfl,rfl,h1,by rw [hA']; exact .found i.toNat a hG0 rfl ha (hb.1 rfl).2 (fun j b hj => hn j b (by omega))⟩
   | false =>
    have hna : C[a.toNat]? ≠ some 1 := fun hx => by have := hb.2 ⟨List.mem_of_getElem? ha,hx⟩; cases this
    conv => cbv
    refine Fit.mk (by show (-9223372036854775808 : Int) ≤ i + 1; omega) (by show i + 1 ≤ 9223372036854775807; omega) fun i2 hi2 => ?_
    have hi2 : i2 = i + 1 := hi2
    conv => cbv
    refine Again.mk k' _ (Nat.lt_succ_self _) (Re.at [(0,0),(1,1),(2,2),(3,3),(4,4),(5,5),(6,6),(7,7)] []) ⟨i2,rfl,by omega,by omega,fun j b hj hjb => ?_,by omega⟩
    by_cases q : j = i.toNat
    ·rw [q,ha] at hjb; obtain rfl := Option.some.inj hjb; exact hna
    ·have hj : (j : Int) < i2 := hj
     have hj2 : (j : Int) < i := by omega
     exact hn j b hj2 hjb
  ·have gi : ¬ i < m := gi
   conv => cbv
   refine cfr (greySettle_lx z' true) [(0,5)] (fun r h' n' ⟨e1,e2,e3⟩ => ?_)
   subst e1 e2 e3
   conv => cbv
   refine RetF.mk [i6 0,.p (.bool false)] [hpA 0 1 5 6 3 W ph sp cy,hpB 1 2 4 3 W,hpC 2 3 179 2 N,hpP 3 L,hpP 4 D,hpF 5 z' false,hpP 6 Q] 7 (Re.at [(0,0),(1,1),(2,2),(3,3),(4,4),(5,5),(6,6)] []) rfl ⟨0,false,A',false,z',rfl,rfl,rfl,h1,by rw [hA']; exact .settle hG0 rfl (fun j b hj => hn j b (by have := (List.getElem?_eq_some_iff.1 hj).1; omega) hj)⟩
end Go.Proofs.YtjfdfbpgckilpaaGreatDoor
namespace Go.Proofs.YtjfdfbpgckilpaaGreatDoor
open Go Go.LX
set_option maxRecDepth 100000
set_option linter.unusedVariables false
set_option linter.unusedSimpArgs false
set_option maxHeartbeats 32000000
inductive LookR (R : List Rw) (ws : List Int) (a : Int) : LV → Prop
 | box (x e : Int) (hk : KindR R ws a 5) (hx : Loaded R ws a 1 x e) : LookR R ws a (.iface 171 (.agg [i6 a,i6 x]))
 | other (k : Int) (hk : KindR R ws a k) (hne : k ≠ 5) : LookR R ws a (.iface 281 (.agg []))
theorem look9_lx (R : List Rw) (ws C G : List Int) (N W ph sp cy : Int) (L D Q : List PV) (z : ByteArray) (ov : Bool) (h : HM R ws C G N W L D Q z) (a : Int) : CallF (fun _ => Tryz.prog) 186 [.ptr 0 (.lit 0),i6 a] [hpA 0 1 5 6 3 W ph sp cy,hpB 1 2 4 3 W,hpC 2 3 179 2 N,hpP 3 L,hpP 4 D,hpF 5 z ov,hpP 6 Q] 7 (fun r h n => LookR R ws a r ∧ h = [hpA 0 1 5 6 3 W ph sp cy,hpB 1 2 4 3 W,hpC 2 3 179 2 N,hpP 3 L,hpP 4 D,hpF 5 z ov,hpP 6 Q] ∧ n = 7) := by
 refine callF_of_body tok Tryz.func186 (by kernel_rfl) rfl rfl rfl ?_; conv => cbv
 refine cfr (kind_lx R ws N a W L D h.l h.d h.n h.r h.a h.w) [(0,1),(1,2),(2,3),(3,4)] (fun r h' n' hrr => ?_)
 obtain ⟨v,e1,e2,e3,hv⟩ := hrr
 subst e1 e2 e3
 conv => cbv
 refine Br.mk (fun g => ?_) (fun g => ?_)
 ·have g : v = 5 := g
  conv => cbv
  refine CallF.le (args0 := [.ptr 1 (.lit 0),i6 a,i6 1]) (cfr (load_lx 1 R ws N a W L D h.l h.d h.n h.r h.a h.w) [(0,1),(1,2),(2,3),(3,4)] (fun r h' n' hrr => ?_)) (by simp [ales,ale,pvle,I.val])
  obtain ⟨x,e,e1,e2,e3,hx⟩ := hrr
  subst e1 e2 e3
  conv => cbv
  refine RetF.mk [.iface 171 (.agg [i6 a,i6 x])] [hpA 0 1 5 6 3 W ph sp cy,hpB 1 2 4 3 W,hpC 2 3 179 2 N,hpP 3 L,hpP 4 D,hpF 5 z ov,hpP 6 Q] 7 (Re.at [(0,0),(1,1),(2,2),(3,3),(4,4),(5,5),(6,6)] []) rfl ⟨.box x e (g ▸ hv) hx,rfl,rfl⟩
 ·have g : ¬ v = 5 := g
  conv => cbv
  refine RetF.mk [.iface 281 (.agg [])] [hpA 0 1 5 6 3 W ph sp cy,hpB 1 2 4 3 W,hpC 2 3 179 2 N,hpP 3 L,hpP 4 D,hpF 5 z ov,hpP 6 Q] 7 (Re.at [(0,0),(1,1),(2,2),(3,3),(4,4),(5,5),(6,6)] []) rfl ⟨.other v hv g,rfl,rfl⟩
theorem nextFinal_lx (R : List Rw) (ws C G : List Int) (N W ph sp cy : Int) (L D Q : List PV) (z : ByteArray) (ov : Bool) (h : HM R ws C G N W L D Q z) : CallF (fun _ => Tryz.prog) 128 [.ptr 0 (.lit 0)] [hpA 0 1 5 6 3 W ph sp cy,hpB 1 2 4 3 W,hpC 2 3 179 2 N,hpP 3 L,hpP 4 D,hpF 5 z ov,hpP 6 Q] 7 (fun r h n => ∃ (a x : Int) (b : Bool),r = .tup [.agg [i6 a,i6 x],.p (.bool b)] ∧ h = [hpA 0 1 5 6 3 W ph sp cy,hpB 1 2 4 3 W,hpC 2 3 179 2 N,hpP 3 L,hpP 4 D,hpF 5 z ov,hpP 6 Q] ∧ n = 7 ∧ NextF R ws C a b) := by
 obtain ⟨m,hm⟩ : ∃ m : Int,m = objCount R := ⟨_,rfl⟩
 refine callF_of_body tok Tryz.func128 (by kernel_rfl) rfl rfl rfl ?_; conv => cbv
 refine cfr (objects_lx m R N W L D h.l h.n h.r h.a.rows h.w hm) [(0,1),(1,2),(2,3),(3,4)] (fun r h' n' hrr => ?_)
 obtain ⟨O,e1,e2,e3,hO⟩ := hrr
 subst e1 e2 e3
 have hOl : (O.length : Int) = m := by rw [hO,ipv_length,objs_length h.a.rows,hm]
 have hO : O = ipv (objs R) := hO
 have hol : ((objs R).length : Int) = m := by rw [← hOl,hO,ipv_length]
 have hob : m ≤ 8000 := by have := objsTo_le R R.length; rw [objs_length h.a.rows] at this; have := h.r; omega
 conv => cbv
 refine LoopF.mk (fun k s => ∃ i : Int,s = ⟨.ptr 0 (.lit 0) :: .undef :: .ptr 7 (.lit 0) :: .p (.bool false) :: (undefs 8 ++ .sl 8 3 1 (.lit 0) (.sym m) :: .p (.int .i64 (.sym m)) :: .p (.int .i64 (.sym i)) :: undefs 24),[hpA 0 1 5 6 3 W ph sp cy,hpB 1 2 4 3 W,hpC 2 3 179 2 N,hpP 3 L,hpP 4 D,hpF 5 z ov,hpP 6 Q,hpP 8 O,(7,.pure false [.int .i64 (.lit 0),.int .i64 (.lit 0)])],9⟩ ∧ 0 ≤ i ∧ i ≤ m ∧ (∀ (j : Nat) b,(j : Int) < i → (objs R)[j]? = some b → ¬ Due R ws C b) ∧ k = (m - i).toNat) m.toNat _
  (Re.at [(0,0),(1,1),(2,2),(3,3),(4,4),(5,5),(6,6),(7,7),(8,8)] []) ⟨0,rfl,by omega,by omega,fun j b hj => by omega,by omega⟩ ?_
 rintro k s ⟨i,rfl,hi0,hi1,hn,hk⟩
 conv => cbv
 refine Br.mk (fun gi => ?_) (fun gi => ?_)
 ·have gi : i < m := gi
  obtain ⟨k',rfl⟩ : ∃ k',k = k' + 1 := ⟨k - 1,by omega⟩
  obtain ⟨a,ha⟩ : ∃ a,(objs R)[i.toNat]? = some a := ⟨_,List.getElem?_eq_getElem (by omega)⟩
  have hc : O[i.toNat]? = some (.int .i64 (.sym a)) := by rw [hO]; exact ipv_get ha
  have hob2 := (obj_iff h.a a).1 (List.mem_of_getElem? ha)
  have hstep : ∀ i2 : Int,i2 = i + 1 → ¬ Due R ws C a → ∀ (j : Nat) b,(j : Int) < i2 → (objs R)[j]? = some b → ¬ Due R ws C b := by
   intro i2 hi2 hd j b hj hjb
   by_cases q : j = i.toNat
   ·rw [q,ha] at hjb; obtain rfl := Option.some.inj hjb; exact hd
   ·exact hn j b (by omega) hjb
  conv => cbv
  refine Need.mk ⟨hi0,gi⟩ ?_
  conv => cbv
  refine Cell.at i _ hc (by simp [I.val]) rfl ?_
  conv => cbv
  refine cfr (look9_lx R ws C G N W ph sp cy L D Q z ov h a) [(0,0),(1,1),(2,2),(3,3),(4,4),(5,5),(6,6)] (fun r h' n' hrr => ?_)
  obtain ⟨hL,e2,e3⟩ := hrr
  subst e2 e3
  cases hL with
  | other k2 hk2 hne =>
   have hnd : ¬ Due R ws C a := by
    rintro ⟨⟨l,hK⟩,_⟩
    cases hk2 with
    | no hno => exact hno hob2
    | is _ l2 hK2 => exact hne (hK2.det9 hK).1
   conv => cbv
   refine Fit.mk (by show (-9223372036854775808 : Int) ≤ i + 1; omega) (by show i + 1 ≤ 9223372036854775807; omega) fun i2 hi2 => ?_
   have hi2 : i2 = i + 1 := hi2
   conv => cbv
   refine Again.mk k' _ (Nat.lt_succ_self _) (Re.at [(0,0),(1,1),(2,2),(3,3),(4,4),(5,5),(6,6),(7,7),(8,8)] []) ⟨i2,rfl,by omega,by omega,hstep i2 hi2 hnd,by omega⟩
  | box x e hk2 hx =>
   obtain ⟨l,hK⟩ : ∃ l,Kept R ws a 5 l := by
    generalize hk5 : (5 : Int) = k5 at hk2
    cases hk2 with
    | no _ => cases hk5
    | is _ l hK => exact ⟨l,hk5 ▸ hK⟩
   have hx0 : x ≠ 0 → e = 0 := by
    intro hne
    generalize h1 : (1 : Int) = i1 at hx
    cases hx with
    | none _ => exact absurd rfl hne
    | arg _ _ _ _ => exact absurd rfl hne
    | ok _ _ _ _ _ _ => rfl
   conv => cbv
   refine Br.mk (fun gx => ?_) (fun gx => ?_)
   ·have gx : x ≠ 0 := gx
    obtain rfl := hx0 gx
    conv => cbv
    refine CallF.le (args0 := [.ptr 0 (.lit 0),i6 a,i6 0]) (cfr (is_lx R ws C G N W ph sp cy L D Q z ov h a 0) [(0,0),(1,1),(2,2),(3,3),(4,4),(5,5),(6,6)] (fun r h' n' hrr => ?_)) (by simp [ales,ale,pvle,I.val])
    obtain ⟨b,e1,e2,e3,hb⟩ := hrr
    subst e1 e2 e3
    cases b with
    | true =>
     conv => cbv
     refine RetF.mk [.agg [i6 a,i6 x],.p (.bool true)] [hpA 0 1 5 6 3 W ph sp cy,hpB 1 2 4 3 W,hpC 2 3 179 2 N,hpP 3 L,hpP 4 D,hpF 5 z ov,hpP 6 Q] 7 (Re.at [(0,0),(1,1),(2,2),(3,3),(4,4),(5,5),(6,6)] []) rfl ⟨a,x,true,rfl,rfl,rfl,.found i.toNat a ha ⟨⟨l,hK⟩,(hb.1 rfl).2,x,hx,gx⟩ (fun j b hj => hn j b (by omega))⟩
    | false =>
     have hnd : ¬ Due R ws C a := fun hd => by have := hb.2 ⟨List.mem_of_getElem? ha,hd.2.1⟩; cases this
     conv => cbv
     refine Fit.mk (by show (-9223372036854775808 : Int) ≤ i + 1; omega) (by show i + 1 ≤ 9223372036854775807; omega) fun i2 hi2 => ?_
     have hi2 : i2 = i + 1 := hi2
     conv => cbv
     refine Again.mk k' _ (Nat.lt_succ_self _) (Re.at [(0,0),(1,1),(2,2),(3,3),(4,4),(5,5),(6,6),(7,7),(8,8)] []) ⟨i2,rfl,by omega,by omega,hstep i2 hi2 hnd,by omega⟩
   ·have gx : ¬ x ≠ 0 := gx
    have hnd : ¬ Due R ws C a := by
     rintro ⟨_,_,y,hy,hy0⟩
     obtain ⟨rfl,_⟩ := loaded_det hx hy
     exact gx hy0
    conv => cbv
    refine Fit.mk (by show (-9223372036854775808 : Int) ≤ i + 1; omega) (by show i + 1 ≤ 9223372036854775807; omega) fun i2 hi2 => ?_
    have hi2 : i2 = i + 1 := hi2
    conv => cbv
    refine Again.mk k' _ (Nat.lt_succ_self _) (Re.at [(0,0),(1,1),(2,2),(3,3),(4,4),(5,5),(6,6),(7,7),(8,8)] []) ⟨i2,rfl,by omega,by omega,hstep i2 hi2 hnd,by omega⟩
 ·have gi : ¬ i < m := gi
  conv => cbv
  refine RetF.mk [.agg [i6 0,i6 0],.p (.bool false)] [hpA 0 1 5 6 3 W ph sp cy,hpB 1 2 4 3 W,hpC 2 3 179 2 N,hpP 3 L,hpP 4 D,hpF 5 z ov,hpP 6 Q] 7 (Re.at [(0,0),(1,1),(2,2),(3,3),(4,4),(5,5),(6,6)] []) rfl ⟨0,0,false,rfl,rfl,rfl,.none (fun j b hj => hn j b (by have := (List.getElem?_eq_some_iff.1 hj).1; omega) hj)⟩
theorem wordsV_lx (R : List Rw) (ws C G : List Int) (N W ph sp cy : Int) (L D Q : List PV) (z : ByteArray) (ov : Bool) (h : HM R ws C G N W L D Q z) (a : Int) : CallF (fun _ => Tryz.prog) 130 [.ptr 0 (.lit 0),i6 a] [hpA 0 1 5 6 3 W ph sp cy,hpB 1 2 4 3 W,hpC 2 3 179 2 N,hpP 3 L,hpP 4 D,hpF 5 z ov,hpP 6 Q] 7 (fun r h n => ∃ (X : List Int) (m : Int) (O : List PV),r = .p (.vsl (.sym m) true O) ∧ h = [hpA 0 1 5 6 3 W ph sp cy,hpB 1 2 4 3 W,hpC 2 3 179 2 N,hpP 3 L,hpP 4 D,hpF 5 z ov,hpP 6 Q] ∧ n = 7 ∧ O = ipv X ∧ m = X.length ∧ Wrds R ws a X) :=
 (wordsH_lx R ws C G N W ph sp cy L D Q z ov h a).ret fun r h' n' ⟨X,m,O,e1,e2,e3,hO,hm,hX⟩ => by
  subst e1 e2 e3
  exact RetF.mk [.p (.vsl (.sym m) true O)] [hpA 0 1 5 6 3 W ph sp cy,hpB 1 2 4 3 W,hpC 2 3 179 2 N,hpP 3 L,hpP 4 D,hpF 5 z ov,hpP 6 Q] 7 (Re.at [(0,0),(1,1),(2,2),(3,3),(4,4),(5,5),(6,6)] []) rfl ⟨X,m,O,rfl,rfl,rfl,hO,hm,hX⟩
theorem shadeW_zero (R : List Rw) (ph : Int) (s : List Int × List Int × Bool) (e : Int) : storeS R ph e 0 s = s := by
 unfold storeS shadeW
 split
 ·rw [if_neg (by decide)]
 ·rfl
theorem keep_lx (R : List Rw) (ws C G : List Int) (N W ph sp cy : Int) (L D Q : List PV) (z : ByteArray) (ov : Bool) (h : HM R ws C G N W L D Q z) (o : Unit → Obj) (ho : IsPow o) (a x : Int) : CallF (fun _ => Tryz.prog) 129 [.ptr 0 (.lit 0),.agg [i6 a,i6 x]] [hpA 0 1 5 6 3 W ph sp cy,hpB 1 2 4 3 W,hpC 2 3 179 2 N,hpP 3 L,hpP 4 D,hpF 5 z ov,hpP 6 Q,(7,.fix 0 o)] 8 (fun r h n => ∃ (X : List Int) (m e : Int) (O : List PV) (ws' C' G' : List Int) (ov' : Bool) (D' Q' : List PV) (z' : ByteArray),r = .agg [.p (.int .i64 (.lit 5)),i6 a,.p (.vsl (.sym m) true O),.p (.bool true)] ∧ h = [hpA 0 1 5 6 3 W ph sp cy,hpB 1 2 4 3 W,hpC 2 3 179 2 N,hpP 3 L,hpP 4 D',hpF 5 z' ov',hpP 6 Q',(7,.fix 0 o)] ∧ n = 8 ∧ HM R ws' C' G' N W L D' Q' z' ∧ O = ipv X ∧ m = X.length ∧ Wrds R ws a X ∧ Stored R ws a 1 0 e ws' ∧ (C',G',ov') = shade R ph a (C,G,ov)) := by
 refine callF_of_body tok Tryz.func129 (by kernel_rfl) rfl rfl rfl ?_; conv => cbv
 refine cfr (wordsV_lx R ws C G N W ph sp cy L D Q z ov h a) [(0,0),(1,1),(2,2),(3,3),(4,4),(5,5),(6,6)] (fun r h' n' hrr => ?_)
 obtain ⟨X,m,O,e1,e2,e3,hO,hm,hX⟩ := hrr
 subst e1 e2 e3
 conv => cbv
 refine CallF.le (args0 := [.ptr 0 (.lit 0),i6 a,i6 1,i6 0]) (cfr (store9_lx R ws C G N W ph sp cy L D Q z ov h o ho a 1 0 (by decide)) [(0,0),(1,1),(2,2),(3,3),(4,4),(5,5),(6,6),(7,7)] (fun r h' n' hrr => ?_)) (by simp [ales,ale,pvle,I.val])
 obtain ⟨e,ws',C1,G1,ov1,D',Q1,z1,e1,e2,e3,h1,hT,hS⟩ := hrr
 subst e1 e2 e3
 rw [shadeW_zero] at hS
 conv => cbv
 refine cfr (shade_lx R ws' C1 G1 N W ph sp cy L D' Q1 z1 ov1 h1 o ho a) [(0,0),(1,1),(2,2),(3,3),(4,4),(5,5),(6,6),(7,7)] (fun r h' n' hrr => ?_)
 obtain ⟨C',G',ov',Q',z',e1,e2,e3,h2,hS2⟩ := hrr
 subst e1 e2 e3
 rw [hS] at hS2
 conv => cbv
 refine RetF.mk [.agg [.p (.int .i64 (.lit 5)),i6 a,.p (.vsl (.sym m) true O),.p (.bool true)]] [hpA 0 1 5 6 3 W ph sp cy,hpB 1 2 4 3 W,hpC 2 3 179 2 N,hpP 3 L,hpP 4 D',hpF 5 z' ov',hpP 6 Q',(7,.fix 0 o)] 8 (Re.at [(0,0),(1,1),(2,2),(3,3),(4,4),(5,5),(6,6),(7,7)] []) rfl ⟨X,m,e,O,ws',C',G',ov',D',Q',z',rfl,rfl,rfl,h2,hO,hm,hX,hT,hS2⟩
theorem markH_lx (R : List Rw) (ws C G : List Int) (N W ph sp cy : Int) (L D Q : List PV) (z : ByteArray) (ov : Bool) (h : HM R ws C G N W L D Q z) (o : Unit → Obj) (ho : IsPow o) (hph : ph = 1) : CallF (fun _ => Tryz.prog) 62 [.ptr 0 (.lit 0)] [hpA 0 1 5 6 3 W ph sp cy,hpB 1 2 4 3 W,hpC 2 3 179 2 N,hpP 3 L,hpP 4 D,hpF 5 z ov,hpP 6 Q,(7,.fix 0 o)] 8 (fun r h n => ∃ (out : List Gn) (k ph' sp' : Int) (cells : List PV) (ws' C' G' : List Int) (ov' : Bool) (D' Q' : List PV) (z' : ByteArray),r = .p (.vsl (.sym k) true cells) ∧ h = [hpA 0 1 5 6 3 W ph' sp' cy,hpB 1 2 4 3 W,hpC 2 3 179 2 N,hpP 3 L,hpP 4 D',hpF 5 z' ov',hpP 6 Q',(7,.fix 0 o)] ∧ n = 8 ∧ HM R ws' C' G' N W L D' Q' z' ∧ cells = gpv out ∧ k = out.length ∧ Marked R ws C G ov sp out ph' sp' ws' C' G' ov') := by
 subst hph
 refine callF_of_body tok Tryz.func62 (by kernel_rfl) rfl rfl rfl ?_; conv => cbv
 refine cfr (nextGrey_lx R ws C G N W 1 sp cy L D Q z ov h) [(0,0),(1,1),(2,2),(3,3),(4,4),(5,5),(6,6)] (fun r h' n' hrr => ?_)
 obtain ⟨v,b,G1,ov1,z1,e1,e2,e3,h1,hg⟩ := hrr
 subst e1 e2 e3
 cases b with
 | true =>
  have hv : 0 ≤ v ∧ v < W := by
   cases hg with
   | pop A _ hG => exact h.g v (by rw [hG]; simp)
   | found i _ _ _ ha _ _ => have := obj_bd h.a (List.mem_of_getElem? ha); have := h.w; have := h.n; omega
  conv => cbv
  refine cfr (scan_lx R ws C G1 N W 1 sp cy L D Q z1 ov1 h1 o ho v hv) [(0,0),(1,1),(2,2),(3,3),(4,4),(5,5),(6,6),(7,7)] (fun r h' n' hrr => ?_)
  obtain ⟨X,C',G',ov',Q',z',e1,e2,e3,h2,hX,hS⟩ := hrr
  subst e1 e2 e3
  conv => cbv
  refine RetF.mk [.p (.vsl (.sym 0) true [])] [hpA 0 1 5 6 3 W 1 sp cy,hpB 1 2 4 3 W,hpC 2 3 179 2 N,hpP 3 L,hpP 4 D,hpF 5 z' ov',hpP 6 Q',(7,.fix 0 o)] 8 (Re.at [(0,0),(1,1),(2,2),(3,3),(4,4),(5,5),(6,6),(7,7)] []) rfl ⟨[],0,1,sp,[],ws,C',G',ov',D,Q',z',rfl,rfl,rfl,h2,rfl,rfl,.scan v G1 X C' G' ov1 ov' hg hX hS⟩
 | false =>
  have hv0 : v = 0 := by
   cases hg <;> rfl
  subst hv0
  conv => cbv
  refine cfr (nextFinal_lx R ws C G1 N W 1 sp cy L D Q z1 ov1 h1) [(0,0),(1,1),(2,2),(3,3),(4,4),(5,5),(6,6)] (fun r h' n' hrr => ?_)
  obtain ⟨a,x,b,e1,e2,e3,hf⟩ := hrr
  subst e1 e2 e3
  cases b with
  | true =>
   conv => cbv
   refine cfr (keep_lx R ws C G1 N W 1 sp cy L D Q z1 ov1 h1 o ho a x) [(0,0),(1,1),(2,2),(3,3),(4,4),(5,5),(6,6),(7,7)] (fun r h' n' hrr => ?_)
   obtain ⟨X,m,e,O,ws',C',G',ov',D',Q',z',e1,e2,e3,h2,hO,hm,hX,hT,hS⟩ := hrr
   subst e1 e2 e3
   have he : e = 0 := by
    cases hf with
    | found i _ ha hd _ =>
     obtain ⟨⟨l,hK⟩,_,y,hy,_⟩ := hd
     cases hy with
     | ok _ l2 _ hK2 hi _ =>
      cases hT with
      | none hno => exact absurd hK2.obj6 hno
      | arg k3 l3 hK3 hi3 => obtain ⟨_,rfl⟩ := hK2.det9 hK3; exact absurd hi hi3
      | ok _ _ _ _ => rfl
   subst he
   conv => cbv
   refine RetF.mk [.p (.vsl (.sym 1) true [.int .i64 (.sym 5),.int .i64 (.sym a),.vsl (.sym m) true O,.bool true])] [hpA 0 1 5 6 3 W 1 sp cy,hpB 1 2 4 3 W,hpC 2 3 179 2 N,hpP 3 L,hpP 4 D',hpF 5 z' ov',hpP 6 Q',(7,.fix 0 o)] 8 (Re.at [(0,0),(1,1),(2,2),(3,3),(4,4),(5,5),(6,6),(7,7)] []) rfl ⟨[(5,a,X,true)],1,1,sp,_,ws',C',G',ov',D',Q',z',rfl,rfl,rfl,h2,by rw [hO,hm]; rfl,rfl,.keep a G1 X ws' C' G' ov1 ov' hg hf hX hT hS⟩
  | false =>
   have ha0 : a = 0 := by cases hf; rfl
   subst ha0
   conv => cbv
   refine RetF.mk [.p (.vsl (.sym 0) true [])] [hpA 0 1 5 6 3 W 2 0 cy,hpB 1 2 4 3 W,hpC 2 3 179 2 N,hpP 3 L,hpP 4 D,hpF 5 z1 ov1,hpP 6 Q,(7,.fix 0 o)] 8 (Re.at [(0,0),(1,1),(2,2),(3,3),(4,4),(5,5),(6,6),(7,7)] []) rfl ⟨[],0,2,0,[],ws,C,G1,ov1,D,Q,z1,rfl,rfl,rfl,h1,rfl,rfl,.sweep G1 ov1 hg hf⟩
end Go.Proofs.YtjfdfbpgckilpaaGreatDoor
namespace Go.Proofs.YtjfdfbpgckilpaaGreatDoor
open Go Go.LX
set_option maxRecDepth 100000
set_option linter.unusedVariables false
set_option linter.unusedSimpArgs false
set_option maxHeartbeats 32000000
def Wh (R : List Rw) (C : List Int) (p : Int) : Prop := p ∈ objs R ∧ C[p.toNat]? = some 0
inductive SweptTo (ws C : List Int) (R : List Rw) (p : Int) : Nat → List Gn → List Rw → Prop
 | zero : SweptTo ws C R p 0 [] R
 | skip (i : Nat) (out : List Gn) (R1 : List Rw) (h : SweptTo ws C R p i out R1) (hn : ¬ Wh R1 C (p + i)) : SweptTo ws C R p (i + 1) out R1
 | free (i : Nat) (out : List Gn) (R1 R2 : List Rw) (k : Int) (X : List Int) (h : SweptTo ws C R p i out R1) (hw : Wh R1 C (p + i)) (hk : KindR R1 ws (p + i) k) (hX : Wrds R1 ws (p + i) X) (hf : Freet R1 (p + i) 0 R2) : SweptTo ws C R p (i + 1) (out ++ [(k,p + i,X,false)]) R2
theorem SweptTo.le {ws C : List Int} {R R' : List Rw} {p : Int} {i : Nat} {out : List Gn} (h : SweptTo ws C R p i out R') : out.length ≤ i := by
 induction h with
 | zero => exact Nat.le_refl _
 | skip i out R1 h hn ih => omega
 | free i out R1 R2 k X h hw hk hX hf ih => rw [List.length_append]; simp; omega
theorem kept_freet {R R' : List Rw} {ws : List Int} {a e : Int} (hA : AOk R ws) (h : Freet R a e R') : ∀ b k l,Kept R' ws b k l → Kept R ws b k l := by
 cases h with
 | none _ => exact fun _ _ _ hk => hk
 | ok q s e he hs hat =>
  obtain ⟨_,_,_,g4⟩ := free_objs hA.rows he hs a hat
  rintro b k l ⟨w,h1,h2,h3,h4,h5,h6⟩
  exact .mk k l w ((g4 b w).1 h1).1 h2 h3 h4 h5 h6
theorem HM.freet {R R' : List Rw} {ws C G : List Int} {N W : Int} {L L' D Q : List PV} {z : ByteArray} {a e : Int} (h : HM R ws C G N W L D Q z) (hf : Freet R a e R') (hL : L' = rpv R') : HM R' ws C G N W L' D Q z := by
 obtain ⟨h1,h2⟩ := h.a.freet hf
 exact ⟨h1,fun b k l hb => h.k b k l (kept_freet h.a hf b k l hb),by rw [h2]; exact h.n,by rw [h2]; exact h.r,h.w,hL,h.d,h.q,h.c,h.z,h.g,h.g8⟩
theorem freet_ok {R R' : List Rw} {ws : List Int} {a e : Int} (hA : AOk R ws) (ho : a ∈ objs R) (h : Freet R a e R') : e = 0 := by
 cases h with
 | none hn => exact absurd ((obj_iff hA a).1 ho) hn
 | ok _ _ _ _ _ _ => rfl
def swPh (sp W : Int) : Int := if W ≤ (sp + 1) * 32 then 0 else 2
def swCy (sp W cy : Int) : Int := if W ≤ (sp + 1) * 32 then cy + 1 else cy
theorem sweepH_lx (R : List Rw) (ws C G : List Int) (N W ph sp cy : Int) (L D Q : List PV) (z : ByteArray) (ov : Bool) (h : HM R ws C G N W L D Q z) (hph : ph = 2) (hsp : 0 ≤ sp ∧ sp ≤ 1000) (hcy : 0 ≤ cy ∧ cy ≤ 1000000000) : CallF (fun _ => Tryz.prog) 63 [.ptr 0 (.lit 0)] [hpA 0 1 5 6 3 W ph sp cy,hpB 1 2 4 3 W,hpC 2 3 179 2 N,hpP 3 L,hpP 4 D,hpF 5 z ov,hpP 6 Q] 7 (fun r h n => ∃ (out : List Gn) (k ph' sp' cy' : Int) (cells L' : List PV) (R' : List Rw),r = .p (.vsl (.sym k) true cells) ∧ h = [hpA 0 1 5 6 3 W ph' sp' cy',hpB 1 2 4 3 W,hpC 2 3 179 2 N,hpP 3 L',hpP 4 D,hpF 5 z ov,hpP 6 Q] ∧ n = 7 ∧ HM R' ws C G N W L' D Q z ∧ cells = gpv out ∧ k = out.length ∧ SweptTo ws C R (32 * sp) 32 out R' ∧ sp' = sp + 1 ∧ ph' = swPh sp W ∧ cy' = swCy sp W cy) := by
 have hWn := h.w; have hNr := h.n; have hRr := h.r
 refine callF_of_body tok Tryz.func63 (by kernel_rfl) rfl rfl rfl ?_; conv => cbv
 refine drawn_sound tok (by kernel_rfl) [] [0,1,2,3,4,5,6,7,8,9,10,11,12] (by kernel_rfl) ?_; conv => cbv
 refine Fit.mk (by show (-9223372036854775808 : Int) ≤ sp * 32; omega) (by show sp * 32 ≤ 9223372036854775807; omega) fun f hf => ?_
 have hf : f = sp * 32 := hf
 conv => cbv
 refine Fit.mk (by show (-9223372036854775808 : Int) ≤ sp + 1; omega) (by show sp + 1 ≤ 9223372036854775807; omega) fun s1 hs1 => ?_
 have hs1 : s1 = sp + 1 := hs1
 conv => cbv
 refine Fit.mk (by show (-9223372036854775808 : Int) ≤ s1 * 32; omega) (by show s1 * 32 ≤ 9223372036854775807; omega) fun be hbe => ?_
 have hbe : be = s1 * 32 := hbe
 conv => cbv
 refine LoopF.mk (fun kk s => ∃ (at_ k : Int) (i : Nat) (out : List Gn) (cells L1 : List PV) (R1 : List Rw),s = ⟨.ptr 0 (.lit 0) :: (undefs 2 ++ .sl 7 42 4 (.lit 0) (.sym k) :: .undef :: .p (.int .i64 (.sym be)) :: .p (.int .i64 (.sym at_)) :: undefs 65),[hpA 0 1 5 6 3 W ph sp cy,hpB 1 2 4 3 W,hpC 2 3 179 2 N,hpP 3 L1,hpP 4 D,hpF 5 z ov,hpP 6 Q,hpP 7 cells],8⟩ ∧ at_ = 32 * sp + i ∧ i ≤ 32 ∧ HM R1 ws C G N W L1 D Q z ∧ SweptTo ws C R (32 * sp) i out R1 ∧ cells = gpv out ∧ k = out.length ∧ kk = 32 - i) 32 _
  (Re.at [(0,0),(1,1),(2,2),(3,3),(4,4),(5,5),(6,6)] [7]) ⟨f,0,0,[],[],L,R,rfl,by omega,by omega,h,.zero,rfl,rfl,by omega⟩ ?_
 rintro kk s ⟨at_,k,i,out,cells,L1,R1,rfl,hat,hi,h1,hS,hcs,hk,hkk⟩
 have hle := hS.le
 have hcl : (cells.length : Int) = 4 * k := by rw [hcs,gpv_length]; omega
 conv => cbv
 refine Br.mk (fun gi => ?_) (fun gi => ?_)
 ·have gi : at_ < be := gi
  obtain ⟨k',rfl⟩ : ∃ k',kk = k' + 1 := ⟨kk - 1,by omega⟩
  conv => cbv
  refine CallF.le (args0 := [.ptr 0 (.lit 0),i6 at_,i6 0]) (cfr (is_lx R1 ws C G N W ph sp cy L1 D Q z ov h1 at_ 0) [(0,0),(1,1),(2,2),(3,3),(4,4),(5,5),(6,6)] (fun r h' n' hrr => ?_)) (by simp [ales,ale,pvle,I.val])
  obtain ⟨b,e1,e2,e3,hb⟩ := hrr
  subst e1 e2 e3
  cases b with
  | false =>
   have hnw : ¬ Wh R1 C (32 * sp + i) := fun hw => by have := hb.2 (hat ▸ hw); cases this
   conv => cbv
   refine Fit.mk (by show (-9223372036854775808 : Int) ≤ at_ + 1; omega) (by show at_ + 1 ≤ 9223372036854775807; omega) fun i2 hi2 => ?_
   have hi2 : i2 = at_ + 1 := hi2
   have hat2 : i2 = 32 * sp + ((i + 1 : Nat) : Int) := by omega
   conv => cbv
   refine Again.mk k' _ (Nat.lt_succ_self _) (Re.at [(0,0),(1,1),(2,2),(3,3),(4,4),(5,5),(6,6),(7,7)] []) ⟨i2,k,i + 1,out,cells,L1,R1,rfl,hat2,by omega,h1,.skip i out R1 hS hnw,hcs,hk,by omega⟩
  | true =>
   have hw : Wh R1 C (32 * sp + i) := hat ▸ hb.1 rfl
   conv => cbv
   refine cfr (kind_lx R1 ws N at_ W L1 D h1.l h1.d h1.n h1.r h1.a h1.w) [(0,1),(1,2),(2,3),(3,4)] (fun r h' n' hrr => ?_)
   obtain ⟨v,e1,e2,e3,hv⟩ := hrr
   subst e1 e2 e3
   conv => cbv
   refine cfr (wordsV_lx R1 ws C G N W ph sp cy L1 D Q z ov h1 at_) [(0,0),(1,1),(2,2),(3,3),(4,4),(5,5),(6,6)] (fun r h' n' hrr => ?_)
   obtain ⟨X,m,O,e1,e2,e3,hO,hm,hX⟩ := hrr
   subst e1 e2 e3
   conv => cbv
   refine Room.new rfl ?_
   conv => cbv
   refine Room.new ⟨?_,?_,?_⟩ ?_
   ·show (cells.length : Int) = k * 4; omega
   ·show (k + 1) * 48 ≤ 140737488355328; omega
   ·show k + 1 ≤ 9223372036854775807; omega
   conv => cbv
   refine Upd.mk fun c2 hc2 => ?_
   have hc2 : c2 = cells ++ [.int .i64 (.sym v),.int .i64 (.sym at_),.vsl (.sym m) true O,.bool false] := hc2
   have hc2 : c2 = gpv (out ++ [(v,32 * sp + i,X,false)]) := by rw [hc2,hcs,gpv_app,hO,hm,hat]; rfl
   conv => cbv
   refine Sum.mk fun k2 hk2 => ?_
   have hk2 : k2 = k + 1 := hk2
   conv => cbv
   refine cfr (freeA_lx at_ R1 ws N W L1 D h1.l h1.d h1.n h1.r h1.a h1.w) [(0,1),(1,2),(2,3),(3,4)] (fun r h' n' hrr => ?_)
   obtain ⟨e,R2,L2,e1,e2,e3,hL2,hF⟩ := hrr
   subst e1 e2 e3
   have he := freet_ok h1.a (hat.symm ▸ hw.1) hF
   subst he
   have h2 := h1.freet hF hL2
   conv => cbv
   refine Fit.mk (by show (-9223372036854775808 : Int) ≤ at_ + 1; omega) (by show at_ + 1 ≤ 9223372036854775807; omega) fun i2 hi2 => ?_
   have hi2 : i2 = at_ + 1 := hi2
   have hat2 : i2 = 32 * sp + ((i + 1 : Nat) : Int) := by omega
   have hS2 := SweptTo.free i out R1 R2 v X hS hw (hat ▸ hv) (hat ▸ hX) (hat ▸ hF)
   have hk3 : k2 = ((out ++ [(v,32 * sp + (i : Int),X,false)]).length : Int) := by rw [List.length_append]; show k2 = ((out.length + 1 : Nat) : Int); omega
   conv => cbv
   refine Again.mk k' _ (Nat.lt_succ_self _) (Re.at [(0,0),(1,1),(2,2),(3,3),(4,4),(5,5),(6,6),(9,7)] []) ⟨i2,k2,i + 1,_,c2,L2,R2,rfl,hat2,by omega,h2,hS2,hc2,hk3,by omega⟩
 ·have gi : ¬ at_ < be := gi
  obtain rfl : i = 32 := by omega
  conv => cbv
  refine Fit.mk (by show (-9223372036854775808 : Int) ≤ sp + 1; omega) (by show sp + 1 ≤ 9223372036854775807; omega) fun s2 hs2 => ?_
  have hs2 : s2 = sp + 1 := hs2
  conv => cbv
  refine cfr (wordsA_lx R1 ws N W L1 D h1.l h1.d h1.n h1.r h1.a h1.w) [(0,1),(1,2),(2,3),(3,4)] (fun r h' n' ⟨e1,e2,e3⟩ => ?_)
  subst e1 e2 e3
  conv => cbv
  refine Br.mk (fun gw => ?_) (fun gw => ?_)
  ·have gw : W ≤ be := gw
   conv => cbv
   refine Fit.mk (by show (-9223372036854775808 : Int) ≤ cy + 1; omega) (by show cy + 1 ≤ 9223372036854775807; omega) fun c2 hc2 => ?_
   have hc2 : c2 = cy + 1 := hc2
   conv => cbv
   refine RetF.mk [.p (.vsl (.sym k) true cells)] [hpA 0 1 5 6 3 W 0 s2 c2,hpB 1 2 4 3 W,hpC 2 3 179 2 N,hpP 3 L1,hpP 4 D,hpF 5 z ov,hpP 6 Q] 7 (Re.at [(0,0),(1,1),(2,2),(3,3),(4,4),(5,5),(6,6)] []) rfl ⟨out,k,0,s2,c2,cells,L1,R1,rfl,rfl,rfl,h1,hcs,hk,hS,hs2,by unfold swPh; rw [if_pos (by omega)],by unfold swCy; rw [if_pos (by omega)]; exact hc2⟩
  ·have gw : ¬ W ≤ be := gw
   conv => cbv
   refine RetF.mk [.p (.vsl (.sym k) true cells)] [hpA 0 1 5 6 3 W ph s2 cy,hpB 1 2 4 3 W,hpC 2 3 179 2 N,hpP 3 L1,hpP 4 D,hpF 5 z ov,hpP 6 Q] 7 (Re.at [(0,0),(1,1),(2,2),(3,3),(4,4),(5,5),(6,6)] []) rfl ⟨out,k,ph,s2,cy,cells,L1,R1,rfl,rfl,rfl,h1,hcs,hk,hS,hs2,by unfold swPh; rw [if_neg (by omega)]; exact hph,by unfold swCy; rw [if_neg (by omega)]⟩
inductive Stepd (R : List Rw) (ws C G : List Int) (ov : Bool) (ph sp cy W : Int) : List Gn → List Rw → List Int → List Int → List Int → Bool → Int → Int → Int → Prop
 | mark (out : List Gn) (ws' C' G' : List Int) (ov' : Bool) (ph' sp' : Int) (h : ph = 1) (hm : Marked R ws C G ov sp out ph' sp' ws' C' G' ov') : Stepd R ws C G ov ph sp cy W out R ws' C' G' ov' ph' sp' cy
 | sweep (out : List Gn) (R' : List Rw) (h : ph = 2) (hs : SweptTo ws C R (32 * sp) 32 out R') : Stepd R ws C G ov ph sp cy W out R' ws C G ov (swPh sp W) (sp + 1) (swCy sp W cy)
 | idle (h : ph ≠ 1) (h2 : ph ≠ 2) : Stepd R ws C G ov ph sp cy W [] R ws C G ov ph sp cy
theorem step_lx (R : List Rw) (ws C G : List Int) (N W ph sp cy : Int) (L D Q : List PV) (z : ByteArray) (ov : Bool) (h : HM R ws C G N W L D Q z) (o : Unit → Obj) (ho : IsPow o) (hsp : 0 ≤ sp ∧ sp ≤ 1000) (hcy : 0 ≤ cy ∧ cy ≤ 1000000000) : CallF (fun _ => Tryz.prog) 20 [.ptr 0 (.lit 0)] [hpA 0 1 5 6 3 W ph sp cy,hpB 1 2 4 3 W,hpC 2 3 179 2 N,hpP 3 L,hpP 4 D,hpF 5 z ov,hpP 6 Q,(7,.fix 0 o)] 8 (fun r h n => ∃ (out : List Gn) (k ph' sp' cy' : Int) (R' : List Rw) (ws' C' G' : List Int) (ov' : Bool) (cells L' D' Q' : List PV) (z' : ByteArray),r = .p (.vsl (.sym k) true cells) ∧ h = [hpA 0 1 5 6 3 W ph' sp' cy',hpB 1 2 4 3 W,hpC 2 3 179 2 N,hpP 3 L',hpP 4 D',hpF 5 z' ov',hpP 6 Q',(7,.fix 0 o)] ∧ n = 8 ∧ HM R' ws' C' G' N W L' D' Q' z' ∧ cells = gpv out ∧ k = out.length ∧ Stepd R ws C G ov ph sp cy W out R' ws' C' G' ov' ph' sp' cy') := by
 refine callF_of_body tok Tryz.func20 (by kernel_rfl) rfl rfl rfl ?_; conv => cbv
 refine cfr (phase_lx R ws C G N W ph sp cy L D Q z ov) [(0,0),(1,1),(2,2),(3,3),(4,4),(5,5),(6,6)] (fun r h' n' ⟨e1,e2,e3⟩ => ?_)
 subst e1 e2 e3
 conv => cbv
 refine Br.mk (fun g => ?_) (fun g => ?_)
 ·have g : ph = 1 := g
  conv => cbv
  refine cfr (markH_lx R ws C G N W ph sp cy L D Q z ov h o ho g) [(0,0),(1,1),(2,2),(3,3),(4,4),(5,5),(6,6),(7,7)] (fun r h' n' hrr => ?_)
  obtain ⟨out,k,ph',sp',cells,ws',C',G',ov',D',Q',z',e1,e2,e3,h2,hcs,hk,hM⟩ := hrr
  subst e1 e2 e3
  conv => cbv
  refine RetF.mk [.p (.vsl (.sym k) true cells)] [hpA 0 1 5 6 3 W ph' sp' cy,hpB 1 2 4 3 W,hpC 2 3 179 2 N,hpP 3 L,hpP 4 D',hpF 5 z' ov',hpP 6 Q',(7,.fix 0 o)] 8 (Re.at [(0,0),(1,1),(2,2),(3,3),(4,4),(5,5),(6,6),(7,7)] []) rfl ⟨out,k,ph',sp',cy,R,ws',C',G',ov',cells,L,D',Q',z',rfl,rfl,rfl,h2,hcs,hk,.mark out ws' C' G' ov' ph' sp' g hM⟩
 ·have g : ¬ ph = 1 := g
  conv => cbv
  refine Br.mk (fun g2 => ?_) (fun g2 => ?_)
  ·have g2 : ph = 2 := g2
   conv => cbv
   refine cfr (sweepH_lx R ws C G N W ph sp cy L D Q z ov h g2 hsp hcy) [(0,0),(1,1),(2,2),(3,3),(4,4),(5,5),(6,6)] (fun r h' n' hrr => ?_)
   obtain ⟨out,k,ph',sp',cy',cells,L',R',e1,e2,e3,h2,hcs,hk,hS,q1,q2,q3⟩ := hrr
   subst e1 e2 e3
   conv => cbv
   refine RetF.mk [.p (.vsl (.sym k) true cells)] [hpA 0 1 5 6 3 W ph' sp' cy',hpB 1 2 4 3 W,hpC 2 3 179 2 N,hpP 3 L',hpP 4 D,hpF 5 z ov,hpP 6 Q,(7,.fix 0 o)] 8 (Re.at [(0,0),(1,1),(2,2),(3,3),(4,4),(5,5),(6,6),(7,7)] []) rfl ⟨out,k,ph',sp',cy',R',ws,C,G,ov,cells,L',D,Q,z,rfl,rfl,rfl,h2,hcs,hk,by rw [q1,q2,q3]; exact .sweep out R' g2 hS⟩
  ·have g2 : ¬ ph = 2 := g2
   conv => cbv
   refine RetF.mk [.p (.vsl (.sym 0) true [])] [hpA 0 1 5 6 3 W ph sp cy,hpB 1 2 4 3 W,hpC 2 3 179 2 N,hpP 3 L,hpP 4 D,hpF 5 z ov,hpP 6 Q,(7,.fix 0 o)] 8 (Re.at [(0,0),(1,1),(2,2),(3,3),(4,4),(5,5),(6,6),(7,7)] []) rfl ⟨[],0,ph,sp,cy,R,ws,C,G,ov,[],L,D,Q,z,rfl,rfl,rfl,h,rfl,rfl,.idle g g2⟩
end Go.Proofs.YtjfdfbpgckilpaaGreatDoor
namespace Go.Proofs.YtjfdfbpgckilpaaGreatDoor
open Go Go.LX
set_option maxRecDepth 100000
set_option linter.unusedVariables false
set_option linter.unusedSimpArgs false
set_option maxHeartbeats 32000000
def Dk (R : List Rw) (ws C : List Int) : Prop := ∀ (a x i : Int),a ∈ objs R → C[a.toNat]? = some 2 → Loaded R ws a i x 0 → x % 2 = 1 → (x - 1) / 2 ∈ objs R → C[((x - 1) / 2).toNat]? ≠ some 0
def CLe (C C' : List Int) : Prop := (∀ p : Nat,C'[p]? = some 0 → C[p]? = some 0) ∧ (∀ p : Nat,C'[p]? = some 2 → C[p]? = some 2)
theorem CLe.refl (C : List Int) : CLe C C := ⟨fun _ h => h,fun _ h => h⟩
theorem CLe.trans {A B C : List Int} (h : CLe A B) (k : CLe B C) : CLe A C := ⟨fun p q => h.1 p (k.1 p q),fun p q => h.2 p (k.2 p q)⟩
theorem shade_le (R : List Rw) (ph a : Int) (s : List Int × List Int × Bool) : CLe s.1 (shade R ph a s).1 := by
 unfold shade
 split
 ·rename_i hc
  have h0 := hc.2.2
  have hl := (List.getElem?_eq_some_iff.1 h0).1
  refine ⟨fun p hp => ?_,fun p hp => ?_⟩
  ·by_cases e : a.toNat = p
   ·subst e; exact h0
   ·have hp : (s.1.set a.toNat 1)[p]? = some 0 := hp
    rw [List.getElem?_set_ne e] at hp; exact hp
  ·have hp : (s.1.set a.toNat 1)[p]? = some 2 := hp
   by_cases e : a.toNat = p
   ·subst e
    rw [List.getElem?_set_self hl] at hp
    exact absurd (Option.some.inj hp) (by decide)
   ·rw [List.getElem?_set_ne e] at hp; exact hp
 ·exact CLe.refl _
theorem shade_hit (R : List Rw) (a : Int) (s : List Int × List Int × Bool) (ha : a ∈ objs R) : (shade R 1 a s).1[a.toNat]? ≠ some 0 := by
 unfold shade
 split
 ·rename_i hc
  have hl := (List.getElem?_eq_some_iff.1 hc.2.2).1
  show (s.1.set a.toNat 1)[a.toNat]? ≠ some 0
  rw [List.getElem?_set_self hl]
  exact fun h => absurd (Option.some.inj h) (by decide)
 ·rename_i hc
  exact fun h => hc ⟨rfl,ha,h⟩
theorem shadeW_le (R : List Rw) (ph w : Int) (s : List Int × List Int × Bool) : CLe s.1 (shadeW R ph w s).1 := by
 unfold shadeW
 split
 ·exact shade_le _ _ _ _
 ·exact CLe.refl _
theorem shadeW_hit (R : List Rw) (w : Int) (s : List Int × List Int × Bool) (hw : w % 2 = 1) (ha : (w - 1) / 2 ∈ objs R) : (shadeW R 1 w s).1[((w - 1) / 2).toNat]? ≠ some 0 := by
 unfold shadeW
 rw [if_pos hw]
 exact shade_hit _ _ _ ha
theorem fold_le (R : List Rw) (ph : Int) : ∀ (X : List Int) (s : List Int × List Int × Bool),CLe s.1 (X.foldl (fun s w => shadeW R ph w s) s).1
 | [],s => CLe.refl _
 | w :: X,s => (shadeW_le R ph w s).trans (fold_le R ph X _)
theorem fold_hit (R : List Rw) : ∀ (X : List Int) (s : List Int × List Int × Bool) (w : Int),w ∈ X → w % 2 = 1 → (w - 1) / 2 ∈ objs R → (X.foldl (fun s w => shadeW R 1 w s) s).1[((w - 1) / 2).toNat]? ≠ some 0
 | [],s,w,hw,_,_ => by cases hw
 | v :: X,s,w,hw,h1,h2 => by
  rcases List.mem_cons.1 hw with rfl | hw
  ·exact fun h => shadeW_hit R w s h1 h2 ((fold_le R 1 X _).1 _ h)
  ·exact fold_hit R X _ w hw h1 h2
theorem Dk.le {R : List Rw} {ws C C' : List Int} (h : Dk R ws C) (hc : CLe C C') : Dk R ws C' :=
 fun a x i ha h2 hl hx hp h0 => h a x i ha (hc.2 _ h2) hl hx hp (hc.1 _ h0)
theorem beg_le (R : List Rw) : ∀ (A : List Int) (s : List Int × List Int × Bool),CLe s.1 (A.foldl (fun s a => shade R 1 a s) s).1
 | [],s => CLe.refl _
 | a :: A,s => (shade_le R 1 a s).trans (beg_le R A _)
theorem Dk.begin {R : List Rw} {ws C G A : List Int} {ov : Bool} {W : Int} (h : (C,G,ov) = begS R W A) : Dk R ws C := by
 intro a x i ha h2 hl hx hp
 have hc : C = (begS R W A).1 := congrArg Prod.fst h
 have hle := beg_le R A (List.replicate W.toNat 0,[],false)
 rw [hc] at h2
 have h3 : (List.replicate W.toNat (0 : Int))[a.toNat]? = some 2 := hle.2 _ h2
 rw [List.getElem?_replicate] at h3
 split at h3
 ·exact absurd (Option.some.inj h3) (by decide)
 ·cases h3
theorem stored_kept {R : List Rw} {ws ws' : List Int} {a i x e : Int} (hA : AOk R ws) (h : Stored R ws a i x e ws') : ∀ b k l,Kept R ws' b k l → Kept R ws b k l := by
 cases h with
 | none _ => exact fun _ _ _ hk => hk
 | arg _ _ _ _ => exact fun _ _ _ hk => hk
 | ok k l hka hi =>
  intro b k' l' hb
  have hbn := hka.bounds hA
  obtain ⟨w,q1,q2,q3,q4,q5,q6⟩ := hb
  have hne : (a + 1 + i).toNat ≠ b.toNat := by
   obtain ⟨wa,p1,p2,p3,p4,p5,p6⟩ := hka
   have := within_not hA.rows p1 q1 (j := a + 1 + i) (by omega) (by omega)
   have := q1.facts hA.rows
   omega
  rw [List.getElem?_set_ne hne] at q2
  exact .mk k' l' w q1 q2 q3 q4 q5 q6
theorem stored_loaded {R : List Rw} {ws ws' : List Int} {a i x e b j y : Int} (hA : AOk R ws) (h : Stored R ws a i x e ws') (hl : Loaded R ws' b j y 0) : (e = 0 ∧ y = x) ∨ Loaded R ws b j y 0 := by
 have hk := stored_kept hA h
 cases h with
 | none _ => exact .inr hl
 | arg _ _ _ _ => exact .inr hl
 | ok k l hka hi =>
  cases hl with
  | ok k' l' _ hK hj hy =>
   have hbn := hka.bounds hA
   have hlen := hA.len
   rcases set_get (by omega) hy with ⟨_,e⟩ | ⟨_,e⟩
   ·exact .inl ⟨rfl,e⟩
   ·exact .inr (.ok k' l' y (hk _ _ _ hK) hj e)
theorem Dk.store {R : List Rw} {ws ws' C C' G G' : List Int} {ov ov' : Bool} {a i x e : Int} (hA : AOk R ws) (h : Dk R ws C) (hs : Stored R ws a i x e ws') (hc : (C',G',ov') = storeS R 1 e x (C,G,ov)) : Dk R ws' C' := by
 have hC : C' = (storeS R 1 e x (C,G,ov)).1 := congrArg Prod.fst hc
 have hle : CLe C C' := by
  rw [hC]; unfold storeS
  split
  ·exact shadeW_le R 1 x (C,G,ov)
  ·exact CLe.refl _
 intro b y j hb h2 hl hy hp
 rcases stored_loaded hA hs hl with ⟨he,rfl⟩ | hl
 ·rw [hC]; unfold storeS
  rw [if_pos he]
  exact shadeW_hit R y _ hy hp
 ·exact (h.le hle) b y j hb h2 hl hy hp
theorem Dk.alloc {R R' : List Rw} {ws ws' C C' : List Int} {kind n a e ph : Int} (hA : AOk R ws) (hCl : (C.length : Int) = 32 * R.length) (h : Dk R ws C) (hs : Alloct R ws kind n a e R' ws') (hph : ph = 1) (hc : C' = allocC ph a e C) : Dk R' ws' C' := by
 by_cases he : e = 0
 ·obtain ⟨h1,h2,_,h4,h5,h6,h7⟩ := alloct_ok hA hs he
  obtain ⟨hA',hlR⟩ := hA.alloct hs
  have hab := h1.bounds hA'
  have hC : C' = C.set a.toNat 2 := by rw [hc,allocC,if_pos he,hph]; rfl
  have hself : C'[a.toNat]? = some 2 := by rw [hC]; exact List.getElem?_set_self (by omega)
  intro b x i hb hb2 hl hx hp
  have hpl : (x - 1) / 2 = a ∨ ((x - 1) / 2 ≠ a ∧ (x - 1) / 2 ∈ objs R) := by
   by_cases q : (x - 1) / 2 = a
   ·exact .inl q
   ·rcases h6 _ ((obj_iff hA' _).1 hp) with q2 | q2
    ·exact .inl q2
    ·exact .inr ⟨q,(obj_iff hA _).2 q2⟩
  rcases h6 b ((obj_iff hA' b).1 hb) with rfl | hbo
  ·exfalso
   cases hl with
   | ok k l _ hK hi hxw =>
    obtain ⟨_,rfl⟩ := hK.det9 h1
    rw [h4 i hi.1 hi.2] at hxw
    obtain rfl := Option.some.inj hxw
    omega
  ·have hbR := (obj_iff hA b).2 hbo
   have hbb := obj_bd hA hbR
   have hne : b ≠ a := fun q => h2 (q ▸ hbo)
   have hlR : Loaded R ws b i x 0 := by
    cases hl with
    | ok k l _ hK hi hxw =>
     obtain ⟨k',l',hK'⟩ := Kept.of hA hbo
     obtain ⟨_,rfl⟩ := (h5 b k' l' hK').det9 hK
     exact .ok k' l' x hK' hi (by rw [← h7 b k' l' i hK' hi.1 hi.2]; exact hxw)
   have hcb : C[b.toNat]? = some 2 := by rw [hC,List.getElem?_set_ne (by omega)] at hb2; exact hb2
   rcases hpl with q | ⟨q1,q2⟩
   ·rw [q,hself]; exact fun k => absurd (Option.some.inj k) (by decide)
   ·have hpb := obj_bd hA q2
    rw [hC,List.getElem?_set_ne (by omega)]
    exact h b x i hbR hcb hlR hx q2
 ·have hg := alloct_gen9 hA hs
  rcases hg with ⟨_,_,rfl,rfl⟩ | ⟨q,_⟩
  ·rw [hc,allocC,if_neg he]; exact h
  ·exact absurd q he
theorem Dk.marked {R : List Rw} {ws ws' C C' G G' : List Int} {ov ov' : Bool} {sp p s : Int} {out : List Gn} (hA : AOk R ws) (hg0 : ∀ x ∈ G,0 ≤ x) (hCl : (C.length : Int) = 32 * R.length) (h : Dk R ws C) (hm : Marked R ws C G ov sp out p s ws' C' G' ov') (hp : p = 1) : Dk R ws' C' := by
 cases hm with
 | scan v A X _ _ o1 _ hg hX hs =>
  have hC : C' = (X.foldl (fun s w => shadeW R 1 w s) (C,A,o1)).1.set v.toNat 2 := congrArg Prod.fst hs
  have hle := fold_le R 1 X (C,A,o1)
  have hhit := fold_hit R X (C,A,o1)
  generalize (X.foldl (fun s w => shadeW R 1 w s) (C,A,o1)).1 = F at hC hle hhit
  have hset : ∀ q : Nat,C'[q]? = some 0 → F[q]? = some 0 := by
   intro q hq
   rw [hC] at hq
   by_cases e : v.toNat = q
   ·subst e
    by_cases hl : v.toNat < F.length
    ·rw [List.getElem?_set_self hl] at hq; exact absurd (Option.some.inj hq) (by decide)
    ·rw [List.getElem?_eq_none (by rw [List.length_set]; omega)] at hq; cases hq
   ·rw [List.getElem?_set_ne e] at hq; exact hq
  intro b x i hb hb2 hl hx hpl h0
  by_cases e : v.toNat = b.toNat
  ·have hbb := obj_bd hA hb
   have hv : 0 ≤ v := by
    cases hg with
    | pop A' _ hG => exact hg0 v (by rw [hG]; simp)
    | found _ _ _ _ ha _ _ => exact (obj_bd hA (List.mem_of_getElem? ha)).1
   have hvb : v = b := by omega
   subst hvb
   have hxX : x ∈ X := by
    have hlen := hX.1
    cases hl with
    | ok k l _ hK hi hxw =>
     generalize hxl : (X.length : Int) = xl at hlen
     cases hlen with
     | no hn => exact absurd hK.obj6 hn
     | is k' l' hK' =>
      obtain ⟨_,rfl⟩ := hK.det9 hK'
      obtain ⟨y,hy⟩ : ∃ y,X[i.toNat]? = some y := ⟨_,List.getElem?_eq_getElem (by omega)⟩
      have hld := hX.2 _ _ hy
      rw [show ((i.toNat : Nat) : Int) = i by omega] at hld
      obtain ⟨rfl,_⟩ := loaded_det hld (.ok k l x hK hi hxw)
      exact List.mem_of_getElem? hy
   exact hhit x hxX hx hpl (hset _ h0)
  ·rw [hC,List.getElem?_set_ne e] at hb2
   exact h b x i hb (hle.2 _ hb2) hl hx hpl (hle.1 _ (hset _ h0))
 | keep a A X _ _ _ o1 _ hg hf hX hst hs =>
  have hC : C' = (shade R 1 a (C,A,o1)).1 := congrArg Prod.fst hs
  have h2 : Dk R ws' C := by
   intro b y j hb hb2 hl hy hpl
   rcases stored_loaded hA hst hl with ⟨_,rfl⟩ | hl
   ·exact absurd hy (by decide)
   ·exact h b y j hb hb2 hl hy hpl
  rw [hC]
  exact h2.le (shade_le R 1 a (C,A,o1))
 | sweep _ _ _ _ => exact absurd hp (by decide)
theorem Dk.stepd {R R' : List Rw} {ws ws' C C' G G' : List Int} {ov ov' : Bool} {ph sp cy W p s y : Int} {out : List Gn} (hA : AOk R ws) (hg0 : ∀ x ∈ G,0 ≤ x) (hCl : (C.length : Int) = 32 * R.length) (h : ph = 1 → Dk R ws C) (hs : Stepd R ws C G ov ph sp cy W out R' ws' C' G' ov' p s y) (hp : p = 1) : Dk R' ws' C' := by
 cases hs with
 | mark _ _ _ _ _ _ _ hph hm => exact (h hph).marked hA hg0 hCl hm hp
 | sweep _ _ _ _ =>
  unfold swPh at hp
  split at hp <;> exact absurd hp (by decide)
 | idle h1 _ => exact absurd hp h1
end Go.Proofs.YtjfdfbpgckilpaaGreatDoor
namespace Go.Proofs.YtjfdfbpgckilpaaGreatDoor
open Go Go.LX
set_option maxRecDepth 100000
set_option linter.unusedVariables false
set_option maxHeartbeats 32000000
theorem enc_small (A : List Int) (hA : ∀ a ∈ A,i64 a) (h8 : A.length ≤ 8) : (enc A).length < 1000000 := by
 have := enc_len A hA; omega
theorem five : ∀ x ∈ ([5] : List Int),i64 x := by
 intro x hx; rw [List.mem_singleton.1 hx]; exact ⟨by decide,by decide⟩
def row (t : Int) : Nat → List Int
 | 0 => []
 | k + 1 => row t k ++ [t + k]
theorem row_length (t : Int) : ∀ k,(row t k).length = k
 | 0 => rfl
 | k + 1 => by rw [row,List.length_append,row_length t k]; rfl
theorem row_i64 (t : Int) (h0 : -1099511627776 ≤ t) (h1 : t ≤ 1099511627776) : ∀ k,k ≤ 1000 → ∀ x ∈ row t k,i64 x
 | 0,_,x,h => by cases h
 | k + 1,hk,x,h => by
  rw [row] at h
  rcases List.mem_append.1 h with h | h
  ·exact row_i64 t h0 h1 k (by omega) x h
  ·rw [List.mem_singleton.1 h]; constructor <;> omega
end Go.Proofs.YtjfdfbpgckilpaaGreatDoor
namespace Go.Proofs.YtjfdfbpgckilpaaGreatDoor
open Go Go.LX
set_option maxRecDepth 100000
set_option linter.unusedVariables false
set_option maxHeartbeats 32000000
def i64s : List Int → List PV
 | [] => []
 | x :: l => .int .i64 (.sym x) :: i64s l
theorem i64s_length : ∀ l,(i64s l).length = l.length
 | [] => rfl
 | x :: l => by simp [i64s,i64s_length l]
theorem i64s_app : ∀ a b,i64s (a ++ b) = i64s a ++ i64s b
 | [],b => rfl
 | x :: a,b => by simp [i64s,i64s_app a b]
theorem i64s_take : ∀ (l : List Int) (k : Nat),i64s (l.take k) = (i64s l).take k
 | [],k => by simp [i64s]
 | x :: l,0 => rfl
 | x :: l,k + 1 => by simp [i64s,i64s_take l k]
theorem i64s_get : ∀ (l : List Int) (i : Nat) (x : Int),l[i]? = some x → (i64s l)[i]? = some (.int .i64 (.sym x))
 | [],i,x,h => by simp at h
 | y :: l,0,x,h => by simp at h; subst h; rfl
 | y :: l,i + 1,x,h => by simpa [i64s] using i64s_get l i x (by simpa using h)
theorem refPush_lx (A : List Int) (a m : Int) (la : List PV) (ov : Bool) (hm : m = A.length) (hla : la = i64s A) (hA8 : A.length ≤ 8) :
  CallF (fun _ => Tryz.prog) 148 [.ptr 0 (.lit 0),i6 a] [(0,.mix [.p (.vsl (.sym m) true la),.p (.bool ov)])] 1 (fun r h n => ∃ (b ov' : Bool) (m' : Int) (la' : List PV) (A' : List Int),r = .p (.bool b) ∧ h = [(0,.mix [.p (.vsl (.sym m') true la'),.p (.bool ov')])] ∧ n = 1 ∧ m' = A'.length ∧ la' = i64s A' ∧ (A.length < 8 → b = true ∧ A' = A ++ [a] ∧ ov' = ov) ∧ (8 ≤ A.length → b = false ∧ A' = A ∧ ov' = true)) := by
 refine callF_of_body tok Tryz.func148 (by kernel_rfl) rfl rfl rfl ?_; conv => cbv
 refine Br.mk (fun g => ?_) (fun g => ?_)
 ·have g : 8 ≤ m := g
  conv => cbv
  refine RetF.mk [.p (.bool false)] [(0,.mix [.p (.vsl (.sym m) true la),.p (.bool true)])] 1 (Re.at [(0,0)] []) rfl ⟨false,true,m,la,A,rfl,rfl,rfl,hm,hla,fun h => by omega,fun _ => ⟨rfl,rfl,rfl⟩⟩
 ·have g : ¬ 8 ≤ m := g
  have hlal : (la.length : Int) = m := by rw [hla,i64s_length]; omega
  conv => cbv
  refine Need.mk (by show (la.length : Int) = m * 1; omega) ?_
  conv => cbv
  refine Need.mk ⟨by show m * 8 ≤ 140737488355328; omega,by show m ≤ 9223372036854775807; omega⟩ ?_
  conv => cbv
  refine Room.new rfl ?_
  conv => cbv
  refine Room.new ⟨by show (la.length : Int) = m * 1; omega,by show (m + 1) * 8 ≤ 140737488355328; omega,by show m + 1 ≤ 9223372036854775807; omega⟩ ?_
  conv => cbv
  refine Upd.mk fun L2 hL2 => ?_
  have hL3 : L2 = i64s (A ++ [a]) := by rw [hL2,hla,i64s_app]; rfl
  conv => cbv
  refine Sum.mk fun m2 hm2 => ?_
  have hm2 : m2 = m + 1 := hm2
  conv => cbv
  refine RetF.mk [.p (.bool true)] [(0,.mix [.p (.vsl (.sym m2) true L2),.p (.bool ov)])] 1 (Re.at [(0,0)] []) rfl ⟨true,ov,m2,L2,A ++ [a],rfl,rfl,rfl,by simp; omega,hL3,fun _ => ⟨rfl,rfl,rfl⟩,fun h => by omega⟩
theorem refPop_lx (A : List Int) (m : Int) (la : List PV) (ov : Bool) (hm : m = A.length) (hla : la = i64s A) (hA8 : A.length ≤ 8) :
  CallF (fun _ => Tryz.prog) 196 [.ptr 0 (.lit 0)] [(0,.mix [.p (.vsl (.sym m) true la),.p (.bool ov)])] 1 (fun r h n => ∃ (v : Int) (b : Bool) (m' : Int) (la' : List PV) (A' : List Int),r = .tup [i6 v,.p (.bool b)] ∧ h = [(0,.mix [.p (.vsl (.sym m') true la'),.p (.bool ov)])] ∧ n = 1 ∧ m' = A'.length ∧ la' = i64s A' ∧ (A = [] ∧ v = 0 ∧ b = false ∧ A' = [] ∨ A = A' ++ [v] ∧ b = true)) := by
 refine callF_of_body tok Tryz.func196 (by kernel_rfl) rfl rfl rfl ?_; conv => cbv
 refine Fit.mk (by show (-9223372036854775808 : Int) ≤ m - 1; omega) (by show m - 1 ≤ 9223372036854775807; omega) ?_
 intro q hq
 have hq : q = m - 1 := hq
 have hlal : (la.length : Int) = m := by rw [hla,i64s_length]; omega
 conv => cbv
 refine Br.mk (fun g => ?_) (fun g => ?_)
 ·have g : q < 0 := g
  have hA0 : A = [] := List.eq_nil_of_length_eq_zero (by omega)
  conv => cbv
  refine RetF.mk [i6 0,.p (.bool false)] [(0,.mix [.p (.vsl (.sym m) true la),.p (.bool ov)])] 1 (Re.at [(0,0)] []) rfl ⟨0,false,m,la,A,rfl,rfl,rfl,hm,hla,.inl ⟨hA0,rfl,rfl,hA0⟩⟩
 ·have g : ¬ q < 0 := g
  obtain ⟨B,a,hB⟩ : ∃ B a,A = B ++ [a] := ⟨_,_,(List.dropLast_concat_getLast (by rintro rfl; simp at hm; omega)).symm⟩
  have hBl : A.length = B.length + 1 := by rw [hB]; simp
  have hAq : A[q.toNat]? = some a := by rw [hB,List.getElem?_append_right (by omega),show q.toNat - B.length = 0 by omega]; rfl
  have hcq := i64s_get A q.toNat a hAq
  rw [← hla] at hcq
  conv => cbv
  refine Need.mk ⟨by simp only [I.val]; omega,by simp only [I.val]; omega⟩ ?_
  conv => cbv
  refine Cell.at q _ hcq (by simp [I.val]) rfl ?_
  conv => cbv
  refine Need.mk ⟨by simp only [I.val]; omega,by simp only [I.val]; omega,by simp only [I.val]; omega⟩ ?_
  conv => cbv
  refine Upd.mk fun L1 hL1 => ?_
  have hL1 : L1 = i64s B := by
   rw [hL1,show ((I.lit 0).val.toNat * 1) = 0 from rfl,List.drop_zero,show ((I.sym q).val - (I.lit 0).val).toNat * 1 = B.length by simp only [I.val]; omega,hla,← i64s_take,hB,List.take_left]
  conv => cbv
  refine Sum.mk fun q2 hq2 => ?_
  have hq2 : q2 = q := by have : q2 = q - 0 := hq2; omega
  have hL1l : (L1.length : Int) = q2 := by rw [hL1,i64s_length]; omega
  conv => cbv
  refine Need.mk (by show (L1.length : Int) = q2 * 1; omega) ?_
  conv => cbv
  refine Need.mk ⟨by show q2 * 8 ≤ 140737488355328; omega,by show q2 ≤ 9223372036854775807; omega⟩ ?_
  conv => cbv
  have f1 : q2 = (B.length : Int) := by omega
  refine RetF.mk [i6 a,.p (.bool true)] [(0,.mix [.p (.vsl (.sym q2) true L1),.p (.bool ov)])] 1 (Re.at [(0,0)] []) rfl ⟨a,true,q2,L1,B,rfl,rfl,rfl,f1,hL1,.inr ⟨hB,rfl⟩⟩
end Go.Proofs.YtjfdfbpgckilpaaGreatDoor
