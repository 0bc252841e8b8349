/-
  Small facts on Go's integers and on worlds that several walks use.
-/
import Derived.WalkKit
import Derived.ProofKit
import Derived.OpenShut
import Derived.IntWalk
import Derived.Below
import Derived.Deep.Draws
import Derived.Laws.BitsLemmas
import Derived.Laws.BitsAllLaws
import Derived.Laws.OwnMore
import Derived.Deep.AppendLies
import Derived.Lib.Hide
import Derived.Carry
import Derived.SliceStrings
import Derived.ChangeSlices
namespace Go.Proofs.YtllafhhnciobhaaGreatDoor

open Go.RowKit Go.WideShapes Go.ChangeShapes

theorem and1_i64 (x : Int) : bits .and .i64 x 1 = x % 2 := by
  have h : ((BitVec.ofInt 64 x &&& BitVec.ofInt 64 1).toNat : Int) = x % 2 := by
    rw [BitVec.toNat_and]
    have e1 : (BitVec.ofInt 64 1).toNat = 1 := by decide
    rw [e1, nat_mask1, BitVec.toNat_ofInt]
    omega
  show IntKind.i64.wrap ((BitVec.ofInt 64 x &&& BitVec.ofInt 64 1).toNat : Int) = _
  rw [h, IntKind.wrap_i64]
  omega

theorem umod_bd (a k : Int) (h : 0 < k) (h2 : k ≤ 9223372036854775807) : 0 ≤ wrap64 ((IntKind.u64.wrap a).tmod k) ∧ wrap64 ((IntKind.u64.wrap a).tmod k) < k := by
  have hw : 0 ≤ IntKind.u64.wrap a := by rw [IntKind.wrap_u64]; omega
  have h3 : 0 ≤ (IntKind.u64.wrap a).tmod k := Int.tmod_nonneg _ hw
  have h4 : (IntKind.u64.wrap a).tmod k < k := Int.tmod_lt_of_pos _ h
  unfold wrap64
  omega

theorem i64_bd {x : Int} (h : (Lit.int .i64 x).wf = true) : -9223372036854775808 ≤ x ∧ x ≤ 9223372036854775807 := by
  simpa [Lit.wf, IntKind.min, IntKind.max, IntKind.signed, IntKind.bits] using h

theorem size_iter (w : World) (s : ByteArray) (p : Nat) : (w.iter s p).heap.size = w.heap.size + 1 := World.size_alloc _ _
theorem size_drewN (w : World) (n : Nat) : (w.drewN n).heap.size = w.heap.size := rfl
theorem below_drewN {B : Nat} {a w : World} (h : Below B a w) (n : Nat) : Below B a (w.drewN n) := ⟨h.os, h.tape, h.output, h.size, h.block⟩
theorem below_iter {B : Nat} {a w : World} (h : Below B a w) (hB : B ≤ w.heap.size) (s : ByteArray) (p : Nat) : Below B a (w.iter s p) := h.alloc hB _
theorem below_cells {W w' : World} (hb : Below W.heap.size W w') : (∀ b o, b < W.heap.size → w'.cell? ⟨b, o, none⟩ = W.cell? ⟨b, o, none⟩) ∧ (∀ b o, b < W.heap.size → w'.frozen? ⟨b, o, none⟩ = W.frozen? ⟨b, o, none⟩) :=
  ⟨fun b o h => hb.cell (p := ⟨b, o, none⟩) h, fun b o h => hb.frozen (p := ⟨b, o, none⟩) h⟩
theorem below_step {B : Nat} {a b c : World} (h : Below B a b) (hB : B ≤ b.heap.size) (k : Below b.heap.size b c) : Below B a c := h.trans (k.mono hB)

theorem quiet_same {P : Program} {f : FuncId} {args : Array Value} {w : World} {n : Nat} {v : Value} (h : Calls P f args (w.drewN n) fun e w' => e = .returned v ∧ w.drewN n = w') :
    Calls P f args (w.drewN n) fun e w'' => e = .returned v ∧ ∃ m, w'' = w.drewN m := h.mono fun _ _ ⟨he, hm⟩ => ⟨he, n, hm.symm⟩
theorem quiet_sum {P : Program} {f : FuncId} {args : Array Value} {w : World} {a n : Nat} {v : Value} (h : Calls P f args (w.drewN (a + n)) fun e w' => e = .returned v ∧ w.drewN (a + n) = w') :
    Calls P f args (w.drewN (a + n)) fun e w'' => e = .returned v ∧ ∃ m, w'' = w.drewN (a + m) := h.mono fun _ _ ⟨he, hm⟩ => ⟨he, n, hm.symm⟩

section

variable {H : Type} {enc : TypeId × Value → H} {P : Program}

/-- The last step of a law's row: it returned, and nothing that was there has turned. -/
theorem law_post {f : Func} {s : ChangeSpec} {apart fresh handsOn again : Bool} {W W' : World} {args : Array Value} {v : Value} {ds gs : List (DataW H)} {before pa pv : List MemPlace}
    (hW : DataW.Whole enc P f.params.toList s.vars apart W args.toList ds gs before)
    (hres : ∀ (b : Nat) (sp : Nat → Bool) (hd : Bool), DataW.TrodAll enc P W' b sp hd f.resultTypes.toList (v.resultList f.resultTypes.size) (s.fn H (ds ++ gs)).results [])
    (hargs : ∀ sp : Nat → Bool, (∀ p ∈ before, sp p.block = true) → DataW.TrodAll enc P W' 0 sp true f.params.toList args.toList (s.fn H (ds ++ gs)).args pa)
    (hvars : ∀ sp : Nat → Bool, (∀ p ∈ before, sp p.block = true) → DataW.TrodVars enc P W' sp s.vars (s.fn H (ds ++ gs)).vars pv)
    (hps : before = pa ++ pv) (hb : Below W.heap.size W W')
    (hok : ∀ (j : Nat) (t : TypeId) (r : Value), f.resultTypes[j]? = some t → (v.resultList f.resultTypes.size)[j]? = some r → Value.okWide P W' .any 0 t r) :
    s.post enc P f apart fresh handsOn again W args v W' := by
  have hlt : ∀ p ∈ before, p.block < W.heap.size := fun p hp => hW.lt p hp
  have hold : ∀ p ∈ before, (fun b => decide (b < W.heap.size)) p.block = true := fun p hp => decide_eq_true (hlt p hp)
  obtain ⟨p0, q0, h1, h2, h3, hz, hn⟩ := id hW
  refine ⟨ds, gs, before, [], pa, pv, hW, hres _ _ _, hargs _ hold, hvars _ hold, World.keptBut_mono (fun p hp => ⟨hp, Or.inr (List.mem_append.1 (hps ▸ hp))⟩) (hb.frame (· ∈ before)), fun _ => ?_⟩
  refine ⟨hok, _, _, ([] ++ pa) ++ pv, ⟨[] ++ pa, pv, trodAll_append (hargs _ (fun _ _ => rfl)) (hres _ _ _), hvars _ (fun _ _ => rfl), rfl, ?_, ?_⟩, ?_⟩
  · intro b off hp
    have hin : MemPlace.cell b off ∈ before := by rw [hps]; simpa using hp
    exact (hb.frozen (p := ⟨b, off, none⟩) (hlt _ hin)).trans (hz b off hin)
  · intro ha
    have hd := hn ha
    rw [hps] at hd
    simpa using hd
  · intro p hp _
    rw [hps]
    simpa using hp
end
end Go.Proofs.YtllafhhnciobhaaGreatDoor
/-
  Words for what lies in memory: a slice that reads as a list of cells; and how that is kept while other things are made.
-/
namespace Go.Proofs.YtllafhhnciobhaaGreatDoor

open Go.RowKit

theorem add_block (a : Addr) (n : Nat) : (a.add n).block = a.block := by
  unfold Addr.add; split <;> rfl

/-- The slice value v reads as n elements of size cells each, all their cells in a row being xs; it lies below block B. -/
structure Sl (w : World) (B size : Nat) (v : Value) (n : Nat) (xs : List Value) : Prop where
  len : xs.length = n * size
  max : n ≤ maxLen
  form : (v = .slice none 0 0 ∧ n = 0) ∨ ∃ a c, v = .slice (some a) n c ∧ n ≤ c ∧ c ≤ maxLen ∧ (0 < n → a.block < B) ∧ ∀ j u, xs[j]? = some u → w.cell? (a.add j) = some u

section

variable {w w' : World} {B B' size n : Nat} {v : Value} {xs : List Value}

theorem Sl.nil : Sl w B size (.slice none 0 0) 0 [] := ⟨by simp, Nat.zero_le _, .inl ⟨rfl, rfl⟩⟩
theorem Sl.pos (h : Sl w B size v n xs) {j : Nat} {u : Value} (hu : xs[j]? = some u) : 0 < n := by
  have h1 := (List.getElem?_eq_some_iff.1 hu).1
  rw [h.len] at h1
  rcases Nat.eq_zero_or_pos n with rfl | h2
  · simp at h1
  · exact h2
theorem Sl.keep (h : Sl w B size v n xs) (hk : ∀ p : Addr, p.block < B → w'.cell? p = w.cell? p) : Sl w' B size v n xs := by
  refine ⟨h.len, h.max, ?_⟩
  rcases h.form with e | ⟨a, c, e, h1, h2, h3, h4⟩
  · exact .inl e
  · exact .inr ⟨a, c, e, h1, h2, h3, fun j u hu => (hk _ (by rw [add_block]; exact h3 (h.pos hu))).trans (h4 j u hu)⟩
theorem Sl.below (h : Sl w B size v n xs) (hb : Below B w w') : Sl w' B size v n xs := h.keep fun _ hp => hb.cell hp
theorem Sl.step (h : Sl w B size v n xs) (hB : B ≤ w.heap.size) (k : Below w.heap.size w w') : Sl w' B size v n xs := h.keep fun _ hp => k.cell (Nat.lt_of_lt_of_le hp hB)
theorem Sl.drewN (h : Sl w B size v n xs) (k : Nat) : Sl (w.drewN k) B size v n xs := h.keep fun _ _ => rfl
theorem Sl.more (h : Sl w B size v n xs) (hB : B ≤ B') : Sl w B' size v n xs := by
  refine ⟨h.len, h.max, ?_⟩
  rcases h.form with e | ⟨a, c, e, h1, h2, h3, h4⟩
  · exact .inl e
  · exact .inr ⟨a, c, e, h1, h2, fun h => Nat.lt_of_lt_of_le (h3 h) hB, h4⟩
theorem Sl.alloc (h : Sl w B size v n xs) (hB : B ≤ w.heap.size) (o : Obj) : Sl (w.alloc o) B size v n xs := h.keep fun p hp => World.cell?_alloc_lt w o p (by omega)
theorem Sl.take {a : Addr} {c : Nat} (h : Sl w B 1 (.slice (some a) n c) n xs) {k : Nat} (hk : k ≤ n) : Sl w B 1 (.slice (some a) k c) k (xs.take k) := by
  have hl := h.len
  refine ⟨by rw [List.length_take, hl]; omega, by have := h.max; omega, ?_⟩
  rcases h.form with ⟨e, _⟩ | ⟨a', c', e, h1, h2, h3, h4⟩
  · cases e
  · cases e
    exact .inr ⟨a, c, rfl, by omega, h2, fun hh => h3 (by omega), fun j u hu => h4 j u (by rw [List.getElem?_take] at hu; split at hu; exact hu; cases hu)⟩
theorem Sl.cell {a : Addr} {c : Nat} (h : Sl w B size (.slice (some a) n c) n xs) {k : Nat} {u : Value} (hk : xs[k]? = some u) : w.cell? (a.add k) = some u := by
  rcases h.form with ⟨e, _⟩ | ⟨a', c', e, h1, h2, h3, h4⟩
  · cases e
  · cases e; exact h4 k u hk
theorem Sl.cap {a : Addr} {c : Nat} (h : Sl w B size (.slice (some a) n c) n xs) : n ≤ c ∧ c ≤ maxLen ∧ (0 < n → a.block < B) := by
  rcases h.form with ⟨e, _⟩ | ⟨a', c', e, h1, h2, h3, h4⟩
  · cases e
  · cases e; exact ⟨h1, h2, h3⟩
theorem Sl.some_ (h : Sl w B size v n xs) (hn : 0 < n) : ∃ a c, v = .slice (some a) n c := by
  rcases h.form with ⟨_, rfl⟩ | ⟨a, c, e, _⟩
  · omega
  · exact ⟨a, c, e⟩
theorem Sl.is_slice (h : Sl w B size v n xs) : ∃ A c, v = .slice A n c := by
  rcases h.form with ⟨rfl, rfl⟩ | ⟨a, c, rfl, _⟩
  · exact ⟨_, _, rfl⟩
  · exact ⟨_, _, rfl⟩
theorem Sl.of_own {base : Nat} {e : TypeId} (h : w.ownsRow base e size v n xs) : Sl w w.heap.size size v n xs := by
  obtain ⟨h1, h2⟩ := h
  rcases h2 with ⟨rfl, rfl⟩ | ⟨g, cap, cur, rfl, hb, hh, hn, hc, hz, ht⟩
  · exact ⟨h1, Nat.zero_le _, .inl ⟨rfl, rfl⟩⟩
  · have hg : g < w.heap.size := by
      rcases Nat.lt_or_ge g w.heap.size with hlt | hge
      · exact hlt
      · rw [Array.getElem?_eq_none hge] at hh; cases hh
    refine ⟨h1, Nat.le_trans hn hc, .inr ⟨⟨g, 0, none⟩, cap, rfl, hn, hc, fun _ => hg, fun j u hu => ?_⟩⟩
    have hj : (Addr.add ⟨g, 0, none⟩ j) = ⟨g, j, none⟩ := by
      unfold Addr.add; split
      · rename_i h0; rw [h0]
      · simp
    rw [hj, cell_of_row w g j cur e (0, 0) hh]
    rw [← ht, List.getElem?_take] at hu
    split at hu
    · simpa using hu
    · cases hu
theorem add_zero_off (g j : Nat) : (Addr.add ⟨g, 0, none⟩ j) = ⟨g, j, none⟩ := by
  unfold Addr.add; split
  · rename_i h0; rw [h0]
  · simp
/-- A row that was just written out. -/
theorem Sl.lit (w : World) (cs : Array Value) (t : TypeId) (c : Nat) (hn : n * size = cs.size) (hc : n ≤ c) (hm : c ≤ maxLen) : Sl (w.alloc (.cells cs t)) (w.heap.size + 1) size (.slice (some ⟨w.heap.size, 0, none⟩) n c) n cs.toList := by
  refine ⟨by simp [hn], Nat.le_trans hc hm, .inr ⟨_, c, rfl, hc, hm, fun _ => Nat.lt_succ_self _, fun j u hu => ?_⟩⟩
  rw [add_zero_off, cell_of_row (w.alloc (.cells cs t)) w.heap.size j cs t (0, 0) (heap_alloc_new w _)]
  simpa using hu
end
end Go.Proofs.YtllafhhnciobhaaGreatDoor
/-
  Arguments that are slices: what the walk needs to know of them.
-/
namespace Go.Proofs.YtllafhhnciobhaaGreatDoor

open Go.RowKit Go.ChangeShapes Go.WideShapes

section

variable {H : Type} {enc : TypeId × Value → H} {P : Program} {W : World}

theorem lt_of_cell {w : World} {a : Addr} {v : Value} (h : w.cell? a = some v) : a.block < w.heap.size := by
  rcases Nat.lt_or_ge a.block w.heap.size with h1 | h1
  · exact h1
  · simp [World.cell?, Array.getElem?_eq_none h1] at h
/-- A slice of integers that came in. -/
theorem open_ints_sl {t e : TypeId} {k : IntKind} {base : Nat} {v : Value} {d : DataW H} {ps : List MemPlace} (ht : P.underlying t = some (.slice e)) (he : P.underlying e = some (.int k)) (hc : P.cellsOf e = 1)
    (hval : Value.okWide P W .any base t v) (h : DataW.Trod enc P W 0 (fun _ => true) true t v d ps) : ∃ zs : List Int, Sl W W.heap.size 1 v zs.length (zs.map (Value.int k)) ∧ ∀ n ∈ zs, (Lit.int k n).wf = true := by
  obtain ⟨a0, len, cap, rfl⟩ := okWide_slice ht hval
  obtain ⟨fuel, hf⟩ := h
  rcases open_ints ht he hc hf with ⟨hcs, _⟩ | ⟨a, len', cap', zs, hcs, _, hl, hm, hz, _, hcell, hwz⟩
  · simp only [Value.cells] at hcs
    cases hcs
    exact ⟨[], Sl.nil, by simp⟩
  · simp only [Value.cells] at hcs
    cases hcs
    simp only [if_true] at hz
    have hlt : (zs.take len).length = len := by rw [List.length_take]; omega
    refine ⟨zs.take len, ?_, fun n hn => hwz n (List.mem_of_mem_take hn)⟩
    rw [hlt]
    refine ⟨by rw [List.length_map, hlt]; omega, Nat.le_trans hl hm, .inr ⟨a, cap, rfl, hl, hm, fun hp => lt_of_cell (a := a.add 0) (hcell 0 (by omega)), fun j u hu => ?_⟩⟩
    rw [List.getElem?_map] at hu
    obtain ⟨z, hz2, rfl⟩ := Option.map_eq_some_iff.1 hu
    rw [List.getElem?_take] at hz2
    split at hz2
    · have hj : j < zs.length := (List.getElem?_eq_some_iff.1 hz2).1
      rw [hcell j hj, List.getD_eq_getElem?_getD, hz2]; rfl
    · cases hz2
/-- A slice of strings that came in. -/
theorem open_strs_sl {t e : TypeId} {base : Nat} {v : Value} {d : DataW H} {ps : List MemPlace} (ht : P.underlying t = some (.slice e)) (he : P.underlying e = some .string) (hc : P.cellsOf e = 1)
    (hval : Value.okWide P W .any base t v) (h : DataW.Trod enc P W 0 (fun _ => true) true t v d ps) : ∃ ss : List ByteArray, Sl W W.heap.size 1 v ss.length (ss.map Value.string) ∧ ∀ s ∈ ss, s.size ≤ maxLen := by
  obtain ⟨a0, len, cap, rfl⟩ := okWide_slice ht hval
  obtain ⟨fuel, hf⟩ := h
  rcases open_strings ht he hc hf with ⟨hcs, _⟩ | ⟨a, len', cap', zs, hcs, _, hl, hm, hz, _, hcell, hwz⟩
  · simp only [Value.cells] at hcs
    cases hcs
    exact ⟨[], Sl.nil, by simp⟩
  · simp only [Value.cells] at hcs
    cases hcs
    simp only [if_true] at hz
    have hlt : (zs.take len).length = len := by rw [List.length_take]; omega
    refine ⟨zs.take len, ?_, fun n hn => hwz n (List.mem_of_mem_take hn)⟩
    rw [hlt]
    refine ⟨by rw [List.length_map, hlt]; omega, Nat.le_trans hl hm, .inr ⟨a, cap, rfl, hl, hm, fun hp => lt_of_cell (a := a.add 0) (hcell 0 (by omega)), fun j u hu => ?_⟩⟩
    rw [List.getElem?_map] at hu
    obtain ⟨z, hz2, rfl⟩ := Option.map_eq_some_iff.1 hu
    rw [List.getElem?_take] at hz2
    split at hz2
    · have hj : j < zs.length := (List.getElem?_eq_some_iff.1 hz2).1
      rw [hcell j hj, List.getD_eq_getElem?_getD, hz2]; rfl
    · cases hz2
end
end Go.Proofs.YtllafhhnciobhaaGreatDoor
