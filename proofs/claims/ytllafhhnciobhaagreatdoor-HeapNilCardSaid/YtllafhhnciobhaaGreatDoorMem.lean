/-
  Words for what lies in memory: a slice that reads as a list of cells; and how that is kept while other things are made.
-/
import Derived.Test.YtllafhhnciobhaaGreatDoorLem

import Derived.Laws.OwnMore

import Derived.Deep.AppendLies

import Derived.Deep.Draws

import Derived.Lib.Hide

namespace Go.Proofs.YtllafhhnciobhaaGreatDoor

open Go.RowKit

theorem add_block (a : Addr) (n : Nat) : (a.add n).block = a.block := by
  unfold Addr.add; split <;> rfl

/-- The slice value v reads as n elements of size cells each, all their cells in a row being xs; it lies below block B. -/
structure Sl (w : World) (B size : Nat) (v : Value) (n : Nat) (xs : List Value) : Prop where
  len : xs.length = n * size
  max : n ≤ maxLen
  form : (v = .slice none 0 0 ∧ n = 0) ∨ ∃ a c, v = .slice (some a) n c ∧ n ≤ c ∧ c ≤ maxLen ∧ (0 < n → a.block < B) ∧ ∀ j u, xs[j]? = some u → w.cell? (a.add j) = some u

section

variable {w w' : World} {B B' size n : Nat} {v : Value} {xs : List Value}

theorem Sl.nil : Sl w B size (.slice none 0 0) 0 [] := ⟨by simp, Nat.zero_le _, .inl ⟨rfl, rfl⟩⟩
theorem Sl.pos (h : Sl w B size v n xs) {j : Nat} {u : Value} (hu : xs[j]? = some u) : 0 < n := by
  have h1 := (List.getElem?_eq_some_iff.1 hu).1
  rw [h.len] at h1
  rcases Nat.eq_zero_or_pos n with rfl | h2
  · simp at h1
  · exact h2
theorem Sl.keep (h : Sl w B size v n xs) (hk : ∀ p : Addr, p.block < B → w'.cell? p = w.cell? p) : Sl w' B size v n xs := by
  refine ⟨h.len, h.max, ?_⟩
  rcases h.form with e | ⟨a, c, e, h1, h2, h3, h4⟩
  · exact .inl e
  · exact .inr ⟨a, c, e, h1, h2, h3, fun j u hu => (hk _ (by rw [add_block]; exact h3 (h.pos hu))).trans (h4 j u hu)⟩
theorem Sl.below (h : Sl w B size v n xs) (hb : Below B w w') : Sl w' B size v n xs := h.keep fun _ hp => hb.cell hp
theorem Sl.step (h : Sl w B size v n xs) (hB : B ≤ w.heap.size) (k : Below w.heap.size w w') : Sl w' B size v n xs := h.keep fun _ hp => k.cell (Nat.lt_of_lt_of_le hp hB)
theorem Sl.drewN (h : Sl w B size v n xs) (k : Nat) : Sl (w.drewN k) B size v n xs := h.keep fun _ _ => rfl
theorem Sl.more (h : Sl w B size v n xs) (hB : B ≤ B') : Sl w B' size v n xs := by
  refine ⟨h.len, h.max, ?_⟩
  rcases h.form with e | ⟨a, c, e, h1, h2, h3, h4⟩
  · exact .inl e
  · exact .inr ⟨a, c, e, h1, h2, fun h => Nat.lt_of_lt_of_le (h3 h) hB, h4⟩
theorem Sl.alloc (h : Sl w B size v n xs) (hB : B ≤ w.heap.size) (o : Obj) : Sl (w.alloc o) B size v n xs := h.keep fun p hp => World.cell?_alloc_lt w o p (by omega)
theorem Sl.take {a : Addr} {c : Nat} (h : Sl w B 1 (.slice (some a) n c) n xs) {k : Nat} (hk : k ≤ n) : Sl w B 1 (.slice (some a) k c) k (xs.take k) := by
  have hl := h.len
  refine ⟨by rw [List.length_take, hl]; omega, by have := h.max; omega, ?_⟩
  rcases h.form with ⟨e, _⟩ | ⟨a', c', e, h1, h2, h3, h4⟩
  · cases e
  · cases e
    exact .inr ⟨a, c, rfl, by omega, h2, fun hh => h3 (by omega), fun j u hu => h4 j u (by rw [List.getElem?_take] at hu; split at hu; exact hu; cases hu)⟩
theorem Sl.cell {a : Addr} {c : Nat} (h : Sl w B size (.slice (some a) n c) n xs) {k : Nat} {u : Value} (hk : xs[k]? = some u) : w.cell? (a.add k) = some u := by
  rcases h.form with ⟨e, _⟩ | ⟨a', c', e, h1, h2, h3, h4⟩
  · cases e
  · cases e; exact h4 k u hk
theorem Sl.cap {a : Addr} {c : Nat} (h : Sl w B size (.slice (some a) n c) n xs) : n ≤ c ∧ c ≤ maxLen ∧ (0 < n → a.block < B) := by
  rcases h.form with ⟨e, _⟩ | ⟨a', c', e, h1, h2, h3, h4⟩
  · cases e
  · cases e; exact ⟨h1, h2, h3⟩
theorem Sl.some_ (h : Sl w B size v n xs) (hn : 0 < n) : ∃ a c, v = .slice (some a) n c := by
  rcases h.form with ⟨_, rfl⟩ | ⟨a, c, e, _⟩
  · omega
  · exact ⟨a, c, e⟩
theorem Sl.is_slice (h : Sl w B size v n xs) : ∃ A c, v = .slice A n c := by
  rcases h.form with ⟨rfl, rfl⟩ | ⟨a, c, rfl, _⟩
  · exact ⟨_, _, rfl⟩
  · exact ⟨_, _, rfl⟩
theorem Sl.of_own {base : Nat} {e : TypeId} (h : w.ownsRow base e size v n xs) : Sl w w.heap.size size v n xs := by
  obtain ⟨h1, h2⟩ := h
  rcases h2 with ⟨rfl, rfl⟩ | ⟨g, cap, cur, rfl, hb, hh, hn, hc, hz, ht⟩
  · exact ⟨h1, Nat.zero_le _, .inl ⟨rfl, rfl⟩⟩
  · have hg : g < w.heap.size := by
      rcases Nat.lt_or_ge g w.heap.size with hlt | hge
      · exact hlt
      · rw [Array.getElem?_eq_none hge] at hh; cases hh
    refine ⟨h1, Nat.le_trans hn hc, .inr ⟨⟨g, 0, none⟩, cap, rfl, hn, hc, fun _ => hg, fun j u hu => ?_⟩⟩
    have hj : (Addr.add ⟨g, 0, none⟩ j) = ⟨g, j, none⟩ := by
      unfold Addr.add; split
      · rename_i h0; rw [h0]
      · simp
    rw [hj, cell_of_row w g j cur e (0, 0) hh]
    rw [← ht, List.getElem?_take] at hu
    split at hu
    · simpa using hu
    · cases hu
theorem add_zero_off (g j : Nat) : (Addr.add ⟨g, 0, none⟩ j) = ⟨g, j, none⟩ := by
  unfold Addr.add; split
  · rename_i h0; rw [h0]
  · simp
/-- A row that was just written out. -/
theorem Sl.lit (w : World) (cs : Array Value) (t : TypeId) (c : Nat) (hn : n * size = cs.size) (hc : n ≤ c) (hm : c ≤ maxLen) : Sl (w.alloc (.cells cs t)) (w.heap.size + 1) size (.slice (some ⟨w.heap.size, 0, none⟩) n c) n cs.toList := by
  refine ⟨by simp [hn], Nat.le_trans hc hm, .inr ⟨_, c, rfl, hc, hm, fun _ => Nat.lt_succ_self _, fun j u hu => ?_⟩⟩
  rw [add_zero_off, cell_of_row (w.alloc (.cells cs t)) w.heap.size j cs t (0, 0) (heap_alloc_new w _)]
  simpa using hu
end
end Go.Proofs.YtllafhhnciobhaaGreatDoor
