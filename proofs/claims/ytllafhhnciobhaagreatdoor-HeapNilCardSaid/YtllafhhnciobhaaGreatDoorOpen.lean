/-
  Arguments that are slices: what the walk needs to know of them.
-/
import Derived.Test.YtllafhhnciobhaaGreatDoorMem

import Derived.ProofKit

import Derived.OpenShut

import Derived.Carry

import Derived.SliceStrings

import Derived.ChangeSlices

namespace Go.Proofs.YtllafhhnciobhaaGreatDoor

open Go.RowKit Go.ChangeShapes Go.WideShapes

section

variable {H : Type} {enc : TypeId × Value → H} {P : Program} {W : World}

theorem lt_of_cell {w : World} {a : Addr} {v : Value} (h : w.cell? a = some v) : a.block < w.heap.size := by
  rcases Nat.lt_or_ge a.block w.heap.size with h1 | h1
  · exact h1
  · simp [World.cell?, Array.getElem?_eq_none h1] at h
/-- A slice of integers that came in. -/
theorem open_ints_sl {t e : TypeId} {k : IntKind} {base : Nat} {v : Value} {d : DataW H} {ps : List MemPlace} (ht : P.underlying t = some (.slice e)) (he : P.underlying e = some (.int k)) (hc : P.cellsOf e = 1)
    (hval : Value.okWide P W .any base t v) (h : DataW.Trod enc P W 0 (fun _ => true) true t v d ps) : ∃ zs : List Int, Sl W W.heap.size 1 v zs.length (zs.map (Value.int k)) ∧ ∀ n ∈ zs, (Lit.int k n).wf = true := by
  obtain ⟨a0, len, cap, rfl⟩ := okWide_slice ht hval
  obtain ⟨fuel, hf⟩ := h
  rcases open_ints ht he hc hf with ⟨hcs, _⟩ | ⟨a, len', cap', zs, hcs, _, hl, hm, hz, _, hcell, hwz⟩
  · simp only [Value.cells] at hcs
    cases hcs
    exact ⟨[], Sl.nil, by simp⟩
  · simp only [Value.cells] at hcs
    cases hcs
    simp only [if_true] at hz
    have hlt : (zs.take len).length = len := by rw [List.length_take]; omega
    refine ⟨zs.take len, ?_, fun n hn => hwz n (List.mem_of_mem_take hn)⟩
    rw [hlt]
    refine ⟨by rw [List.length_map, hlt]; omega, Nat.le_trans hl hm, .inr ⟨a, cap, rfl, hl, hm, fun hp => lt_of_cell (a := a.add 0) (hcell 0 (by omega)), fun j u hu => ?_⟩⟩
    rw [List.getElem?_map] at hu
    obtain ⟨z, hz2, rfl⟩ := Option.map_eq_some_iff.1 hu
    rw [List.getElem?_take] at hz2
    split at hz2
    · have hj : j < zs.length := (List.getElem?_eq_some_iff.1 hz2).1
      rw [hcell j hj, List.getD_eq_getElem?_getD, hz2]; rfl
    · cases hz2
/-- A slice of strings that came in. -/
theorem open_strs_sl {t e : TypeId} {base : Nat} {v : Value} {d : DataW H} {ps : List MemPlace} (ht : P.underlying t = some (.slice e)) (he : P.underlying e = some .string) (hc : P.cellsOf e = 1)
    (hval : Value.okWide P W .any base t v) (h : DataW.Trod enc P W 0 (fun _ => true) true t v d ps) : ∃ ss : List ByteArray, Sl W W.heap.size 1 v ss.length (ss.map Value.string) ∧ ∀ s ∈ ss, s.size ≤ maxLen := by
  obtain ⟨a0, len, cap, rfl⟩ := okWide_slice ht hval
  obtain ⟨fuel, hf⟩ := h
  rcases open_strings ht he hc hf with ⟨hcs, _⟩ | ⟨a, len', cap', zs, hcs, _, hl, hm, hz, _, hcell, hwz⟩
  · simp only [Value.cells] at hcs
    cases hcs
    exact ⟨[], Sl.nil, by simp⟩
  · simp only [Value.cells] at hcs
    cases hcs
    simp only [if_true] at hz
    have hlt : (zs.take len).length = len := by rw [List.length_take]; omega
    refine ⟨zs.take len, ?_, fun n hn => hwz n (List.mem_of_mem_take hn)⟩
    rw [hlt]
    refine ⟨by rw [List.length_map, hlt]; omega, Nat.le_trans hl hm, .inr ⟨a, cap, rfl, hl, hm, fun hp => lt_of_cell (a := a.add 0) (hcell 0 (by omega)), fun j u hu => ?_⟩⟩
    rw [List.getElem?_map] at hu
    obtain ⟨z, hz2, rfl⟩ := Option.map_eq_some_iff.1 hu
    rw [List.getElem?_take] at hz2
    split at hz2
    · have hj : j < zs.length := (List.getElem?_eq_some_iff.1 hz2).1
      rw [hcell j hj, List.getD_eq_getElem?_getD, hz2]; rfl
    · cases hz2
end
end Go.Proofs.YtllafhhnciobhaaGreatDoor
