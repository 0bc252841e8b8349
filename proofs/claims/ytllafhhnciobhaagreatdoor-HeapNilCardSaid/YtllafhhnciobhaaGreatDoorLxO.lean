/-
  What a law is handed: slices that lead to nothing that turns.
-/
import Derived.Test.YtllafhhnciobhaaGreatDoorOpen

import Derived.Test.YtllafhhnciobhaaGreatDoorLxFrame
namespace Go.Proofs.YtllafhhnciobhaaGreatDoor

open Go Go.LX Go.RowKit

theorem vsl_gen {w : World} {size n : Nat} {v : Value} {xs : List Value} (hsz : 0 < size) (h : Sl w w.heap.size size v n xs) {m : Int} {l : List PV} (hm : m = n) (hl : l.length = n * size) (hrel : ∀ (j : Nat) (u : PV), l[j]? = some u → ∃ x, xs[j]? = some x ∧ PR Ctx.empty.mut w u x) :
    LR Ctx.empty w (.p (.vsl (.sym m) true l)) v := by
  have h0 : (I.sym m).val = n := hm
  rcases h.form with ⟨rfl, rfl⟩ | ⟨a, c, rfl, h1, h2, h3, h4⟩
  · exact .p _ _ (.vsl0 _ _ _ _ _ h0 (Nat.zero_le _))
  · rcases Nat.eq_zero_or_pos n with rfl | hn
    · exact .p _ _ (.vsl0 _ _ _ _ _ h0 h2)
    · have hlen : 0 < l.length := by rw [hl]; exact Nat.mul_pos hn hsz
      obtain ⟨x0, hx0, _⟩ := hrel 0 l[0] (List.getElem?_eq_getElem hlen)
      have hc := h4 0 x0 hx0
      have hsp : a.spot = none := by
        have : w.cell? a = some x0 := hc
        unfold World.cell? at this
        split at this
        · split at this
          · cases this
          · rename_i hns
            cases hs : a.spot with
            | none => rfl
            | some _ => rw [hs] at hns; exact absurd rfl hns
        · cases this
      refine .p _ _ (.vsl _ _ _ a n c (fun j => xs.getD j Go.undef) h0 hsp (fun hM => ?_) (h3 hn) h1 h2 (fun j u hu => ?_) (fun j u hu => ?_))
      · rcases hM with hx | ⟨b, hb⟩
        · exact hx
        · cases hb
      · obtain ⟨x, hx, _⟩ := hrel j u hu
        rw [h4 j x hx, List.getD_eq_getElem?_getD, hx]; rfl
      · obtain ⟨x, hx, hp⟩ := hrel j u hu
        rw [List.getD_eq_getElem?_getD, hx]; exact hp
theorem vsl_ints {w : World} {k : IntKind} {v : Value} {zs : List Int} (h : Sl w w.heap.size 1 v zs.length (zs.map (Value.int k))) {m : Int} {l : List PV} (hm : m = zs.length) (hl : l = zs.map fun z => PV.int k (.sym z)) : LR Ctx.empty w (.p (.vsl (.sym m) true l)) v := by
  subst hl
  refine vsl_gen Nat.one_pos h hm (by simp) fun j u hu => ?_
  rw [List.getElem?_map] at hu
  cases hz : zs[j]? with
  | none => rw [hz] at hu; cases hu
  | some z =>
    rw [hz] at hu
    cases hu
    exact ⟨.int k z, by rw [List.getElem?_map, hz]; rfl, .int k _ z rfl⟩
end Go.Proofs.YtllafhhnciobhaaGreatDoor
