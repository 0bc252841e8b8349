/-
  strings.Builder, in the calculus: WriteString and WriteRune.
-/
import Derived.Test.YtlakoemonbadiaaBu
namespace Go.Proofs.Ytlakoemonbadiaa
open Go Go.LX
set_option maxRecDepth 100000
set_option linter.unusedVariables false

theorem bytesPV_append (a b : ByteArray) : bytesPV (a ++ b) = bytesPV a ++ bytesPV b := by
  have : (a ++ b).data.toList = a.data.toList ++ b.data.toList := by rw [ByteArray.data_append, Array.toList_append]
  rw [bytesPV, bytesPV, bytesPV, this, List.map_append]
theorem bytesPV_length (a : ByteArray) : (bytesPV a).length = a.size := by rw [bytesPV, List.length_map, Array.length_toList]; rfl

theorem writeString_lx (j : Int) (L : List PV) (z y : ByteArray) (hL : L = bytesPV z) (hj : j = z.size) (hm : z.size + y.size ≤ 140737488355328) :
    CallF (fun _ => Try.prog) 66 [.ptr 0 (.lit 0), .p (.str fun _ => y)] [(0, .bld 87 [.sl 1 5 1 (.lit 0) (.sym j)]), (1, .pure true L)] 2
      (fun r h n => ∃ (m k : Int) (L' : List PV), r = .tup [.p (.int .i64 (.sym m)), .p .nilif] ∧ h = [(2, .pure true L'), (0, .bld 87 [.sl 2 5 1 (.lit 0) (.sym k)])] ∧ n = 3 ∧ L' = bytesPV (z ++ y) ∧ k = (z ++ y).size) := by
  refine callF_of_body tok Try.func66 (by kernel_rfl) rfl rfl rfl ?_; conv => cbv
  refine callF_frame (copyCheck_lx (.sl 1 5 1 (.lit 0) (.sym j)) (.pure true L)) [(0, 0), (1, 1)] rfl (by simp [hmapOk, nget, hget, renB, okB, renV, renVs, rn, okVs, okV]) rfl rfl (fun r h' n' ⟨e1, e2, e3⟩ => ?_)
  subst e1 e2 e3
  conv => cbv
  refine .mk (show ((y.size : Nat) : Int) ≤ 140737488355328 by omega) ?_
  refine .mk fun l hl => ?_
  refine .mk fun m hm2 => ?_
  have hm2 : m = y.size := hm2
  refine .new ⟨by rw [hL, bytesPV_length]; show ((z.size : Nat) : Int) = j * 1; omega, by show (j + m) * 1 ≤ 140737488355328; omega, by show j + m ≤ 9223372036854775807; omega⟩ ?_
  conv => cbv
  refine Upd.mk fun L2 hL2 => ?_
  conv => cbv
  refine Sum.mk fun k hk => ?_
  have hk : k = j + m := hk
  conv => cbv
  refine Sum.mk fun m2 hm3 => ?_
  conv => cbv
  have hL2 : L2 = L ++ l := hL2
  have hl : l = bytesPV y := hl
  refine RetF.mk [.p (.int .i64 (.sym m2)), .p .nilif] [(2, .pure true L2), (0, .bld 87 [.sl 2 5 1 (.lit 0) (.sym k)])] 3 (Re.of [(0, 0), (2, 2)] [] (by first | exact Nat.zero_le _ | exact Nat.le_refl _ | decide | (dsimp only; decide)) rfl rfl (by (try (conv => cbv)); (repeat' (first | exact trivial | rfl | exact SEq.mk rfl | (exact SEq.mk (by first | assumption | (symm; assumption))) | (simp only [I.val]; done) | (simp only [I.val]; omega) | omega | assumption | (refine And.intro ?_ ?_) | exact Or.inl rfl | exact Or.inr (by assumption) | exact List.Mem.head _ | exact List.Mem.tail _ (List.Mem.head _) | exact ⟨_, rfl⟩ | exact ⟨_, rfl, Or.inl rfl⟩ | (refine ⟨_, rfl, Or.inr ?_⟩; (try (conv => cbv))) | (simp only [I.val] at *; first | omega | (subst_vars; rfl) | simp_all) | (refine Or.inr ?_; (try (conv => cbv)))))) (by (try (conv => cbv)); (repeat' (first | exact trivial | rfl | exact SEq.mk rfl | (exact SEq.mk (by first | assumption | (symm; assumption))) | (simp only [I.val]; done) | (simp only [I.val]; omega) | omega | assumption | (refine And.intro ?_ ?_) | exact Or.inl rfl | exact Or.inr (by assumption) | exact List.Mem.head _ | exact List.Mem.tail _ (List.Mem.head _) | exact ⟨_, rfl⟩ | exact ⟨_, rfl, Or.inl rfl⟩ | (refine ⟨_, rfl, Or.inr ?_⟩; (try (conv => cbv))) | (simp only [I.val] at *; first | omega | (subst_vars; rfl) | simp_all) | (refine Or.inr ?_; (try (conv => cbv))))))) rfl ⟨m2, k, L2, rfl, rfl, rfl, ?_, ?_⟩
  · rw [hL2, hL, hl, bytesPV_append]
  · rw [ByteArray.size_append]; push_cast; omega
end Go.Proofs.Ytlakoemonbadiaa
