/-
  strings.Builder, in the calculus: WriteRune.
-/
import Derived.Test.YtocliihimbggjaaBx
namespace Go.Proofs.Ytocliihimbggjaa
open Go Go.LX
set_option maxRecDepth 100000
set_option linter.unusedVariables false

theorem appendRune_lx (j cc : Int) (L : List PV) (z : ByteArray) (hL : L = bytesPV z) (hj : j = z.size) (h0 : 0 ≤ cc) (h1 : cc ≤ 127) (hm : z.size + 1 ≤ 140737488355328) :
    CallF (fun _ => Try.prog) 34 [.sl 0 5 1 (.lit 0) (.sym j), .p (.int .i32 (.sym cc))] [(0, .pure true L)] 1
      (fun r h n => ∃ (k : Int) (L' : List PV), r = .sl 1 5 1 (.lit 0) (.sym k) ∧ h = [(1, .pure true L')] ∧ n = 2 ∧ L' = bytesPV (z ++ ⟨#[cc.toNat.toUInt8]⟩) ∧ k = (z.size : Int) + 1) := by
  refine callF_of_body tok Try.func34 (by kernel_rfl) rfl rfl rfl ?_; conv => cbv
  refine Fit.mk (show (0 : Int) ≤ cc by omega) (show cc ≤ 4294967295 by omega) fun u hu => ?_
  have hu : u = cc := hu
  conv => cbv
  refine Br.mk (fun _ => ?_) (fun hc => absurd (show u ≤ 127 by omega) hc)
  conv => cbv
  refine Fit.mk (show (0 : Int) ≤ cc by omega) (show cc ≤ 255 by omega) fun v hv => ?_
  have hv : v = cc := hv
  conv => cbv
  refine Room.new rfl ?_
  conv => cbv
  refine Room.new ⟨by rw [hL, bytesPV_length]; show ((z.size : Nat) : Int) = j * 1; omega, by show (j + 1) * 1 ≤ 140737488355328; omega, by show j + 1 ≤ 9223372036854775807; omega⟩ ?_
  conv => cbv
  refine Upd.mk fun L2 hL2 => ?_
  have hL2 : L2 = L ++ [.int .u8 (.sym v)] := hL2
  conv => cbv
  refine Sum.mk fun k hk => ?_
  have hk : k = j + 1 := hk
  have hk2 : k = (z.size : Int) + 1 := by rw [hk, hj]
  conv => cbv
  refine RetF.mk [.sl 1 5 1 (.lit 0) (.sym k)] [(1, .pure true L2)] 2 (Re.of [(2, 1)] [] (by first | exact Nat.zero_le _ | exact Nat.le_refl _ | decide | (dsimp only; decide)) rfl rfl (by (try (conv => cbv)); (repeat' (first | exact trivial | rfl | exact SEq.mk rfl | (exact SEq.mk (by first | assumption | (symm; assumption))) | (simp only [I.val]; done) | (simp only [I.val]; omega) | omega | assumption | (refine And.intro ?_ ?_) | exact Or.inl rfl | exact Or.inr (by assumption) | exact List.Mem.head _ | exact List.Mem.tail _ (List.Mem.head _) | exact ⟨_, rfl⟩ | exact ⟨_, rfl, Or.inl rfl⟩ | (refine ⟨_, rfl, Or.inr ?_⟩; (try (conv => cbv))) | (simp only [I.val] at *; first | omega | (subst_vars; rfl) | simp_all) | (refine Or.inr ?_; (try (conv => cbv)))))) (by (try (conv => cbv)); (repeat' (first | exact trivial | rfl | exact SEq.mk rfl | (exact SEq.mk (by first | assumption | (symm; assumption))) | (simp only [I.val]; done) | (simp only [I.val]; omega) | omega | assumption | (refine And.intro ?_ ?_) | exact Or.inl rfl | exact Or.inr (by assumption) | exact List.Mem.head _ | exact List.Mem.tail _ (List.Mem.head _) | exact ⟨_, rfl⟩ | exact ⟨_, rfl, Or.inl rfl⟩ | (refine ⟨_, rfl, Or.inr ?_⟩; (try (conv => cbv))) | (simp only [I.val] at *; first | omega | (subst_vars; rfl) | simp_all) | (refine Or.inr ?_; (try (conv => cbv))))))) rfl ⟨k, L2, rfl, rfl, rfl, ?_, hk2⟩
  have hb : ((cc.toNat.toUInt8).toNat : Int) = v := by
    have : cc.toNat.toUInt8.toNat = cc.toNat := by rw [Nat.toUInt8, UInt8.toNat_ofNat']; omega
    omega
  rw [hL2, hL, bytesPV_append]
  show _ = bytesPV z ++ [PV.int .u8 (.sym ((cc.toNat.toUInt8).toNat : Int))]
  rw [hb]

theorem writeRune_lx (j cc : Int) (L : List PV) (z : ByteArray) (hL : L = bytesPV z) (hj : j = z.size) (h0 : 0 ≤ cc) (h1 : cc ≤ 127) (hm : z.size + 1 ≤ 140737488355328) :
    CallF (fun _ => Try.prog) 29 [.ptr 0 (.lit 0), .p (.int .i32 (.sym cc))] [(0, .bld 65 [.sl 1 5 1 (.lit 0) (.sym j)]), (1, .pure true L)] 2
      (fun r h n => ∃ (m k : Int) (L' : List PV), r = .tup [.p (.int .i64 (.sym m)), .p .nilif] ∧ h = [(2, .pure true L'), (0, .bld 65 [.sl 2 5 1 (.lit 0) (.sym k)])] ∧ n = 3 ∧ L' = bytesPV (z ++ ⟨#[cc.toNat.toUInt8]⟩) ∧ k = (z ++ ⟨#[cc.toNat.toUInt8]⟩).size) := by
  refine callF_of_body tok Try.func29 (by kernel_rfl) rfl rfl rfl ?_; conv => cbv
  refine callF_frame (copyCheck_lx (.sl 1 5 1 (.lit 0) (.sym j)) (.pure true L)) [(0, 0), (1, 1)] rfl (by simp [hmapOk, nget, hget, renB, okB, renV, renVs, rn, okVs, okV]) rfl rfl (fun r h' n' ⟨e1, e2, e3⟩ => ?_)
  subst e1 e2 e3
  conv => cbv
  refine callF_frame (appendRune_lx j cc L z hL hj h0 h1 hm) [(0, 1)] rfl (by simp [hmapOk, nget, hget, renB, okB]) rfl rfl (fun r h' n' ⟨k, L2, e1, e2, e3, hL2, hk⟩ => ?_)
  subst e1 e2 e3
  conv => cbv
  refine Fit.mk (show (-9223372036854775808 : Int) ≤ k - j by omega) (show k - j ≤ 9223372036854775807 by omega) fun m hm2 => ?_
  conv => cbv
  have hk2 : k = (z ++ ⟨#[cc.toNat.toUInt8]⟩ : ByteArray).size := by rw [ByteArray.size_append, hk]; rfl
  refine RetF.mk [.p (.int .i64 (.sym m)), .p .nilif] [(2, .pure true L2), (0, .bld 65 [.sl 2 5 1 (.lit 0) (.sym k)])] 3 (Re.of [(0, 0), (2, 2)] [] (by first | exact Nat.zero_le _ | exact Nat.le_refl _ | decide | (dsimp only; decide)) rfl rfl (by (try (conv => cbv)); (repeat' (first | exact trivial | rfl | exact SEq.mk rfl | (exact SEq.mk (by first | assumption | (symm; assumption))) | (simp only [I.val]; done) | (simp only [I.val]; omega) | omega | assumption | (refine And.intro ?_ ?_) | exact Or.inl rfl | exact Or.inr (by assumption) | exact List.Mem.head _ | exact List.Mem.tail _ (List.Mem.head _) | exact ⟨_, rfl⟩ | exact ⟨_, rfl, Or.inl rfl⟩ | (refine ⟨_, rfl, Or.inr ?_⟩; (try (conv => cbv))) | (simp only [I.val] at *; first | omega | (subst_vars; rfl) | simp_all) | (refine Or.inr ?_; (try (conv => cbv)))))) (by (try (conv => cbv)); (repeat' (first | exact trivial | rfl | exact SEq.mk rfl | (exact SEq.mk (by first | assumption | (symm; assumption))) | (simp only [I.val]; done) | (simp only [I.val]; omega) | omega | assumption | (refine And.intro ?_ ?_) | exact Or.inl rfl | exact Or.inr (by assumption) | exact List.Mem.head _ | exact List.Mem.tail _ (List.Mem.head _) | exact ⟨_, rfl⟩ | exact ⟨_, rfl, Or.inl rfl⟩ | (refine ⟨_, rfl, Or.inr ?_⟩; (try (conv => cbv))) | (simp only [I.val] at *; first | omega | (subst_vars; rfl) | simp_all) | (refine Or.inr ?_; (try (conv => cbv))))))) rfl ⟨m, k, L2, rfl, rfl, rfl, hL2, hk2⟩
end Go.Proofs.Ytocliihimbggjaa
