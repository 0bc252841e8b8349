/-
  Law 27, ScriptTells.
-/
import Derived.Test.YtongaoioaafjnaaScT
namespace Go.Proofs.Ytongaoioaafjnaa
open Go Go.LX
set_option maxRecDepth 100000
set_option linter.unusedVariables false

theorem entK_bd (p : Int) : 1 ≤ entK p ∧ entK p ≤ 4 := by unfold entK; repeat' split <;> omega
theorem Es_kind : ∀ (n : Nat) (l : List Int), ∀ e ∈ Es n l, 1 ≤ e.1 ∧ e.1 ≤ 4
  | 0, l, e, h => by simp [Es] at h
  | n + 1, [], e, h => by simp [Es] at h
  | n + 1, [p], e, h => by simp [Es] at h; subst h; exact entK_bd p
  | n + 1, p :: q :: l, e, h => by
    rw [Es, List.mem_cons] at h
    rcases h with rfl | h
    · exact entK_bd p
    · exact Es_kind n l e h
theorem bytes_same : ∀ (A : List E3), (∀ e ∈ A, 1 ≤ e.1 ∧ e.1 ≤ 4) → bytesE A = bytesR A
  | [], _ => rfl
  | e :: A, h => by
    have h1 := h e List.mem_cons_self
    rw [bytesE, bytesR, bytes_same A fun e he => h e (List.mem_cons_of_mem _ he)]
    congr 1
    · unfold bF rF; repeat' split <;> omega
    · congr 1; unfold bS rS; repeat' split <;> omega
theorem bytes_E {A : List E3} (h : Es 400 (bytesE A) = A) : bytesE A = bytesR A := bytes_same A fun e he => Es_kind 400 _ e (h ▸ he)
theorem bytes_R {A : List E3} (h : Es 400 (bytesR A) = A) : bytesE A = bytesR A := bytes_same A fun e he => Es_kind 400 _ e (h ▸ he)
theorem u8s_flat : ∀ (A : List Int), ∀ u ∈ u8s A, flatP u
  | [], u, h => by cases h
  | e :: l, u, h => by
    simp only [u8s, List.mem_cons] at h
    rcases h with rfl | h
    · trivial
    · exact u8s_flat l u h
set_option maxHeartbeats 4000000 in
theorem scriptTells_lx (bs : List Int) (A : List E3) (m n : Int) (lb la : List PV) (hm : m = bs.length) (hn : n = A.length) (hb : lb = u8s bs) (ha : la = ents A) (h8 : ∀ x ∈ bs, 0 ≤ x ∧ x < 256) :
    CallF (fun _ => Try.prog) 4 [.p (.vsl (.sym m) true lb), .p (.vsl (.sym n) true la)] [] 0 (fun r _ _ => r = .p (.bool true)) := by
  refine callF_of_body tok Try.func4 (by kernel_rfl) rfl rfl rfl ?_; conv => cbv
  refine Br.mk (fun e1 => ?_) (fun e1 => ?_)
  · conv => cbv
    refine callF_val awake27_lx (by simp [ales, renVs]) rfl (fun r hr => by subst hr; rfl) (fun r hr => ?_)
    subst hr
    conv => cbv
    refine RetF.mk [.p (.bool true)] [] 0 (Re.of [] [] (by first | exact Nat.zero_le _ | exact Nat.le_refl _ | decide) rfl rfl (by (try (conv => cbv)); (repeat' (first | exact trivial | rfl | exact SEq.mk rfl | (exact SEq.mk (by first | assumption | (symm; assumption))) | (simp only [I.val]; done) | (simp only [I.val]; omega) | omega | assumption | (refine And.intro ?_ ?_) | exact Or.inl rfl | exact Or.inr (by assumption) | exact List.Mem.head _ | exact List.Mem.tail _ (List.Mem.head _) | exact ⟨_, rfl⟩ | exact ⟨_, rfl, Or.inl rfl⟩ | (refine ⟨_, rfl, Or.inr ?_⟩; (try (conv => cbv))) | (simp only [I.val] at *; first | omega | (subst_vars; rfl) | simp_all)))) (by (try (conv => cbv)); (repeat' (first | exact trivial | rfl | exact SEq.mk rfl | (exact SEq.mk (by first | assumption | (symm; assumption))) | (simp only [I.val]; done) | (simp only [I.val]; omega) | omega | assumption | (refine And.intro ?_ ?_) | exact Or.inl rfl | exact Or.inr (by assumption) | exact List.Mem.head _ | exact List.Mem.tail _ (List.Mem.head _) | exact ⟨_, rfl⟩ | exact ⟨_, rfl, Or.inl rfl⟩ | (refine ⟨_, rfl, Or.inr ?_⟩; (try (conv => cbv))) | (simp only [I.val] at *; first | omega | (subst_vars; rfl) | simp_all))))) rfl rfl
  have e1 : ¬ 1000 < m := e1
  conv => cbv
  refine Br.mk (fun e2 => ?_) (fun e2 => ?_)
  · conv => cbv
    refine callF_val awake27_lx (by simp [ales, renVs]) rfl (fun r hr => by subst hr; rfl) (fun r hr => ?_)
    subst hr
    conv => cbv
    refine RetF.mk [.p (.bool true)] [] 0 (Re.of [] [] (by first | exact Nat.zero_le _ | exact Nat.le_refl _ | decide) rfl rfl (by (try (conv => cbv)); (repeat' (first | exact trivial | rfl | exact SEq.mk rfl | (exact SEq.mk (by first | assumption | (symm; assumption))) | (simp only [I.val]; done) | (simp only [I.val]; omega) | omega | assumption | (refine And.intro ?_ ?_) | exact Or.inl rfl | exact Or.inr (by assumption) | exact List.Mem.head _ | exact List.Mem.tail _ (List.Mem.head _) | exact ⟨_, rfl⟩ | exact ⟨_, rfl, Or.inl rfl⟩ | (refine ⟨_, rfl, Or.inr ?_⟩; (try (conv => cbv))) | (simp only [I.val] at *; first | omega | (subst_vars; rfl) | simp_all)))) (by (try (conv => cbv)); (repeat' (first | exact trivial | rfl | exact SEq.mk rfl | (exact SEq.mk (by first | assumption | (symm; assumption))) | (simp only [I.val]; done) | (simp only [I.val]; omega) | omega | assumption | (refine And.intro ?_ ?_) | exact Or.inl rfl | exact Or.inr (by assumption) | exact List.Mem.head _ | exact List.Mem.tail _ (List.Mem.head _) | exact ⟨_, rfl⟩ | exact ⟨_, rfl, Or.inl rfl⟩ | (refine ⟨_, rfl, Or.inr ?_⟩; (try (conv => cbv))) | (simp only [I.val] at *; first | omega | (subst_vars; rfl) | simp_all))))) rfl rfl
  have e2 : ¬ 500 < n := e2
  conv => cbv
  refine callF_lend (own8_lx bs m 71 lb hm hb (by omega)) (by simp [lends, lendV, pvle, I.val]) (fun r h' n' ⟨k2, l2, e1, e2, e3, _, hl2⟩ => by subst e1 e2 e3; exact ⟨trivial, by simp only [flatB, hl2]; exact u8s_flat _, trivial⟩) (fun r h' n' ⟨k2, l2, e1, e2, e3, hk2, hl2⟩ => ?_)
  subst e1 e2 e3
  conv => cbv
  refine callF_val (bytes_lx A n la hn (pre_of ha) (by omega)) (by simp [ales, ale, renVs, renV, pvle, I.val]) rfl (fun r ⟨v, e, hr, _⟩ => by subst hr; rfl) (fun r ⟨v, e, hr, hv⟩ => ?_)
  subst hr
  conv => cbv
  refine callF_val (refBytes_lx A n la hn ha (by omega)) (by simp [ales, ale, renVs, renV, pvle, I.val]) rfl (fun r ⟨v, e, hr, _⟩ => by subst hr; rfl) (fun r ⟨w, f, hr, hw⟩ => ?_)
  subst hr
  have key : e = f ∧ ∃ (X Y : List Int) (x y : PV), X = Y ∧ (X.length : Int) < 1000000 ∧ ((v = .nils ∧ X = []) ∨ v = .vsl (.sym X.length) true (u8s X)) ∧ ((w = .nils ∧ Y = []) ∨ w = .vsl (.sym Y.length) true (u8s Y)) := by
    have l1 := bytesE_length A
    have l2 := bytesR_length A
    rcases hv with ⟨h1, h2, h3⟩ | ⟨h1, h2, h3⟩ <;> rcases hw with ⟨g1, g2, g3⟩ | ⟨g1, g2, g3⟩
    · have hE := bytes_E h1
      refine ⟨by omega, bytesE A, bytesR A, .nils, .nils, hE, by omega, .inr ?_, .inr ?_⟩
      · rw [h3]; congr 2; omega
      · rw [g3]; congr 2; omega
    · exact absurd (by rw [← bytes_E h1]; exact h1) g1
    · exact absurd (by rw [bytes_R g1]; exact g1) h1
    · exact ⟨by omega, [], [], .nils, .nils, rfl, by simp, .inl ⟨h3, rfl⟩, .inl ⟨g3, rfl⟩⟩
  clear hv hw
  obtain ⟨hef, X, Y, _, _, hXY, hXl, hvX, hwY⟩ := key
  have hvp : pvle v (.vsl (.sym X.length) true (u8s X)) := by
    rcases hvX with ⟨h1, h2⟩ | h1
    · subst h1 h2; simp [pvle, I.val]
    · subst h1; exact pvle_refl _
  have hwp : pvle w (.vsl (.sym Y.length) true (u8s Y)) := by
    rcases hwY with ⟨h1, h2⟩ | h1
    · subst h1 h2; simp [pvle, I.val]
    · subst h1; exact pvle_refl _
  clear hvX hwY
  conv => cbv
  refine callF_val awake27_lx (by simp [ales, renVs]) rfl (fun r hr => by subst hr; rfl) (fun r hr => ?_)
  subst hr
  conv => cbv
  refine callF_lend (entries_own bs k2 (u8s bs) (by omega) rfl h8 (by omega)) (by simp [lends, lendV, hget, I.val, hl2, u8s_app]) (fun r h' n' ⟨k3, l3, e1, e2, e3, _, hl3⟩ => by subst e1 e2 e3; exact ⟨trivial, by simp only [flatB, hl3]; exact ents_flat _, trivial⟩) (fun r h' n' ⟨k3, l3, e1, e2, e3, hk3, hl3⟩ => ?_)
  subst e1 e2 e3
  conv => cbv
  refine callF_lend (refEntries_own bs m lb hm hb h8 (by omega)) (by simp [lends, lendV, pvle, I.val]) (fun r h' n' ⟨k4, l4, e1, e2, e3, _, hl4⟩ => by subst e1 e2 e3; exact ⟨trivial, by simp only [flatB, hl4]; exact ents_flat _, trivial⟩) (fun r h' n' ⟨k4, l4, e1, e2, e3, hk4, hl4⟩ => ?_)
  subst e1 e2 e3
  conv => cbv
  have h400 := Es_le 400 bs
  refine callF_lend (plainEnt_lx (Es 400 bs) (Es 400 bs) k3 k4 l3 l4 hk3 hk4 hl3 (pre_of hl4) (by omega)) (by simp [lends, lendV, hget, I.val]) (fun r h' n' ⟨⟨b, e1, _⟩, e2, e3⟩ => by subst e1 e2; exact ⟨trivial, trivial⟩) (fun r h' n' ⟨⟨b, e1, hb1⟩, e2, e3⟩ => ?_)
  subst e1 e2 e3
  have hb1 := hb1.2 rfl
  subst hb1
  conv => cbv
  refine callF_lend (plainu8_lx X Y X.length Y.length (u8s X) (u8s Y) rfl rfl (preI_u8s X) (preI_u8s Y) hXl) (by simp only [lends, lendV, and_true]; exact ⟨hvp, hwp⟩) (fun r h' n' ⟨⟨b, e1, _⟩, e2, e3⟩ => by subst e1 e2; exact ⟨trivial, trivial⟩) (fun r h' n' ⟨⟨b, e1, hb1⟩, e2, e3⟩ => ?_)
  subst e1 e2 e3
  have hb1 := hb1.2 hXY
  subst hb1
  conv => cbv
  refine Br.mk (fun g => ?_) (fun g => ?_)
  case refine_2 => exact absurd hef g
  conv => cbv
  refine CallF.le (args0 := [.sl 0 5 1 (.lit 0) (.sym k2), .p (.vsl (.sym m) true lb), .p (.int .u8 (.sym 71))]) (callF_frame (kept8_lx bs m k2 71 l2 lb hm hk2 hb hl2 (by omega)) [(0, 0)] rfl (by simp [hmapOk, nget, hget, renB, okB]) rfl rfl (fun r h' n' ⟨e1, e2, e3⟩ => ?_)) (by simp [ales, ale, pvle, I.val])
  subst e1 e2 e3
  conv => cbv
  refine RetF.mk [.p (.bool true)] [] 0 (Re.of [] [] (by first | exact Nat.zero_le _ | exact Nat.le_refl _ | decide) rfl rfl (by (try (conv => cbv)); (repeat' (first | exact trivial | rfl | exact SEq.mk rfl | (exact SEq.mk (by first | assumption | (symm; assumption))) | (simp only [I.val]; done) | (simp only [I.val]; omega) | omega | assumption | (refine And.intro ?_ ?_) | exact Or.inl rfl | exact Or.inr (by assumption) | exact List.Mem.head _ | exact List.Mem.tail _ (List.Mem.head _) | exact ⟨_, rfl⟩ | exact ⟨_, rfl, Or.inl rfl⟩ | (refine ⟨_, rfl, Or.inr ?_⟩; (try (conv => cbv))) | (simp only [I.val] at *; first | omega | (subst_vars; rfl) | simp_all)))) (by (try (conv => cbv)); (repeat' (first | exact trivial | rfl | exact SEq.mk rfl | (exact SEq.mk (by first | assumption | (symm; assumption))) | (simp only [I.val]; done) | (simp only [I.val]; omega) | omega | assumption | (refine And.intro ?_ ?_) | exact Or.inl rfl | exact Or.inr (by assumption) | exact List.Mem.head _ | exact List.Mem.tail _ (List.Mem.head _) | exact ⟨_, rfl⟩ | exact ⟨_, rfl, Or.inl rfl⟩ | (refine ⟨_, rfl, Or.inr ?_⟩; (try (conv => cbv))) | (simp only [I.val] at *; first | omega | (subst_vars; rfl) | simp_all))))) rfl rfl
end Go.Proofs.Ytongaoioaafjnaa
