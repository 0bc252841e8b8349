/-
  Entries and Bytes, as the document tells them; and what a script may be.
-/
import Derived.Test.YtongaoioaafjnaaScO
namespace Go.Proofs.Ytongaoioaafjnaa
open Go Go.LX
set_option maxRecDepth 100000
set_option linter.unusedVariables false

set_option maxHeartbeats 4000000 in
theorem refEntries_own (bs : List Int) (m : Int) (lb : List PV) (hm : m = bs.length) (hb : lb = u8s bs) (h8 : ∀ x ∈ bs, 0 ≤ x ∧ x < 256) (hl : (bs.length : Int) < 1000000) :
    CallF (fun _ => Try.prog) 18 [.p (.vsl (.sym m) true lb)] [] 0 (fun r h n => ∃ (k : Int) (l : List PV), r = .sl 0 38 3 (.lit 0) (.sym k) ∧ h = [(0, .pure true l)] ∧ n = 1 ∧ k = (Es 400 bs).length ∧ l = ents (Es 400 bs)) := by
  refine callF_of_body tok Try.func18 (by kernel_rfl) rfl rfl rfl ?_; conv => cbv
  refine LoopF.mk (fun k s => ∃ (i j : Int) (acc : List E3) (L : List PV), s = ⟨.p (.vsl (.sym m) true lb) :: .undef :: .undef :: .sl 0 38 3 (.lit 0) (.sym j) :: .p (.int .i64 (.sym i)) :: undefs 63, [(0, .pure true L)], 1⟩ ∧ i = 2 * j ∧ j = acc.length ∧ L = ents acc ∧ j ≤ 400 ∧ acc ++ Es (400 - acc.length) (bs.drop i.toNat) = Es 400 bs ∧ k = (400 - j).toNat) 400 _
    (Re.of [] [0] (by first | exact Nat.zero_le _ | exact Nat.le_refl _ | decide) rfl rfl (by (try (conv => cbv)); (repeat' (first | exact trivial | rfl | exact SEq.mk rfl | (exact SEq.mk (by first | assumption | (symm; assumption))) | (simp only [I.val]; done) | (simp only [I.val]; omega) | omega | assumption | (refine And.intro ?_ ?_) | exact Or.inl rfl | exact Or.inr (by assumption) | exact List.Mem.head _ | exact List.Mem.tail _ (List.Mem.head _) | exact ⟨_, rfl⟩ | exact ⟨_, rfl, Or.inl rfl⟩ | (refine ⟨_, rfl, Or.inr ?_⟩; (try (conv => cbv))) | (simp only [I.val] at *; first | omega | (subst_vars; rfl) | simp_all)))) (by (try (conv => cbv)); (repeat' (first | exact trivial | rfl | exact SEq.mk rfl | (exact SEq.mk (by first | assumption | (symm; assumption))) | (simp only [I.val]; done) | (simp only [I.val]; omega) | omega | assumption | (refine And.intro ?_ ?_) | exact Or.inl rfl | exact Or.inr (by assumption) | exact List.Mem.head _ | exact List.Mem.tail _ (List.Mem.head _) | exact ⟨_, rfl⟩ | exact ⟨_, rfl, Or.inl rfl⟩ | (refine ⟨_, rfl, Or.inr ?_⟩; (try (conv => cbv))) | (simp only [I.val] at *; first | omega | (subst_vars; rfl) | simp_all))))) ⟨0, 0, [], [], rfl, by omega, by simp, rfl, by omega, by simp, by omega⟩ ?_
  rintro k s ⟨i, j, acc, L, rfl, hi, hj, hL, hj4, hacc, hk⟩
  conv => cbv
  have fin : acc = Es 400 bs → LX.RetF 0 [.sl 0 38 3 (.lit 0) (.sym j)] [(0, .pure true L)] 1 (fun r h n => ∃ (k : Int) (l : List PV), r = .sl 0 38 3 (.lit 0) (.sym k) ∧ h = [(0, .pure true l)] ∧ n = 1 ∧ k = (Es 400 bs).length ∧ l = ents (Es 400 bs)) := by
    intro h
    refine RetF.mk [.sl 0 38 3 (.lit 0) (.sym j)] [(0, .pure true L)] 1 (Re.of [(0, 0)] [] (by first | exact Nat.zero_le _ | exact Nat.le_refl _ | decide) rfl rfl (by (try (conv => cbv)); (repeat' (first | exact trivial | rfl | exact SEq.mk rfl | (exact SEq.mk (by first | assumption | (symm; assumption))) | (simp only [I.val]; done) | (simp only [I.val]; omega) | omega | assumption | (refine And.intro ?_ ?_) | exact Or.inl rfl | exact Or.inr (by assumption) | exact List.Mem.head _ | exact List.Mem.tail _ (List.Mem.head _) | exact ⟨_, rfl⟩ | exact ⟨_, rfl, Or.inl rfl⟩ | (refine ⟨_, rfl, Or.inr ?_⟩; (try (conv => cbv))) | (simp only [I.val] at *; first | omega | (subst_vars; rfl) | simp_all)))) (by (try (conv => cbv)); (repeat' (first | exact trivial | rfl | exact SEq.mk rfl | (exact SEq.mk (by first | assumption | (symm; assumption))) | (simp only [I.val]; done) | (simp only [I.val]; omega) | omega | assumption | (refine And.intro ?_ ?_) | exact Or.inl rfl | exact Or.inr (by assumption) | exact List.Mem.head _ | exact List.Mem.tail _ (List.Mem.head _) | exact ⟨_, rfl⟩ | exact ⟨_, rfl, Or.inl rfl⟩ | (refine ⟨_, rfl, Or.inr ?_⟩; (try (conv => cbv))) | (simp only [I.val] at *; first | omega | (subst_vars; rfl) | simp_all))))) rfl ⟨j, L, rfl, rfl, rfl, by rw [← h]; exact hj, by rw [← h]; exact hL⟩
  refine Br.mk (fun e1 => ?_) (fun e1 => ?_)
  · simp only [I.val] at e1
    conv => cbv
    refine Br.mk (fun e2 => ?_) (fun e2 => ?_)
    · simp only [I.val] at e2
      obtain ⟨p, hp⟩ : ∃ e, bs[i.toNat]? = some e := ⟨_, List.getElem?_eq_getElem (by omega)⟩
      have hp8 := h8 p (List.mem_of_getElem? hp)
      have hp2 := u8s_get bs i.toNat p hp
      rw [← hb] at hp2
      have tail : ∀ q, 0 ≤ q → q < 256 → (bs.drop i.toNat = [p] ∧ q = 0 ∨ ∃ rest, bs.drop i.toNat = p :: q :: rest) → acc ++ [ent p q] ++ Es (400 - (acc ++ [ent p q]).length) (bs.drop (i + 2).toNat) = Es 400 bs := by
        intro q hq0 hq1 hd
        have h1 : 400 - acc.length = (400 - (acc ++ [ent p q]).length) + 1 := by simp; omega
        have h2 : bs.drop (i + 2).toNat = (bs.drop i.toNat).drop 2 := by rw [List.drop_drop]; congr 1; omega
        rw [h1] at hacc
        rw [← hacc, h2]
        rcases hd with ⟨hd, h0⟩ | ⟨rest, hd⟩
        · subst h0
          rw [hd]
          have : ∀ n, Es n [] = [] := fun n => by cases n <;> rfl
          simp [Es, this]
        · rw [hd]
          simp [Es]
      have hdrop : bs.drop i.toNat = p :: bs.drop (i.toNat + 1) := by
        obtain ⟨h1, h2⟩ := List.getElem?_eq_some_iff.1 hp
        rw [List.drop_eq_getElem_cons h1, h2]
      obtain ⟨k', rfl⟩ : ∃ k', k = k' + 1 := ⟨k - 1, by omega⟩
      conv => cbv
      refine Need.mk ⟨by simp only [I.val]; omega, by simp only [I.val]; omega⟩ ?_
      conv => cbv
      refine Cell.at (i + 0) _ hp2 rfl (by omega) ?_
      conv => cbv
      refine Fit.mk (by show (-9223372036854775808 : Int) ≤ p; omega) (by show p ≤ 9223372036854775807; omega) ?_
      intro p1 hp1
      have hp1 : p1 = p := hp1
      subst hp1
      conv => cbv
      refine Fit.mk (by show (-9223372036854775808 : Int) ≤ i + 1; omega) (by show i + 1 ≤ 9223372036854775807; omega) ?_
      intro i1 hi1
      have hi1 : i1 = i + 1 := hi1
      conv => cbv
      refine Br.mk (fun e3 => ?_) (fun e3 => ?_)
      · simp only [I.val] at e3
        obtain ⟨q, hq⟩ : ∃ e, bs[i.toNat + 1]? = some e := ⟨_, List.getElem?_eq_getElem (by omega)⟩
        have hq8 := h8 q (List.mem_of_getElem? hq)
        have hq2 := u8s_get bs (i.toNat + 1) q hq
        rw [← hb] at hq2
        have htl := tail q hq8.1 hq8.2 (.inr ⟨bs.drop (i.toNat + 2), by rw [hdrop]; obtain ⟨g1, g2⟩ := List.getElem?_eq_some_iff.1 hq; rw [List.drop_eq_getElem_cons g1, g2]⟩)
        conv => cbv
        refine Fit.mk (by show (-9223372036854775808 : Int) ≤ i + 1; omega) (by show i + 1 ≤ 9223372036854775807; omega) ?_
        intro i2 hi2
        have hi2 : i2 = i + 1 := hi2
        conv => cbv
        refine Need.mk ⟨by simp only [I.val]; omega, by simp only [I.val]; omega⟩ ?_
        conv => cbv
        refine Cell.at (i2 + 0) _ hq2 rfl (by omega) ?_
        conv => cbv
        refine Fit.mk (by show (-9223372036854775808 : Int) ≤ q; omega) (by show q ≤ 9223372036854775807; omega) ?_
        intro q1 hq1
        have hq1 : q1 = q := hq1
        subst hq1
        conv => cbv
        refine Br.mk (fun f1 => ?_) (fun f1 => ?_)
        · simp only [I.val] at f1
          conv => cbv
          refine Sum.mk fun a ha => ?_
          have ha : a = p1.tmod 16 := ha
          conv => cbv
          refine Sum.mk fun b hb => ?_
          have hb : b = q1.tmod 16 := hb
          conv => cbv
          have hent : ent p1 q1 = (1, a, b) := by simp only [ent, entK, entN, entD]; repeat' (first | rfl | rw [if_pos (by omega)] | rw [if_neg (by omega)] | rw [ha, hb, Int.tmod_eq_emod_of_nonneg (by omega), Int.tmod_eq_emod_of_nonneg (by omega)])
          rw [hent] at htl
          refine Need.mk rfl ?_
          conv => cbv
          refine Room.new ⟨by rw [hL, ents_length]; show ((3 * acc.length : Nat) : Int) = j * 3; omega, by show (j + 1) * 24 ≤ 140737488355328; omega, by show j + 1 ≤ 9223372036854775807; omega⟩ ?_
          conv => cbv
          refine Upd.mk fun L2 hL2 => ?_
          conv => cbv
          refine Sum.mk fun j2 hj2 => ?_
          have hj2 : j2 = j + 1 := hj2
          conv => cbv
          refine Fit.mk (by show (-9223372036854775808 : Int) ≤ i + 2; omega) (by show i + 2 ≤ 9223372036854775807; omega) ?_
          intro i3 hi3
          have hi3 : i3 = i + 2 := hi3
          conv => cbv
          generalize hL3 : ents (acc ++ [(1, a, b)]) = L3
          have hle : pvles L2 L3 := by rw [← hL3, hL2, hL, ents_append]; exact pvles_app (pvles_refl _) (by simp [ents, pvles, pvle, I.val])
          unfold pvles at hle
          refine Again.mk k' _ (Nat.lt_succ_self _) (Re.of [(2, 0)] [] (by first | exact Nat.zero_le _ | exact Nat.le_refl _ | decide) rfl rfl (by (try (conv => cbv)); (repeat' (first | exact trivial | rfl | exact SEq.mk rfl | (exact SEq.mk (by first | assumption | (symm; assumption))) | (simp only [I.val]; done) | (simp only [I.val]; omega) | omega | assumption | (refine And.intro ?_ ?_) | exact Or.inl rfl | exact Or.inr (by assumption) | exact List.Mem.head _ | exact List.Mem.tail _ (List.Mem.head _) | exact ⟨_, rfl⟩ | exact ⟨_, rfl, Or.inl rfl⟩ | (refine ⟨_, rfl, Or.inr ?_⟩; (try (conv => cbv))) | (simp only [I.val] at *; first | omega | (subst_vars; rfl) | simp_all)))) (by (try (conv => cbv)); (repeat' (first | exact trivial | rfl | exact SEq.mk rfl | (exact SEq.mk (by first | assumption | (symm; assumption))) | (simp only [I.val]; done) | (simp only [I.val]; omega) | omega | assumption | (refine And.intro ?_ ?_) | exact Or.inl rfl | exact Or.inr (by assumption) | exact List.Mem.head _ | exact List.Mem.tail _ (List.Mem.head _) | exact ⟨_, rfl⟩ | exact ⟨_, rfl, Or.inl rfl⟩ | (refine ⟨_, rfl, Or.inr ?_⟩; (try (conv => cbv))) | (simp only [I.val] at *; first | omega | (subst_vars; rfl) | simp_all))))) ⟨i3, j2, acc ++ [(1, a, b)], L3, rfl, by omega, by simp; omega, hL3.symm, by omega, by rw [hi3]; exact htl, by omega⟩
        · simp only [I.val] at f1
          conv => cbv
          refine Br.mk (fun f2 => ?_) (fun f2 => ?_)
          · simp only [I.val] at f2
            conv => cbv
            refine Sum.mk fun a ha => ?_
            have ha : a = q1.tmod 32 := ha
            conv => cbv
            have hent : ent p1 q1 = (2, a, 0) := by simp only [ent, entK, entN, entD]; repeat' (first | rfl | rw [if_pos (by omega)] | rw [if_neg (by omega)] | rw [ha, Int.tmod_eq_emod_of_nonneg (by omega)])
            rw [hent] at htl
            refine Need.mk rfl ?_
            conv => cbv
            refine Room.new ⟨by rw [hL, ents_length]; show ((3 * acc.length : Nat) : Int) = j * 3; omega, by show (j + 1) * 24 ≤ 140737488355328; omega, by show j + 1 ≤ 9223372036854775807; omega⟩ ?_
            conv => cbv
            refine Upd.mk fun L2 hL2 => ?_
            conv => cbv
            refine Sum.mk fun j2 hj2 => ?_
            have hj2 : j2 = j + 1 := hj2
            conv => cbv
            refine Fit.mk (by show (-9223372036854775808 : Int) ≤ i + 2; omega) (by show i + 2 ≤ 9223372036854775807; omega) ?_
            intro i3 hi3
            have hi3 : i3 = i + 2 := hi3
            conv => cbv
            generalize hL3 : ents (acc ++ [(2, a, 0)]) = L3
            have hle : pvles L2 L3 := by rw [← hL3, hL2, hL, ents_append]; exact pvles_app (pvles_refl _) (by simp [ents, pvles, pvle, I.val])
            unfold pvles at hle
            refine Again.mk k' _ (Nat.lt_succ_self _) (Re.of [(2, 0)] [] (by first | exact Nat.zero_le _ | exact Nat.le_refl _ | decide) rfl rfl (by (try (conv => cbv)); (repeat' (first | exact trivial | rfl | exact SEq.mk rfl | (exact SEq.mk (by first | assumption | (symm; assumption))) | (simp only [I.val]; done) | (simp only [I.val]; omega) | omega | assumption | (refine And.intro ?_ ?_) | exact Or.inl rfl | exact Or.inr (by assumption) | exact List.Mem.head _ | exact List.Mem.tail _ (List.Mem.head _) | exact ⟨_, rfl⟩ | exact ⟨_, rfl, Or.inl rfl⟩ | (refine ⟨_, rfl, Or.inr ?_⟩; (try (conv => cbv))) | (simp only [I.val] at *; first | omega | (subst_vars; rfl) | simp_all)))) (by (try (conv => cbv)); (repeat' (first | exact trivial | rfl | exact SEq.mk rfl | (exact SEq.mk (by first | assumption | (symm; assumption))) | (simp only [I.val]; done) | (simp only [I.val]; omega) | omega | assumption | (refine And.intro ?_ ?_) | exact Or.inl rfl | exact Or.inr (by assumption) | exact List.Mem.head _ | exact List.Mem.tail _ (List.Mem.head _) | exact ⟨_, rfl⟩ | exact ⟨_, rfl, Or.inl rfl⟩ | (refine ⟨_, rfl, Or.inr ?_⟩; (try (conv => cbv))) | (simp only [I.val] at *; first | omega | (subst_vars; rfl) | simp_all))))) ⟨i3, j2, acc ++ [(2, a, 0)], L3, rfl, by omega, by simp; omega, hL3.symm, by omega, by rw [hi3]; exact htl, by omega⟩
          · simp only [I.val] at f2
            conv => cbv
            refine Br.mk (fun f3 => ?_) (fun f3 => ?_)
            · simp only [I.val] at f3
              conv => cbv
              refine Sum.mk fun a ha => ?_
              have ha : a = q1.tmod 64 := ha
              conv => cbv
              have hent : ent p1 q1 = (3, a, 0) := by simp only [ent, entK, entN, entD]; repeat' (first | rfl | rw [if_pos (by omega)] | rw [if_neg (by omega)] | rw [ha, Int.tmod_eq_emod_of_nonneg (by omega)])
              rw [hent] at htl
              refine Need.mk rfl ?_
              conv => cbv
              refine Room.new ⟨by rw [hL, ents_length]; show ((3 * acc.length : Nat) : Int) = j * 3; omega, by show (j + 1) * 24 ≤ 140737488355328; omega, by show j + 1 ≤ 9223372036854775807; omega⟩ ?_
              conv => cbv
              refine Upd.mk fun L2 hL2 => ?_
              conv => cbv
              refine Sum.mk fun j2 hj2 => ?_
              have hj2 : j2 = j + 1 := hj2
              conv => cbv
              refine Fit.mk (by show (-9223372036854775808 : Int) ≤ i + 2; omega) (by show i + 2 ≤ 9223372036854775807; omega) ?_
              intro i3 hi3
              have hi3 : i3 = i + 2 := hi3
              conv => cbv
              generalize hL3 : ents (acc ++ [(3, a, 0)]) = L3
              have hle : pvles L2 L3 := by rw [← hL3, hL2, hL, ents_append]; exact pvles_app (pvles_refl _) (by simp [ents, pvles, pvle, I.val])
              unfold pvles at hle
              refine Again.mk k' _ (Nat.lt_succ_self _) (Re.of [(2, 0)] [] (by first | exact Nat.zero_le _ | exact Nat.le_refl _ | decide) rfl rfl (by (try (conv => cbv)); (repeat' (first | exact trivial | rfl | exact SEq.mk rfl | (exact SEq.mk (by first | assumption | (symm; assumption))) | (simp only [I.val]; done) | (simp only [I.val]; omega) | omega | assumption | (refine And.intro ?_ ?_) | exact Or.inl rfl | exact Or.inr (by assumption) | exact List.Mem.head _ | exact List.Mem.tail _ (List.Mem.head _) | exact ⟨_, rfl⟩ | exact ⟨_, rfl, Or.inl rfl⟩ | (refine ⟨_, rfl, Or.inr ?_⟩; (try (conv => cbv))) | (simp only [I.val] at *; first | omega | (subst_vars; rfl) | simp_all)))) (by (try (conv => cbv)); (repeat' (first | exact trivial | rfl | exact SEq.mk rfl | (exact SEq.mk (by first | assumption | (symm; assumption))) | (simp only [I.val]; done) | (simp only [I.val]; omega) | omega | assumption | (refine And.intro ?_ ?_) | exact Or.inl rfl | exact Or.inr (by assumption) | exact List.Mem.head _ | exact List.Mem.tail _ (List.Mem.head _) | exact ⟨_, rfl⟩ | exact ⟨_, rfl, Or.inl rfl⟩ | (refine ⟨_, rfl, Or.inr ?_⟩; (try (conv => cbv))) | (simp only [I.val] at *; first | omega | (subst_vars; rfl) | simp_all))))) ⟨i3, j2, acc ++ [(3, a, 0)], L3, rfl, by omega, by simp; omega, hL3.symm, by omega, by rw [hi3]; exact htl, by omega⟩
            · simp only [I.val] at f3
              conv => cbv
              have hent : ent p1 q1 = (4, 0, 0) := by simp only [ent, entK, entN, entD]; repeat' (first | rfl | rw [if_pos (by omega)] | rw [if_neg (by omega)] | rw [Int.add_comm])
              rw [hent] at htl
              refine Need.mk rfl ?_
              conv => cbv
              refine Room.new ⟨by rw [hL, ents_length]; show ((3 * acc.length : Nat) : Int) = j * 3; omega, by show (j + 1) * 24 ≤ 140737488355328; omega, by show j + 1 ≤ 9223372036854775807; omega⟩ ?_
              conv => cbv
              refine Upd.mk fun L2 hL2 => ?_
              conv => cbv
              refine Sum.mk fun j2 hj2 => ?_
              have hj2 : j2 = j + 1 := hj2
              conv => cbv
              refine Fit.mk (by show (-9223372036854775808 : Int) ≤ i + 2; omega) (by show i + 2 ≤ 9223372036854775807; omega) ?_
              intro i3 hi3
              have hi3 : i3 = i + 2 := hi3
              conv => cbv
              generalize hL3 : ents (acc ++ [(4, 0, 0)]) = L3
              have hle : pvles L2 L3 := by rw [← hL3, hL2, hL, ents_append]; exact pvles_app (pvles_refl _) (by simp [ents, pvles, pvle, I.val])
              unfold pvles at hle
              refine Again.mk k' _ (Nat.lt_succ_self _) (Re.of [(2, 0)] [] (by first | exact Nat.zero_le _ | exact Nat.le_refl _ | decide) rfl rfl (by (try (conv => cbv)); (repeat' (first | exact trivial | rfl | exact SEq.mk rfl | (exact SEq.mk (by first | assumption | (symm; assumption))) | (simp only [I.val]; done) | (simp only [I.val]; omega) | omega | assumption | (refine And.intro ?_ ?_) | exact Or.inl rfl | exact Or.inr (by assumption) | exact List.Mem.head _ | exact List.Mem.tail _ (List.Mem.head _) | exact ⟨_, rfl⟩ | exact ⟨_, rfl, Or.inl rfl⟩ | (refine ⟨_, rfl, Or.inr ?_⟩; (try (conv => cbv))) | (simp only [I.val] at *; first | omega | (subst_vars; rfl) | simp_all)))) (by (try (conv => cbv)); (repeat' (first | exact trivial | rfl | exact SEq.mk rfl | (exact SEq.mk (by first | assumption | (symm; assumption))) | (simp only [I.val]; done) | (simp only [I.val]; omega) | omega | assumption | (refine And.intro ?_ ?_) | exact Or.inl rfl | exact Or.inr (by assumption) | exact List.Mem.head _ | exact List.Mem.tail _ (List.Mem.head _) | exact ⟨_, rfl⟩ | exact ⟨_, rfl, Or.inl rfl⟩ | (refine ⟨_, rfl, Or.inr ?_⟩; (try (conv => cbv))) | (simp only [I.val] at *; first | omega | (subst_vars; rfl) | simp_all))))) ⟨i3, j2, acc ++ [(4, 0, 0)], L3, rfl, by omega, by simp; omega, hL3.symm, by omega, by rw [hi3]; exact htl, by omega⟩
      · simp only [I.val] at e3
        have htl := tail 0 (by omega) (by omega) (.inl ⟨by rw [hdrop, List.drop_eq_nil_of_le (by omega)], rfl⟩)
        conv => cbv
        refine Br.mk (fun f1 => ?_) (fun f1 => ?_)
        · simp only [I.val] at f1
          conv => cbv
          refine Sum.mk fun a ha => ?_
          have ha : a = p1.tmod 16 := ha
          conv => cbv
          have hent : ent p1 0 = (1, a, 0) := by simp only [ent, entK, entN, entD]; repeat' (first | rfl | rw [if_pos (by omega)] | rw [if_neg (by omega)] | rw [ha, Int.tmod_eq_emod_of_nonneg (by omega)])
          rw [hent] at htl
          refine Need.mk rfl ?_
          conv => cbv
          refine Room.new ⟨by rw [hL, ents_length]; show ((3 * acc.length : Nat) : Int) = j * 3; omega, by show (j + 1) * 24 ≤ 140737488355328; omega, by show j + 1 ≤ 9223372036854775807; omega⟩ ?_
          conv => cbv
          refine Upd.mk fun L2 hL2 => ?_
          conv => cbv
          refine Sum.mk fun j2 hj2 => ?_
          have hj2 : j2 = j + 1 := hj2
          conv => cbv
          refine Fit.mk (by show (-9223372036854775808 : Int) ≤ i + 2; omega) (by show i + 2 ≤ 9223372036854775807; omega) ?_
          intro i3 hi3
          have hi3 : i3 = i + 2 := hi3
          conv => cbv
          generalize hL3 : ents (acc ++ [(1, a, 0)]) = L3
          have hle : pvles L2 L3 := by rw [← hL3, hL2, hL, ents_append]; exact pvles_app (pvles_refl _) (by simp [ents, pvles, pvle, I.val])
          unfold pvles at hle
          refine Again.mk k' _ (Nat.lt_succ_self _) (Re.of [(2, 0)] [] (by first | exact Nat.zero_le _ | exact Nat.le_refl _ | decide) rfl rfl (by (try (conv => cbv)); (repeat' (first | exact trivial | rfl | exact SEq.mk rfl | (exact SEq.mk (by first | assumption | (symm; assumption))) | (simp only [I.val]; done) | (simp only [I.val]; omega) | omega | assumption | (refine And.intro ?_ ?_) | exact Or.inl rfl | exact Or.inr (by assumption) | exact List.Mem.head _ | exact List.Mem.tail _ (List.Mem.head _) | exact ⟨_, rfl⟩ | exact ⟨_, rfl, Or.inl rfl⟩ | (refine ⟨_, rfl, Or.inr ?_⟩; (try (conv => cbv))) | (simp only [I.val] at *; first | omega | (subst_vars; rfl) | simp_all)))) (by (try (conv => cbv)); (repeat' (first | exact trivial | rfl | exact SEq.mk rfl | (exact SEq.mk (by first | assumption | (symm; assumption))) | (simp only [I.val]; done) | (simp only [I.val]; omega) | omega | assumption | (refine And.intro ?_ ?_) | exact Or.inl rfl | exact Or.inr (by assumption) | exact List.Mem.head _ | exact List.Mem.tail _ (List.Mem.head _) | exact ⟨_, rfl⟩ | exact ⟨_, rfl, Or.inl rfl⟩ | (refine ⟨_, rfl, Or.inr ?_⟩; (try (conv => cbv))) | (simp only [I.val] at *; first | omega | (subst_vars; rfl) | simp_all))))) ⟨i3, j2, acc ++ [(1, a, 0)], L3, rfl, by omega, by simp; omega, hL3.symm, by omega, by rw [hi3]; exact htl, by omega⟩
        · simp only [I.val] at f1
          conv => cbv
          refine Br.mk (fun f2 => ?_) (fun f2 => ?_)
          · simp only [I.val] at f2
            conv => cbv
            have hent : ent p1 0 = (2, 0, 0) := by simp only [ent, entK, entN, entD]; repeat' (first | rfl | rw [if_pos (by omega)] | rw [if_neg (by omega)] | rw [Int.add_comm])
            rw [hent] at htl
            refine Need.mk rfl ?_
            conv => cbv
            refine Room.new ⟨by rw [hL, ents_length]; show ((3 * acc.length : Nat) : Int) = j * 3; omega, by show (j + 1) * 24 ≤ 140737488355328; omega, by show j + 1 ≤ 9223372036854775807; omega⟩ ?_
            conv => cbv
            refine Upd.mk fun L2 hL2 => ?_
            conv => cbv
            refine Sum.mk fun j2 hj2 => ?_
            have hj2 : j2 = j + 1 := hj2
            conv => cbv
            refine Fit.mk (by show (-9223372036854775808 : Int) ≤ i + 2; omega) (by show i + 2 ≤ 9223372036854775807; omega) ?_
            intro i3 hi3
            have hi3 : i3 = i + 2 := hi3
            conv => cbv
            generalize hL3 : ents (acc ++ [(2, 0, 0)]) = L3
            have hle : pvles L2 L3 := by rw [← hL3, hL2, hL, ents_append]; exact pvles_app (pvles_refl _) (by simp [ents, pvles, pvle, I.val])
            unfold pvles at hle
            refine Again.mk k' _ (Nat.lt_succ_self _) (Re.of [(2, 0)] [] (by first | exact Nat.zero_le _ | exact Nat.le_refl _ | decide) rfl rfl (by (try (conv => cbv)); (repeat' (first | exact trivial | rfl | exact SEq.mk rfl | (exact SEq.mk (by first | assumption | (symm; assumption))) | (simp only [I.val]; done) | (simp only [I.val]; omega) | omega | assumption | (refine And.intro ?_ ?_) | exact Or.inl rfl | exact Or.inr (by assumption) | exact List.Mem.head _ | exact List.Mem.tail _ (List.Mem.head _) | exact ⟨_, rfl⟩ | exact ⟨_, rfl, Or.inl rfl⟩ | (refine ⟨_, rfl, Or.inr ?_⟩; (try (conv => cbv))) | (simp only [I.val] at *; first | omega | (subst_vars; rfl) | simp_all)))) (by (try (conv => cbv)); (repeat' (first | exact trivial | rfl | exact SEq.mk rfl | (exact SEq.mk (by first | assumption | (symm; assumption))) | (simp only [I.val]; done) | (simp only [I.val]; omega) | omega | assumption | (refine And.intro ?_ ?_) | exact Or.inl rfl | exact Or.inr (by assumption) | exact List.Mem.head _ | exact List.Mem.tail _ (List.Mem.head _) | exact ⟨_, rfl⟩ | exact ⟨_, rfl, Or.inl rfl⟩ | (refine ⟨_, rfl, Or.inr ?_⟩; (try (conv => cbv))) | (simp only [I.val] at *; first | omega | (subst_vars; rfl) | simp_all))))) ⟨i3, j2, acc ++ [(2, 0, 0)], L3, rfl, by omega, by simp; omega, hL3.symm, by omega, by rw [hi3]; exact htl, by omega⟩
          · simp only [I.val] at f2
            conv => cbv
            refine Br.mk (fun f3 => ?_) (fun f3 => ?_)
            · simp only [I.val] at f3
              conv => cbv
              have hent : ent p1 0 = (3, 0, 0) := by simp only [ent, entK, entN, entD]; repeat' (first | rfl | rw [if_pos (by omega)] | rw [if_neg (by omega)] | rw [Int.add_comm])
              rw [hent] at htl
              refine Need.mk rfl ?_
              conv => cbv
              refine Room.new ⟨by rw [hL, ents_length]; show ((3 * acc.length : Nat) : Int) = j * 3; omega, by show (j + 1) * 24 ≤ 140737488355328; omega, by show j + 1 ≤ 9223372036854775807; omega⟩ ?_
              conv => cbv
              refine Upd.mk fun L2 hL2 => ?_
              conv => cbv
              refine Sum.mk fun j2 hj2 => ?_
              have hj2 : j2 = j + 1 := hj2
              conv => cbv
              refine Fit.mk (by show (-9223372036854775808 : Int) ≤ i + 2; omega) (by show i + 2 ≤ 9223372036854775807; omega) ?_
              intro i3 hi3
              have hi3 : i3 = i + 2 := hi3
              conv => cbv
              generalize hL3 : ents (acc ++ [(3, 0, 0)]) = L3
              have hle : pvles L2 L3 := by rw [← hL3, hL2, hL, ents_append]; exact pvles_app (pvles_refl _) (by simp [ents, pvles, pvle, I.val])
              unfold pvles at hle
              refine Again.mk k' _ (Nat.lt_succ_self _) (Re.of [(2, 0)] [] (by first | exact Nat.zero_le _ | exact Nat.le_refl _ | decide) rfl rfl (by (try (conv => cbv)); (repeat' (first | exact trivial | rfl | exact SEq.mk rfl | (exact SEq.mk (by first | assumption | (symm; assumption))) | (simp only [I.val]; done) | (simp only [I.val]; omega) | omega | assumption | (refine And.intro ?_ ?_) | exact Or.inl rfl | exact Or.inr (by assumption) | exact List.Mem.head _ | exact List.Mem.tail _ (List.Mem.head _) | exact ⟨_, rfl⟩ | exact ⟨_, rfl, Or.inl rfl⟩ | (refine ⟨_, rfl, Or.inr ?_⟩; (try (conv => cbv))) | (simp only [I.val] at *; first | omega | (subst_vars; rfl) | simp_all)))) (by (try (conv => cbv)); (repeat' (first | exact trivial | rfl | exact SEq.mk rfl | (exact SEq.mk (by first | assumption | (symm; assumption))) | (simp only [I.val]; done) | (simp only [I.val]; omega) | omega | assumption | (refine And.intro ?_ ?_) | exact Or.inl rfl | exact Or.inr (by assumption) | exact List.Mem.head _ | exact List.Mem.tail _ (List.Mem.head _) | exact ⟨_, rfl⟩ | exact ⟨_, rfl, Or.inl rfl⟩ | (refine ⟨_, rfl, Or.inr ?_⟩; (try (conv => cbv))) | (simp only [I.val] at *; first | omega | (subst_vars; rfl) | simp_all))))) ⟨i3, j2, acc ++ [(3, 0, 0)], L3, rfl, by omega, by simp; omega, hL3.symm, by omega, by rw [hi3]; exact htl, by omega⟩
            · simp only [I.val] at f3
              conv => cbv
              have hent : ent p1 0 = (4, 0, 0) := by simp only [ent, entK, entN, entD]; repeat' (first | rfl | rw [if_pos (by omega)] | rw [if_neg (by omega)] | rw [Int.add_comm])
              rw [hent] at htl
              refine Need.mk rfl ?_
              conv => cbv
              refine Room.new ⟨by rw [hL, ents_length]; show ((3 * acc.length : Nat) : Int) = j * 3; omega, by show (j + 1) * 24 ≤ 140737488355328; omega, by show j + 1 ≤ 9223372036854775807; omega⟩ ?_
              conv => cbv
              refine Upd.mk fun L2 hL2 => ?_
              conv => cbv
              refine Sum.mk fun j2 hj2 => ?_
              have hj2 : j2 = j + 1 := hj2
              conv => cbv
              refine Fit.mk (by show (-9223372036854775808 : Int) ≤ i + 2; omega) (by show i + 2 ≤ 9223372036854775807; omega) ?_
              intro i3 hi3
              have hi3 : i3 = i + 2 := hi3
              conv => cbv
              generalize hL3 : ents (acc ++ [(4, 0, 0)]) = L3
              have hle : pvles L2 L3 := by rw [← hL3, hL2, hL, ents_append]; exact pvles_app (pvles_refl _) (by simp [ents, pvles, pvle, I.val])
              unfold pvles at hle
              refine Again.mk k' _ (Nat.lt_succ_self _) (Re.of [(2, 0)] [] (by first | exact Nat.zero_le _ | exact Nat.le_refl _ | decide) rfl rfl (by (try (conv => cbv)); (repeat' (first | exact trivial | rfl | exact SEq.mk rfl | (exact SEq.mk (by first | assumption | (symm; assumption))) | (simp only [I.val]; done) | (simp only [I.val]; omega) | omega | assumption | (refine And.intro ?_ ?_) | exact Or.inl rfl | exact Or.inr (by assumption) | exact List.Mem.head _ | exact List.Mem.tail _ (List.Mem.head _) | exact ⟨_, rfl⟩ | exact ⟨_, rfl, Or.inl rfl⟩ | (refine ⟨_, rfl, Or.inr ?_⟩; (try (conv => cbv))) | (simp only [I.val] at *; first | omega | (subst_vars; rfl) | simp_all)))) (by (try (conv => cbv)); (repeat' (first | exact trivial | rfl | exact SEq.mk rfl | (exact SEq.mk (by first | assumption | (symm; assumption))) | (simp only [I.val]; done) | (simp only [I.val]; omega) | omega | assumption | (refine And.intro ?_ ?_) | exact Or.inl rfl | exact Or.inr (by assumption) | exact List.Mem.head _ | exact List.Mem.tail _ (List.Mem.head _) | exact ⟨_, rfl⟩ | exact ⟨_, rfl, Or.inl rfl⟩ | (refine ⟨_, rfl, Or.inr ?_⟩; (try (conv => cbv))) | (simp only [I.val] at *; first | omega | (subst_vars; rfl) | simp_all))))) ⟨i3, j2, acc ++ [(4, 0, 0)], L3, rfl, by omega, by simp; omega, hL3.symm, by omega, by rw [hi3]; exact htl, by omega⟩
    · simp only [I.val] at e2
      conv => cbv
      have h0 : 400 - acc.length = 0 := by omega
      rw [h0] at hacc
      exact fin (by simpa [Es] using hacc)
  · simp only [I.val] at e1
    conv => cbv
    refine fin ?_
    have : bs.drop i.toNat = [] := List.drop_eq_nil_of_le (by omega)
    have h0 : ∀ n, Es n [] = [] := fun n => by cases n <;> rfl
    rw [this, h0, List.append_nil] at hacc
    exact hacc
end Go.Proofs.Ytongaoioaafjnaa
