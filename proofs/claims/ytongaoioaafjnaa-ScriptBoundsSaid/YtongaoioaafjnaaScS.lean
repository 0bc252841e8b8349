/-
  Package script: the entries of a row of bytes.
-/
import Derived.Test.YtongaoioaafjnaaScP
namespace Go.Proofs.Ytongaoioaafjnaa
open Go Go.LX
set_option maxRecDepth 100000
set_option linter.unusedVariables false

def u8s : List Int → List PV
  | [] => []
  | x :: l => .int .u8 (.sym x) :: u8s l
theorem u8s_get : ∀ (l : List Int) (i : Nat) (x : Int), l[i]? = some x → (u8s l)[i]? = some (.int .u8 (.sym x))
  | [], i, x, h => by simp at h
  | y :: l, 0, x, h => by simp at h; subst h; rfl
  | y :: l, i + 1, x, h => by simpa [u8s] using u8s_get l i x (by simpa using h)
theorem u8s_length : ∀ l, (u8s l).length = l.length
  | [] => rfl
  | x :: l => by simp [u8s, u8s_length l]
theorem ents_append : ∀ a b, ents (a ++ b) = ents a ++ ents b
  | [], b => rfl
  | (k, x, d) :: a, b => by simp [ents, ents_append a b]

def ent (p q : Int) : E3 := (entK p, entN p q, entD p q)
def Es : Nat → List Int → List E3
  | 0, _ => []
  | n + 1, [] => []
  | n + 1, [p] => [ent p 0]
  | n + 1, p :: q :: l => ent p q :: Es n l

theorem entries_own (bs : List Int) (m : Int) (lb : List PV) (hm : m = bs.length) (hb : lb = u8s bs) (h8 : ∀ x ∈ bs, 0 ≤ x ∧ x < 256) (hl : (bs.length : Int) < 1000000) :
    CallF (fun _ => Try.prog) 17 [.p (.vsl (.sym m) true lb)] [] 0 (fun r h n => ∃ (k : Int) (l : List PV), r = .sl 0 38 3 (.lit 0) (.sym k) ∧ h = [(0, .pure true l)] ∧ n = 1 ∧ k = (Es 400 bs).length ∧ l = ents (Es 400 bs)) := by
  refine callF_of_body tok Try.func17 (by kernel_rfl) rfl rfl rfl ?_; conv => cbv
  refine LoopF.mk (fun k s => ∃ (i j : Int) (acc : List E3) (L : List PV), s = ⟨.p (.vsl (.sym m) true lb) :: .undef :: .undef :: .sl 0 38 3 (.lit 0) (.sym j) :: .p (.int .i64 (.sym i)) :: undefs 34, [(0, .pure true L)], 1⟩ ∧ i = 2 * j ∧ j = acc.length ∧ L = ents acc ∧ j ≤ 400 ∧ acc ++ Es (400 - acc.length) (bs.drop i.toNat) = Es 400 bs ∧ k = (400 - j).toNat) 400 _
    (Re.of [] [0] (by first | exact Nat.zero_le _ | exact Nat.le_refl _ | decide) rfl rfl (by (try (conv => cbv)); (repeat' (first | exact trivial | rfl | exact SEq.mk rfl | (exact SEq.mk (by first | assumption | (symm; assumption))) | (simp only [I.val]; done) | (simp only [I.val]; omega) | omega | assumption | (refine And.intro ?_ ?_) | exact Or.inl rfl | exact Or.inr (by assumption) | exact List.Mem.head _ | exact List.Mem.tail _ (List.Mem.head _) | exact ⟨_, rfl⟩ | exact ⟨_, rfl, Or.inl rfl⟩ | (refine ⟨_, rfl, Or.inr ?_⟩; (try (conv => cbv))) | (simp only [I.val] at *; first | omega | (subst_vars; rfl) | simp_all)))) (by (try (conv => cbv)); (repeat' (first | exact trivial | rfl | exact SEq.mk rfl | (exact SEq.mk (by first | assumption | (symm; assumption))) | (simp only [I.val]; done) | (simp only [I.val]; omega) | omega | assumption | (refine And.intro ?_ ?_) | exact Or.inl rfl | exact Or.inr (by assumption) | exact List.Mem.head _ | exact List.Mem.tail _ (List.Mem.head _) | exact ⟨_, rfl⟩ | exact ⟨_, rfl, Or.inl rfl⟩ | (refine ⟨_, rfl, Or.inr ?_⟩; (try (conv => cbv))) | (simp only [I.val] at *; first | omega | (subst_vars; rfl) | simp_all))))) ⟨0, 0, [], [], rfl, by omega, by simp, rfl, by omega, by simp, by omega⟩ ?_
  rintro k s ⟨i, j, acc, L, rfl, hi, hj, hL, hj4, hacc, hk⟩
  conv => cbv
  have fin : acc = Es 400 bs → LX.RetF 0 [.sl 0 38 3 (.lit 0) (.sym j)] [(0, .pure true L)] 1 (fun r h n => ∃ (k : Int) (l : List PV), r = .sl 0 38 3 (.lit 0) (.sym k) ∧ h = [(0, .pure true l)] ∧ n = 1 ∧ k = (Es 400 bs).length ∧ l = ents (Es 400 bs)) := by
    intro h
    refine RetF.mk [.sl 0 38 3 (.lit 0) (.sym j)] [(0, .pure true L)] 1 (Re.of [(0, 0)] [] (by first | exact Nat.zero_le _ | exact Nat.le_refl _ | decide) rfl rfl (by (try (conv => cbv)); (repeat' (first | exact trivial | rfl | exact SEq.mk rfl | (exact SEq.mk (by first | assumption | (symm; assumption))) | (simp only [I.val]; done) | (simp only [I.val]; omega) | omega | assumption | (refine And.intro ?_ ?_) | exact Or.inl rfl | exact Or.inr (by assumption) | exact List.Mem.head _ | exact List.Mem.tail _ (List.Mem.head _) | exact ⟨_, rfl⟩ | exact ⟨_, rfl, Or.inl rfl⟩ | (refine ⟨_, rfl, Or.inr ?_⟩; (try (conv => cbv))) | (simp only [I.val] at *; first | omega | (subst_vars; rfl) | simp_all)))) (by (try (conv => cbv)); (repeat' (first | exact trivial | rfl | exact SEq.mk rfl | (exact SEq.mk (by first | assumption | (symm; assumption))) | (simp only [I.val]; done) | (simp only [I.val]; omega) | omega | assumption | (refine And.intro ?_ ?_) | exact Or.inl rfl | exact Or.inr (by assumption) | exact List.Mem.head _ | exact List.Mem.tail _ (List.Mem.head _) | exact ⟨_, rfl⟩ | exact ⟨_, rfl, Or.inl rfl⟩ | (refine ⟨_, rfl, Or.inr ?_⟩; (try (conv => cbv))) | (simp only [I.val] at *; first | omega | (subst_vars; rfl) | simp_all))))) rfl ⟨j, L, rfl, rfl, rfl, by rw [← h]; exact hj, by rw [← h]; exact hL⟩
  refine Br.mk (fun e1 => ?_) (fun e1 => ?_)
  · simp only [I.val] at e1
    conv => cbv
    refine Br.mk (fun e2 => ?_) (fun e2 => ?_)
    · simp only [I.val] at e2
      obtain ⟨p, hp⟩ : ∃ e, bs[i.toNat]? = some e := ⟨_, List.getElem?_eq_getElem (by omega)⟩
      have hp8 := h8 p (List.mem_of_getElem? hp)
      have hp2 := u8s_get bs i.toNat p hp
      rw [← hb] at hp2
      conv => cbv
      refine Fit.mk (by show (-9223372036854775808 : Int) ≤ i + 1; omega) (by show i + 1 ≤ 9223372036854775807; omega) ?_
      intro i1 hi1
      have hi1 : i1 = i + 1 := hi1
      conv => cbv
      have tail : ∀ q, 0 ≤ q → q < 256 → (bs.drop i.toNat = [p] ∧ q = 0 ∨ ∃ rest, bs.drop i.toNat = p :: q :: rest) → acc ++ [ent p q] ++ Es (400 - (acc ++ [ent p q]).length) (bs.drop (i + 2).toNat) = Es 400 bs := by
        intro q hq0 hq1 hd
        have h1 : 400 - acc.length = (400 - (acc ++ [ent p q]).length) + 1 := by simp; omega
        have h2 : bs.drop (i + 2).toNat = (bs.drop i.toNat).drop 2 := by rw [List.drop_drop]; congr 1; omega
        rw [h1] at hacc
        rw [← hacc, h2]
        rcases hd with ⟨hd, h0⟩ | ⟨rest, hd⟩
        · subst h0
          rw [hd]
          have : ∀ n, Es n [] = [] := fun n => by cases n <;> rfl
          simp [Es, this]
        · rw [hd]
          simp [Es]
      have hdrop : bs.drop i.toNat = p :: bs.drop (i.toNat + 1) := by
        obtain ⟨h1, h2⟩ := List.getElem?_eq_some_iff.1 hp
        rw [List.drop_eq_getElem_cons h1, h2]
      refine Br.mk (fun e3 => ?_) (fun e3 => ?_)
      · simp only [I.val] at e3
        obtain ⟨q, hq⟩ : ∃ e, bs[i.toNat + 1]? = some e := ⟨_, List.getElem?_eq_getElem (by omega)⟩
        have hq8 := h8 q (List.mem_of_getElem? hq)
        have hq2 := u8s_get bs (i.toNat + 1) q hq
        rw [← hb] at hq2
        conv => cbv
        refine Fit.mk (by show (-9223372036854775808 : Int) ≤ i + 1; omega) (by show i + 1 ≤ 9223372036854775807; omega) ?_
        intro i2 hi2
        have hi2 : i2 = i + 1 := hi2
        conv => cbv
        refine Need.mk ⟨by simp only [I.val]; omega, by simp only [I.val]; omega⟩ ?_
        conv => cbv
        refine Cell.at (i2 + 0) _ hq2 rfl (by omega) ?_
        conv => cbv
        refine Fit.mk (by show (-9223372036854775808 : Int) ≤ q; omega) (by show q ≤ 9223372036854775807; omega) ?_
        intro q1 hq1
        have hq1 : q1 = q := hq1
        subst hq1
        conv => cbv
        refine Need.mk ⟨by simp only [I.val]; omega, by simp only [I.val]; omega⟩ ?_
        conv => cbv
        refine Cell.at (i + 0) _ hp2 rfl (by omega) ?_
        conv => cbv
        refine Fit.mk (by show (-9223372036854775808 : Int) ≤ p; omega) (by show p ≤ 9223372036854775807; omega) ?_
        intro p1 hp1
        have hp1 : p1 = p := hp1
        subst hp1
        conv => cbv
        have hent : (ent p1 q1) = (entK p1, entN p1 q1, entD p1 q1) := rfl
        refine callF_val (entry_lx p1 q1 (by omega) (by omega) (by omega) (by omega)) (by simp [ales, ale, renVs, renV, pvle, I.val]) rfl (fun r hr => by subst hr; rfl) (fun r hr => ?_)
        subst hr
        generalize entK p1 = K1 at hent ⊢
        generalize entN p1 q1 = N1 at hent ⊢
        generalize entD p1 q1 = D1 at hent ⊢
        conv => cbv
        have htl := tail q1 hq8.1 hq8.2 (.inr ⟨bs.drop (i.toNat + 2), by rw [hdrop]; obtain ⟨g1, g2⟩ := List.getElem?_eq_some_iff.1 hq; rw [List.drop_eq_getElem_cons g1, g2]⟩)
        rw [hent] at htl
        refine Need.mk rfl ?_
        conv => cbv
        refine Room.new ⟨?_, ?_, ?_⟩ ?_
        · rw [hL, ents_length]; show ((3 * acc.length : Nat) : Int) = j * 3; omega
        · show (j + 1) * 24 ≤ 140737488355328; omega
        · show j + 1 ≤ 9223372036854775807; omega
        conv => cbv
        refine Upd.mk fun L2 hL2 => ?_
        conv => cbv
        refine Sum.mk fun j2 hj2 => ?_
        have hj2 : j2 = j + 1 := hj2
        conv => cbv
        refine Fit.mk (by show (-9223372036854775808 : Int) ≤ i + 2; omega) (by show i + 2 ≤ 9223372036854775807; omega) ?_
        intro i3 hi3
        have hi3 : i3 = i + 2 := hi3
        obtain ⟨k', rfl⟩ : ∃ k', k = k' + 1 := ⟨k - 1, by omega⟩
        conv => cbv
        refine Again.mk k' _ (Nat.lt_succ_self _) (Re.of [(2, 0)] [] (by first | exact Nat.zero_le _ | exact Nat.le_refl _ | decide) rfl rfl (by (try (conv => cbv)); (repeat' (first | exact trivial | rfl | exact SEq.mk rfl | (exact SEq.mk (by first | assumption | (symm; assumption))) | (simp only [I.val]; done) | (simp only [I.val]; omega) | omega | assumption | (refine And.intro ?_ ?_) | exact Or.inl rfl | exact Or.inr (by assumption) | exact List.Mem.head _ | exact List.Mem.tail _ (List.Mem.head _) | exact ⟨_, rfl⟩ | exact ⟨_, rfl, Or.inl rfl⟩ | (refine ⟨_, rfl, Or.inr ?_⟩; (try (conv => cbv))) | (simp only [I.val] at *; first | omega | (subst_vars; rfl) | simp_all)))) (by (try (conv => cbv)); (repeat' (first | exact trivial | rfl | exact SEq.mk rfl | (exact SEq.mk (by first | assumption | (symm; assumption))) | (simp only [I.val]; done) | (simp only [I.val]; omega) | omega | assumption | (refine And.intro ?_ ?_) | exact Or.inl rfl | exact Or.inr (by assumption) | exact List.Mem.head _ | exact List.Mem.tail _ (List.Mem.head _) | exact ⟨_, rfl⟩ | exact ⟨_, rfl, Or.inl rfl⟩ | (refine ⟨_, rfl, Or.inr ?_⟩; (try (conv => cbv))) | (simp only [I.val] at *; first | omega | (subst_vars; rfl) | simp_all))))) ⟨i3, j2, acc ++ [(K1, N1, D1)], L2, rfl, by omega, by simp; omega, by rw [hL2, hL, ents_append]; rfl, by omega, by rw [hi3]; exact htl, by omega⟩
      · simp only [I.val] at e3
        conv => cbv
        refine Need.mk ⟨by simp only [I.val]; omega, by simp only [I.val]; omega⟩ ?_
        conv => cbv
        refine Cell.at (i + 0) _ hp2 rfl (by omega) ?_
        conv => cbv
        refine Fit.mk (by show (-9223372036854775808 : Int) ≤ p; omega) (by show p ≤ 9223372036854775807; omega) ?_
        intro p1 hp1
        have hp1 : p1 = p := hp1
        subst hp1
        conv => cbv
        have hent : (ent p1 0) = (entK p1, entN p1 0, entD p1 0) := rfl
        refine callF_val (entry_lx p1 0 (by omega) (by omega) (by omega) (by omega)) (by simp [ales, ale, renVs, renV, pvle, I.val]) rfl (fun r hr => by subst hr; rfl) (fun r hr => ?_)
        subst hr
        generalize entK p1 = K1 at hent ⊢
        generalize entN p1 0 = N1 at hent ⊢
        generalize entD p1 0 = D1 at hent ⊢
        conv => cbv
        have htl := tail 0 (by omega) (by omega) (.inl ⟨by rw [hdrop, List.drop_eq_nil_of_le (by omega)], rfl⟩)
        rw [hent] at htl
        refine Need.mk rfl ?_
        conv => cbv
        refine Room.new ⟨?_, ?_, ?_⟩ ?_
        · rw [hL, ents_length]; show ((3 * acc.length : Nat) : Int) = j * 3; omega
        · show (j + 1) * 24 ≤ 140737488355328; omega
        · show j + 1 ≤ 9223372036854775807; omega
        conv => cbv
        refine Upd.mk fun L2 hL2 => ?_
        conv => cbv
        refine Sum.mk fun j2 hj2 => ?_
        have hj2 : j2 = j + 1 := hj2
        conv => cbv
        refine Fit.mk (by show (-9223372036854775808 : Int) ≤ i + 2; omega) (by show i + 2 ≤ 9223372036854775807; omega) ?_
        intro i3 hi3
        have hi3 : i3 = i + 2 := hi3
        obtain ⟨k', rfl⟩ : ∃ k', k = k' + 1 := ⟨k - 1, by omega⟩
        conv => cbv
        refine Again.mk k' _ (Nat.lt_succ_self _) (Re.of [(2, 0)] [] (by first | exact Nat.zero_le _ | exact Nat.le_refl _ | decide) rfl rfl (by (try (conv => cbv)); (repeat' (first | exact trivial | rfl | exact SEq.mk rfl | (exact SEq.mk (by first | assumption | (symm; assumption))) | (simp only [I.val]; done) | (simp only [I.val]; omega) | omega | assumption | (refine And.intro ?_ ?_) | exact Or.inl rfl | exact Or.inr (by assumption) | exact List.Mem.head _ | exact List.Mem.tail _ (List.Mem.head _) | exact ⟨_, rfl⟩ | exact ⟨_, rfl, Or.inl rfl⟩ | (refine ⟨_, rfl, Or.inr ?_⟩; (try (conv => cbv))) | (simp only [I.val] at *; first | omega | (subst_vars; rfl) | simp_all)))) (by (try (conv => cbv)); (repeat' (first | exact trivial | rfl | exact SEq.mk rfl | (exact SEq.mk (by first | assumption | (symm; assumption))) | (simp only [I.val]; done) | (simp only [I.val]; omega) | omega | assumption | (refine And.intro ?_ ?_) | exact Or.inl rfl | exact Or.inr (by assumption) | exact List.Mem.head _ | exact List.Mem.tail _ (List.Mem.head _) | exact ⟨_, rfl⟩ | exact ⟨_, rfl, Or.inl rfl⟩ | (refine ⟨_, rfl, Or.inr ?_⟩; (try (conv => cbv))) | (simp only [I.val] at *; first | omega | (subst_vars; rfl) | simp_all))))) ⟨i3, j2, acc ++ [(K1, N1, D1)], L2, rfl, by omega, by simp; omega, by rw [hL2, hL, ents_append]; rfl, by omega, by rw [hi3]; exact htl, by omega⟩
    · simp only [I.val] at e2
      conv => cbv
      have h0 : 400 - acc.length = 0 := by omega
      rw [h0] at hacc
      exact fin (by simpa [Es] using hacc)
  · simp only [I.val] at e1
    conv => cbv
    have h0 : bs.drop i.toNat = [] := List.drop_eq_nil_of_le (by omega)
    rw [h0] at hacc
    refine fin ?_
    have : ∀ n, Es n [] = [] := fun n => by cases n <;> rfl
    simpa [this] using hacc
theorem entries_lx (bs : List Int) (m : Int) (lb : List PV) (hm : m = bs.length) (hb : lb = u8s bs) (h8 : ∀ x ∈ bs, 0 ≤ x ∧ x < 256) (hl : (bs.length : Int) < 1000000) :
    CallF (fun _ => Try.prog) 17 [.p (.vsl (.sym m) true lb)] [] 0 (fun r h n => (∃ (k : Int) (l : List PV), r = .p (.vsl (.sym k) true l) ∧ k = (Es 400 bs).length ∧ l = ents (Es 400 bs)) ∧ h = [] ∧ n = 0) := by
  refine (entries_own bs m lb hm hb h8 hl).ret fun r h n ⟨k, l, h1, h2, h3, hk, hL⟩ => ?_
  subst h1 h2 h3
  refine RetF.mk [.p (.vsl (.sym k) true l)] [] 0 (Re.of [] [] (by first | exact Nat.zero_le _ | exact Nat.le_refl _ | decide) rfl rfl (by (try (conv => cbv)); (repeat' (first | exact trivial | rfl | exact SEq.mk rfl | (exact SEq.mk (by first | assumption | (symm; assumption))) | (simp only [I.val]; done) | (simp only [I.val]; omega) | omega | assumption | (refine And.intro ?_ ?_) | exact Or.inl rfl | exact Or.inr (by assumption) | exact List.Mem.head _ | exact List.Mem.tail _ (List.Mem.head _) | exact ⟨_, rfl⟩ | exact ⟨_, rfl, Or.inl rfl⟩ | (refine ⟨_, rfl, Or.inr ?_⟩; (try (conv => cbv))) | (simp only [I.val] at *; first | omega | (subst_vars; rfl) | simp_all)))) (by (try (conv => cbv)); (repeat' (first | exact trivial | rfl | exact SEq.mk rfl | (exact SEq.mk (by first | assumption | (symm; assumption))) | (simp only [I.val]; done) | (simp only [I.val]; omega) | omega | assumption | (refine And.intro ?_ ?_) | exact Or.inl rfl | exact Or.inr (by assumption) | exact List.Mem.head _ | exact List.Mem.tail _ (List.Mem.head _) | exact ⟨_, rfl⟩ | exact ⟨_, rfl, Or.inl rfl⟩ | (refine ⟨_, rfl, Or.inr ?_⟩; (try (conv => cbv))) | (simp only [I.val] at *; first | omega | (subst_vars; rfl) | simp_all))))) rfl ⟨⟨k, l, rfl, hk, hL⟩, rfl, rfl⟩
end Go.Proofs.Ytongaoioaafjnaa
