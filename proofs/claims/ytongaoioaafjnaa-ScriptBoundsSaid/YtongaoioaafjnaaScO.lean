/-
  Own and Kept of bytes.
-/
import Derived.Test.YtongaoioaafjnaaScY
namespace Go.Proofs.Ytongaoioaafjnaa
open Go Go.LX
set_option maxRecDepth 100000
set_option linter.unusedVariables false

set_option maxHeartbeats 2000000 in
theorem own8_lx (bs : List Int) (m f : Int) (la : List PV) (hm : m = bs.length) (hla : la = u8s bs) (hl : (bs.length : Int) < 1000000) :
    CallF (fun _ => Try.prog) 13 [.p (.vsl (.sym m) true la), .p (.int .u8 (.sym f))] [] 0 (fun r h n => ∃ (k : Int) (l : List PV), r = .sl 0 5 1 (.lit 0) (.sym k) ∧ h = [(0, .pure true l)] ∧ n = 1 ∧ k = m ∧ l = u8s (bs ++ [f, f, f])) := by
  refine callF_of_body tok Try.func13 (by kernel_rfl) rfl rfl rfl ?_; conv => cbv
  refine Fit.mk (by show (-9223372036854775808 : Int) ≤ m + 3; omega) (by show m + 3 ≤ 9223372036854775807; omega) ?_
  intro m3 hm3
  have hm3 : m3 = m + 3 := hm3
  conv => cbv
  refine Need.mk ⟨by simp only [I.val]; omega, by simp only [I.val]; omega, by show m3 * 1 ≤ 140737488355328; omega, by simp only [I.val]; omega⟩ ?_
  conv => cbv
  refine Upd.mk fun L0 hL0 => ?_
  have hL0n : L0.length = m3.toNat := by rw [hL0, repsP_length]; show m3.toNat * 1 = _; omega
  clear hL0
  conv => cbv
  refine Need.mk (by show (la.length : Int) = m * 1; rw [hla, u8s_length]; omega) ?_
  conv => cbv
  refine Room.within (by show (0 + m) * 1 ≤ (L0.length : Int); omega) ?_
  conv => cbv
  refine Upd.mk fun L1 hL1 => ?_
  have hL1n : L1.length = m3.toNat := by rw [hL1, updL_length, hL0n]
  have hL1g : ∀ j : Nat, j < bs.length → L1[j]? = la[j]? := by
    intro j hj
    rw [hL1, show (I.lit 0).val.toNat * 1 = 0 from rfl, updL_get _ _ _ (by rw [hla, u8s_length]; omega), if_neg (by omega), if_pos (by rw [hla, u8s_length]; omega), Nat.sub_zero]
  clear hL1
  conv => cbv
  refine Fit.mk (by show (-9223372036854775808 : Int) ≤ m + 3; omega) (by show m + 3 ≤ 9223372036854775807; omega) ?_
  intro m4 hm4
  have hm4 : m4 = m + 3 := hm4
  conv => cbv
  refine Need.mk ⟨by simp only [I.val]; omega, .inr ⟨Nat.le_refl _, by show (0 : Int) + m4 * 1 ≤ (L1.length : Int); omega⟩⟩ ?_
  conv => cbv
  refine LoopF.mk (fun k s => ∃ (i : Int) (L : List PV), s = ⟨.p (.vsl (.sym m) true la) :: .p (.int .u8 (.sym f)) :: .undef :: .undef :: .p .nils :: .sl 0 5 1 (.lit 0) (.sym m) :: .sl 0 5 1 (.lit 0) (.sym m4) :: .p (.int .i64 (.sym i)) :: undefs 25, [(0, .pure true L)], 1⟩ ∧ m ≤ i ∧ i ≤ m4 ∧ L.length = m3.toNat ∧ (∀ j : Nat, (j : Int) < i → L[j]? = (u8s (bs ++ [f, f, f]))[j]?) ∧ k = (m4 - i).toNat) 3 _
    (Re.of [(0, 0)] [] (by first | exact Nat.zero_le _ | exact Nat.le_refl _ | decide) rfl rfl (by (try (conv => cbv)); (repeat' (first | exact trivial | rfl | exact SEq.mk rfl | (exact SEq.mk (by first | assumption | (symm; assumption))) | (simp only [I.val]; done) | (simp only [I.val]; omega) | omega | assumption | (refine And.intro ?_ ?_) | exact Or.inl rfl | exact Or.inr (by assumption) | exact List.Mem.head _ | exact List.Mem.tail _ (List.Mem.head _) | exact ⟨_, rfl⟩ | exact ⟨_, rfl, Or.inl rfl⟩ | (refine ⟨_, rfl, Or.inr ?_⟩; (try (conv => cbv))) | (simp only [I.val] at *; first | omega | (subst_vars; rfl) | simp_all)))) (by (try (conv => cbv)); (repeat' (first | exact trivial | rfl | exact SEq.mk rfl | (exact SEq.mk (by first | assumption | (symm; assumption))) | (simp only [I.val]; done) | (simp only [I.val]; omega) | omega | assumption | (refine And.intro ?_ ?_) | exact Or.inl rfl | exact Or.inr (by assumption) | exact List.Mem.head _ | exact List.Mem.tail _ (List.Mem.head _) | exact ⟨_, rfl⟩ | exact ⟨_, rfl, Or.inl rfl⟩ | (refine ⟨_, rfl, Or.inr ?_⟩; (try (conv => cbv))) | (simp only [I.val] at *; first | omega | (subst_vars; rfl) | simp_all))))) ⟨m, L1, rfl, by omega, by omega, hL1n, fun j hj => ?_, by omega⟩ ?_
  · rw [hL1g j (by omega), hla, u8s_app, List.getElem?_append_left (by rw [u8s_length]; omega)]
  clear hL1n hL1g
  clear L1 L0 hL0n
  rintro k s ⟨i, L, rfl, hi0, hi4, hLn, hLg, hk⟩
  conv => cbv
  refine Br.mk (fun e2 => ?_) (fun e2 => ?_)
  · simp only [I.val] at e2
    conv => cbv
    refine Need.mk ⟨by simp only [I.val]; omega, by simp only [I.val]; omega⟩ ?_
    conv => cbv
    refine Need.mk (by show i + 1 ≤ (L.length : Int); omega) ?_
    conv => cbv
    refine Upd.mk fun L2 hL2 => ?_
    have hL2 : L2 = L.set i.toNat (.int .u8 (.sym f)) := hL2
    obtain ⟨k', rfl⟩ : ∃ k', k = k' + 1 := ⟨k - 1, by omega⟩
    conv => cbv
    refine Fit.mk (by show (-9223372036854775808 : Int) ≤ i + 1; omega) (by show i + 1 ≤ 9223372036854775807; omega) ?_
    intro i2 hi2
    have hi2 : i2 = i + 1 := hi2
    conv => cbv
    refine Again.mk k' _ (Nat.lt_succ_self _) (Re.of [(0, 0)] [] (by first | exact Nat.zero_le _ | exact Nat.le_refl _ | decide) rfl rfl (by (try (conv => cbv)); (repeat' (first | exact trivial | rfl | exact SEq.mk rfl | (exact SEq.mk (by first | assumption | (symm; assumption))) | (simp only [I.val]; done) | (simp only [I.val]; omega) | omega | assumption | (refine And.intro ?_ ?_) | exact Or.inl rfl | exact Or.inr (by assumption) | exact List.Mem.head _ | exact List.Mem.tail _ (List.Mem.head _) | exact ⟨_, rfl⟩ | exact ⟨_, rfl, Or.inl rfl⟩ | (refine ⟨_, rfl, Or.inr ?_⟩; (try (conv => cbv))) | (simp only [I.val] at *; first | omega | (subst_vars; rfl) | simp_all)))) (by (try (conv => cbv)); (repeat' (first | exact trivial | rfl | exact SEq.mk rfl | (exact SEq.mk (by first | assumption | (symm; assumption))) | (simp only [I.val]; done) | (simp only [I.val]; omega) | omega | assumption | (refine And.intro ?_ ?_) | exact Or.inl rfl | exact Or.inr (by assumption) | exact List.Mem.head _ | exact List.Mem.tail _ (List.Mem.head _) | exact ⟨_, rfl⟩ | exact ⟨_, rfl, Or.inl rfl⟩ | (refine ⟨_, rfl, Or.inr ?_⟩; (try (conv => cbv))) | (simp only [I.val] at *; first | omega | (subst_vars; rfl) | simp_all))))) ⟨i2, L2, rfl, by omega, by omega, by rw [hL2, List.length_set]; exact hLn, fun j hj => ?_, by omega⟩
    rw [hL2]
    by_cases h : j = i.toNat
    · subst h
      rw [List.getElem?_set_self (by omega), u8s_app, List.getElem?_append_right (by rw [u8s_length]; omega), u8s_length]
      obtain ⟨d, hd, hd3⟩ : ∃ d, i.toNat - bs.length = d ∧ d < 3 := ⟨_, rfl, by omega⟩
      rw [hd]
      rcases d with _ | _ | _ | d
      · rfl
      · rfl
      · rfl
      · omega
    · rw [List.getElem?_set_ne (by omega)]
      have hj : (j : Int) < i2 := hj
      exact hLg j (by omega)
  · simp only [I.val] at e2
    conv => cbv
    refine RetF.mk [.sl 0 5 1 (.lit 0) (.sym m)] [(0, .pure true L)] 1 (Re.of [(0, 0)] [] (by first | exact Nat.zero_le _ | exact Nat.le_refl _ | decide) rfl rfl (by (try (conv => cbv)); (repeat' (first | exact trivial | rfl | exact SEq.mk rfl | (exact SEq.mk (by first | assumption | (symm; assumption))) | (simp only [I.val]; done) | (simp only [I.val]; omega) | omega | assumption | (refine And.intro ?_ ?_) | exact Or.inl rfl | exact Or.inr (by assumption) | exact List.Mem.head _ | exact List.Mem.tail _ (List.Mem.head _) | exact ⟨_, rfl⟩ | exact ⟨_, rfl, Or.inl rfl⟩ | (refine ⟨_, rfl, Or.inr ?_⟩; (try (conv => cbv))) | (simp only [I.val] at *; first | omega | (subst_vars; rfl) | simp_all)))) (by (try (conv => cbv)); (repeat' (first | exact trivial | rfl | exact SEq.mk rfl | (exact SEq.mk (by first | assumption | (symm; assumption))) | (simp only [I.val]; done) | (simp only [I.val]; omega) | omega | assumption | (refine And.intro ?_ ?_) | exact Or.inl rfl | exact Or.inr (by assumption) | exact List.Mem.head _ | exact List.Mem.tail _ (List.Mem.head _) | exact ⟨_, rfl⟩ | exact ⟨_, rfl, Or.inl rfl⟩ | (refine ⟨_, rfl, Or.inr ?_⟩; (try (conv => cbv))) | (simp only [I.val] at *; first | omega | (subst_vars; rfl) | simp_all))))) rfl ⟨m, L, rfl, rfl, rfl, rfl, ?_⟩
    refine List.ext_getElem? fun j => ?_
    by_cases h : (j : Int) < i
    · exact hLg j h
    · rw [List.getElem?_eq_none (by omega), List.getElem?_eq_none (by rw [u8s_length, List.length_append]; simp; omega)]

/-- A list of numbers of a kind, as cells; or the beginning of one. -/
def PreI (k : IntKind) (l : List PV) (A : List Int) : Prop := ∀ (i : Nat) (x : Int), A[i]? = some x → l[i]? = some (.int k (.sym x))
theorem preI_u8s (A : List Int) : PreI .u8 (u8s A) A := fun i x h => u8s_get A i x h
set_option maxHeartbeats 2000000 in
theorem equ8_lx (x y : Int) :
    CallF (fun _ => Try.prog) 33 [.p (.int .u8 (.sym x)), .p (.int .u8 (.sym y))] [] 0 (fun r h n => (∃ b : Bool, r = .p (.bool b) ∧ (b = true ↔ x = y)) ∧ h = [] ∧ n = 0) := by
  refine callF_of_body tok Try.func33 (by kernel_rfl) rfl rfl rfl ?_; conv => cbv
  refine Br.mk (fun e => ?_) (fun e => ?_)
  · have e : x = y := e
    conv => cbv
    refine RetF.mk [.p (.bool true)] [] 0 (Re.of [] [] (by first | exact Nat.zero_le _ | exact Nat.le_refl _ | decide) rfl rfl (by (try (conv => cbv)); (repeat' (first | exact trivial | rfl | exact SEq.mk rfl | (exact SEq.mk (by first | assumption | (symm; assumption))) | (simp only [I.val]; done) | (simp only [I.val]; omega) | omega | assumption | (refine And.intro ?_ ?_) | exact Or.inl rfl | exact Or.inr (by assumption) | exact List.Mem.head _ | exact List.Mem.tail _ (List.Mem.head _) | exact ⟨_, rfl⟩ | exact ⟨_, rfl, Or.inl rfl⟩ | (refine ⟨_, rfl, Or.inr ?_⟩; (try (conv => cbv))) | (simp only [I.val] at *; first | omega | (subst_vars; rfl) | simp_all)))) (by (try (conv => cbv)); (repeat' (first | exact trivial | rfl | exact SEq.mk rfl | (exact SEq.mk (by first | assumption | (symm; assumption))) | (simp only [I.val]; done) | (simp only [I.val]; omega) | omega | assumption | (refine And.intro ?_ ?_) | exact Or.inl rfl | exact Or.inr (by assumption) | exact List.Mem.head _ | exact List.Mem.tail _ (List.Mem.head _) | exact ⟨_, rfl⟩ | exact ⟨_, rfl, Or.inl rfl⟩ | (refine ⟨_, rfl, Or.inr ?_⟩; (try (conv => cbv))) | (simp only [I.val] at *; first | omega | (subst_vars; rfl) | simp_all))))) rfl ⟨⟨true, rfl, by simp [e]⟩, rfl, rfl⟩
  · have e : ¬ x = y := e
    conv => cbv
    refine RetF.mk [.p (.bool false)] [] 0 (Re.of [] [] (by first | exact Nat.zero_le _ | exact Nat.le_refl _ | decide) rfl rfl (by (try (conv => cbv)); (repeat' (first | exact trivial | rfl | exact SEq.mk rfl | (exact SEq.mk (by first | assumption | (symm; assumption))) | (simp only [I.val]; done) | (simp only [I.val]; omega) | omega | assumption | (refine And.intro ?_ ?_) | exact Or.inl rfl | exact Or.inr (by assumption) | exact List.Mem.head _ | exact List.Mem.tail _ (List.Mem.head _) | exact ⟨_, rfl⟩ | exact ⟨_, rfl, Or.inl rfl⟩ | (refine ⟨_, rfl, Or.inr ?_⟩; (try (conv => cbv))) | (simp only [I.val] at *; first | omega | (subst_vars; rfl) | simp_all)))) (by (try (conv => cbv)); (repeat' (first | exact trivial | rfl | exact SEq.mk rfl | (exact SEq.mk (by first | assumption | (symm; assumption))) | (simp only [I.val]; done) | (simp only [I.val]; omega) | omega | assumption | (refine And.intro ?_ ?_) | exact Or.inl rfl | exact Or.inr (by assumption) | exact List.Mem.head _ | exact List.Mem.tail _ (List.Mem.head _) | exact ⟨_, rfl⟩ | exact ⟨_, rfl, Or.inl rfl⟩ | (refine ⟨_, rfl, Or.inr ?_⟩; (try (conv => cbv))) | (simp only [I.val] at *; first | omega | (subst_vars; rfl) | simp_all))))) rfl ⟨⟨false, rfl, by simp [e]⟩, rfl, rfl⟩
set_option maxHeartbeats 2000000 in
theorem sameu8_lx (A B : List Int) (m n : Int) (la lb : List PV) (hm : m = A.length) (hn : n = B.length) (ha : PreI .u8 la A) (hb : PreI .u8 lb B) (hA : (A.length : Int) < 1000000) :
    CallF (fun _ => Try.prog) 32 [.p (.vsl (.sym m) true la), .p (.vsl (.sym n) true lb), .p (.fn 33)] [] 0 (fun r h n => (∃ b : Bool, r = .p (.bool b) ∧ (b = true ↔ A = B)) ∧ h = [] ∧ n = 0) := by
  refine callF_of_body tok Try.func32 (by kernel_rfl) rfl rfl rfl ?_; conv => cbv
  refine Br.mk (fun e1 => ?_) (fun e1 => ?_)
  · simp only [I.val] at e1
    conv => cbv
    refine RetF.mk [.p (.bool false)] [] 0 (Re.of [] [] (by first | exact Nat.zero_le _ | exact Nat.le_refl _ | decide) rfl rfl (by (try (conv => cbv)); (repeat' (first | exact trivial | rfl | exact SEq.mk rfl | (exact SEq.mk (by first | assumption | (symm; assumption))) | (simp only [I.val]; done) | (simp only [I.val]; omega) | omega | assumption | (refine And.intro ?_ ?_) | exact Or.inl rfl | exact Or.inr (by assumption) | exact List.Mem.head _ | exact List.Mem.tail _ (List.Mem.head _) | exact ⟨_, rfl⟩ | exact ⟨_, rfl, Or.inl rfl⟩ | (refine ⟨_, rfl, Or.inr ?_⟩; (try (conv => cbv))) | (simp only [I.val] at *; first | omega | (subst_vars; rfl) | simp_all)))) (by (try (conv => cbv)); (repeat' (first | exact trivial | rfl | exact SEq.mk rfl | (exact SEq.mk (by first | assumption | (symm; assumption))) | (simp only [I.val]; done) | (simp only [I.val]; omega) | omega | assumption | (refine And.intro ?_ ?_) | exact Or.inl rfl | exact Or.inr (by assumption) | exact List.Mem.head _ | exact List.Mem.tail _ (List.Mem.head _) | exact ⟨_, rfl⟩ | exact ⟨_, rfl, Or.inl rfl⟩ | (refine ⟨_, rfl, Or.inr ?_⟩; (try (conv => cbv))) | (simp only [I.val] at *; first | omega | (subst_vars; rfl) | simp_all))))) rfl ⟨⟨false, rfl, by simp; intro h; subst h; omega⟩, rfl, rfl⟩
  · simp only [I.val] at e1
    conv => cbv
    have hmn : m = n := by omega
    refine LoopF.mk (fun k s => ∃ i : Int, s = ⟨.p (.vsl (.sym m) true la) :: .p (.vsl (.sym n) true lb) :: .p (.fn 33) :: .undef :: .undef :: .undef :: .undef :: .p (.int .i64 (.sym i)) :: undefs 22, [], 0⟩ ∧ 0 ≤ i ∧ i ≤ m ∧ A.take i.toNat = B.take i.toNat ∧ k = (m - i).toNat) m.toNat _
      (Re.of [] [] (by first | exact Nat.zero_le _ | exact Nat.le_refl _ | decide) rfl rfl (by (try (conv => cbv)); (repeat' (first | exact trivial | rfl | exact SEq.mk rfl | (exact SEq.mk (by first | assumption | (symm; assumption))) | (simp only [I.val]; done) | (simp only [I.val]; omega) | omega | assumption | (refine And.intro ?_ ?_) | exact Or.inl rfl | exact Or.inr (by assumption) | exact List.Mem.head _ | exact List.Mem.tail _ (List.Mem.head _) | exact ⟨_, rfl⟩ | exact ⟨_, rfl, Or.inl rfl⟩ | (refine ⟨_, rfl, Or.inr ?_⟩; (try (conv => cbv))) | (simp only [I.val] at *; first | omega | (subst_vars; rfl) | simp_all)))) (by (try (conv => cbv)); (repeat' (first | exact trivial | rfl | exact SEq.mk rfl | (exact SEq.mk (by first | assumption | (symm; assumption))) | (simp only [I.val]; done) | (simp only [I.val]; omega) | omega | assumption | (refine And.intro ?_ ?_) | exact Or.inl rfl | exact Or.inr (by assumption) | exact List.Mem.head _ | exact List.Mem.tail _ (List.Mem.head _) | exact ⟨_, rfl⟩ | exact ⟨_, rfl, Or.inl rfl⟩ | (refine ⟨_, rfl, Or.inr ?_⟩; (try (conv => cbv))) | (simp only [I.val] at *; first | omega | (subst_vars; rfl) | simp_all))))) ⟨0, rfl, by omega, by omega, rfl, by omega⟩ ?_
    rintro k s ⟨i, rfl, hi0, him, ht, hk⟩
    conv => cbv
    refine Br.mk (fun e2 => ?_) (fun e2 => ?_)
    · simp only [I.val] at e2
      conv => cbv
      refine draw_sound tok (by kernel_rfl) rfl (by kernel_rfl) ?_
      conv => cbv
      obtain ⟨x1, hea⟩ : ∃ e, A[i.toNat]? = some e := ⟨_, List.getElem?_eq_getElem (by omega)⟩
      obtain ⟨x2, heb⟩ : ∃ e, B[i.toNat]? = some e := ⟨_, List.getElem?_eq_getElem (by omega)⟩
      have a1 := ha _ _ hea
      have b1 := hb _ _ heb
      refine Need.mk ⟨hi0, by simpa [I.val] using e2⟩ ?_
      conv => cbv
      refine Cell.at i _ a1 (by simp [I.val]) (by omega) ?_
      conv => cbv
      refine Need.mk ⟨hi0, by simp only [I.val]; omega⟩ ?_
      conv => cbv
      refine Cell.at i _ b1 (by simp [I.val]) (by omega) ?_
      conv => cbv
      refine callF_val (equ8_lx x1 x2) (by simp [ales, ale, renVs, renV, pvle]) rfl (fun r ⟨b, hr, _⟩ => by subst hr; rfl) (fun r ⟨b, hr, he⟩ => ?_)
      subst hr
      have iff1 : b = true ↔ A[i.toNat]? = B[i.toNat]? := by rw [he, hea, heb]; simp
      cases b with
      | false =>
        conv => cbv
        refine RetF.mk [.p (.bool false)] [] 0 (Re.of [] [] (by first | exact Nat.zero_le _ | exact Nat.le_refl _ | decide) rfl rfl (by (try (conv => cbv)); (repeat' (first | exact trivial | rfl | exact SEq.mk rfl | (exact SEq.mk (by first | assumption | (symm; assumption))) | (simp only [I.val]; done) | (simp only [I.val]; omega) | omega | assumption | (refine And.intro ?_ ?_) | exact Or.inl rfl | exact Or.inr (by assumption) | exact List.Mem.head _ | exact List.Mem.tail _ (List.Mem.head _) | exact ⟨_, rfl⟩ | exact ⟨_, rfl, Or.inl rfl⟩ | (refine ⟨_, rfl, Or.inr ?_⟩; (try (conv => cbv))) | (simp only [I.val] at *; first | omega | (subst_vars; rfl) | simp_all)))) (by (try (conv => cbv)); (repeat' (first | exact trivial | rfl | exact SEq.mk rfl | (exact SEq.mk (by first | assumption | (symm; assumption))) | (simp only [I.val]; done) | (simp only [I.val]; omega) | omega | assumption | (refine And.intro ?_ ?_) | exact Or.inl rfl | exact Or.inr (by assumption) | exact List.Mem.head _ | exact List.Mem.tail _ (List.Mem.head _) | exact ⟨_, rfl⟩ | exact ⟨_, rfl, Or.inl rfl⟩ | (refine ⟨_, rfl, Or.inr ?_⟩; (try (conv => cbv))) | (simp only [I.val] at *; first | omega | (subst_vars; rfl) | simp_all))))) rfl ⟨⟨false, rfl, by simp only [Bool.false_eq_true, false_iff]; intro h; subst h; simp at iff1⟩, rfl, rfl⟩
      | true =>
        obtain ⟨k', rfl⟩ : ∃ k', k = k' + 1 := ⟨k - 1, by omega⟩
        conv => cbv
        refine Fit.mk (by show (-9223372036854775808 : Int) ≤ i + 1; omega) (by show i + 1 ≤ 9223372036854775807; omega) ?_
        intro i2 hi2
        have hi3 : i2 = i + 1 := hi2
        clear hi2
        conv => cbv
        refine Again.mk k' _ (Nat.lt_succ_self _) (Re.of [] [] (by first | exact Nat.zero_le _ | exact Nat.le_refl _ | decide) rfl rfl (by (try (conv => cbv)); (repeat' (first | exact trivial | rfl | exact SEq.mk rfl | (exact SEq.mk (by first | assumption | (symm; assumption))) | (simp only [I.val]; done) | (simp only [I.val]; omega) | omega | assumption | (refine And.intro ?_ ?_) | exact Or.inl rfl | exact Or.inr (by assumption) | exact List.Mem.head _ | exact List.Mem.tail _ (List.Mem.head _) | exact ⟨_, rfl⟩ | exact ⟨_, rfl, Or.inl rfl⟩ | (refine ⟨_, rfl, Or.inr ?_⟩; (try (conv => cbv))) | (simp only [I.val] at *; first | omega | (subst_vars; rfl) | simp_all)))) (by (try (conv => cbv)); (repeat' (first | exact trivial | rfl | exact SEq.mk rfl | (exact SEq.mk (by first | assumption | (symm; assumption))) | (simp only [I.val]; done) | (simp only [I.val]; omega) | omega | assumption | (refine And.intro ?_ ?_) | exact Or.inl rfl | exact Or.inr (by assumption) | exact List.Mem.head _ | exact List.Mem.tail _ (List.Mem.head _) | exact ⟨_, rfl⟩ | exact ⟨_, rfl, Or.inl rfl⟩ | (refine ⟨_, rfl, Or.inr ?_⟩; (try (conv => cbv))) | (simp only [I.val] at *; first | omega | (subst_vars; rfl) | simp_all))))) ⟨i2, rfl, by omega, by omega, ?_, by omega⟩
        rw [show i2.toNat = i.toNat + 1 by omega, List.take_add_one, List.take_add_one, ht, iff1.1 rfl]
    · simp only [I.val] at e2
      conv => cbv
      refine RetF.mk [.p (.bool true)] [] 0 (Re.of [] [] (by first | exact Nat.zero_le _ | exact Nat.le_refl _ | decide) rfl rfl (by (try (conv => cbv)); (repeat' (first | exact trivial | rfl | exact SEq.mk rfl | (exact SEq.mk (by first | assumption | (symm; assumption))) | (simp only [I.val]; done) | (simp only [I.val]; omega) | omega | assumption | (refine And.intro ?_ ?_) | exact Or.inl rfl | exact Or.inr (by assumption) | exact List.Mem.head _ | exact List.Mem.tail _ (List.Mem.head _) | exact ⟨_, rfl⟩ | exact ⟨_, rfl, Or.inl rfl⟩ | (refine ⟨_, rfl, Or.inr ?_⟩; (try (conv => cbv))) | (simp only [I.val] at *; first | omega | (subst_vars; rfl) | simp_all)))) (by (try (conv => cbv)); (repeat' (first | exact trivial | rfl | exact SEq.mk rfl | (exact SEq.mk (by first | assumption | (symm; assumption))) | (simp only [I.val]; done) | (simp only [I.val]; omega) | omega | assumption | (refine And.intro ?_ ?_) | exact Or.inl rfl | exact Or.inr (by assumption) | exact List.Mem.head _ | exact List.Mem.tail _ (List.Mem.head _) | exact ⟨_, rfl⟩ | exact ⟨_, rfl, Or.inl rfl⟩ | (refine ⟨_, rfl, Or.inr ?_⟩; (try (conv => cbv))) | (simp only [I.val] at *; first | omega | (subst_vars; rfl) | simp_all))))) rfl ⟨⟨true, rfl, ?_⟩, rfl, rfl⟩
      have : i.toNat = A.length := by omega
      rw [this, List.take_length] at ht
      rw [List.take_of_length_le (by omega)] at ht
      simp [ht]
set_option maxHeartbeats 2000000 in
theorem plainu8_lx (A B : List Int) (m n : Int) (la lb : List PV) (hm : m = A.length) (hn : n = B.length) (ha : PreI .u8 la A) (hb : PreI .u8 lb B) (hA : (A.length : Int) < 1000000) :
    CallF (fun _ => Try.prog) 19 [.p (.vsl (.sym m) true la), .p (.vsl (.sym n) true lb)] [] 0 (fun r h n => (∃ b : Bool, r = .p (.bool b) ∧ (b = true ↔ A = B)) ∧ h = [] ∧ n = 0) := by
  refine callF_of_body tok Try.func19 (by kernel_rfl) rfl rfl rfl ?_; conv => cbv
  refine callF_val (sameu8_lx A B m n la lb hm hn ha hb hA) (by simp [ales, ale, renVs, renV, pvle, I.val]) rfl (fun r ⟨b, hr, _⟩ => by subst hr; rfl) (fun r ⟨b, hr, hb⟩ => ?_)
  subst hr
  conv => cbv
  refine RetF.mk [.p (.bool b)] [] 0 (Re.of [] [] (by first | exact Nat.zero_le _ | exact Nat.le_refl _ | decide) rfl rfl (by (try (conv => cbv)); (repeat' (first | exact trivial | rfl | exact SEq.mk rfl | (exact SEq.mk (by first | assumption | (symm; assumption))) | (simp only [I.val]; done) | (simp only [I.val]; omega) | omega | assumption | (refine And.intro ?_ ?_) | exact Or.inl rfl | exact Or.inr (by assumption) | exact List.Mem.head _ | exact List.Mem.tail _ (List.Mem.head _) | exact ⟨_, rfl⟩ | exact ⟨_, rfl, Or.inl rfl⟩ | (refine ⟨_, rfl, Or.inr ?_⟩; (try (conv => cbv))) | (simp only [I.val] at *; first | omega | (subst_vars; rfl) | simp_all)))) (by (try (conv => cbv)); (repeat' (first | exact trivial | rfl | exact SEq.mk rfl | (exact SEq.mk (by first | assumption | (symm; assumption))) | (simp only [I.val]; done) | (simp only [I.val]; omega) | omega | assumption | (refine And.intro ?_ ?_) | exact Or.inl rfl | exact Or.inr (by assumption) | exact List.Mem.head _ | exact List.Mem.tail _ (List.Mem.head _) | exact ⟨_, rfl⟩ | exact ⟨_, rfl, Or.inl rfl⟩ | (refine ⟨_, rfl, Or.inr ?_⟩; (try (conv => cbv))) | (simp only [I.val] at *; first | omega | (subst_vars; rfl) | simp_all))))) rfl ⟨⟨b, rfl, hb⟩, rfl, rfl⟩
set_option maxHeartbeats 2000000 in
theorem kept8_lx (bs : List Int) (m m2 f : Int) (L la : List PV) (hm : m = bs.length) (hm2 : m2 = m) (hla : la = u8s bs) (hL : L = u8s (bs ++ [f, f, f])) (hl : (bs.length : Int) < 1000000) :
    CallF (fun _ => Try.prog) 20 [.sl 0 5 1 (.lit 0) (.sym m2), .p (.vsl (.sym m) true la), .p (.int .u8 (.sym f))] [(0, .pure true L)] 1 (fun r h n => r = .p (.bool true) ∧ h = [] ∧ n = 1) := by
  refine callF_of_body tok Try.func20 (by kernel_rfl) rfl rfl rfl ?_; conv => cbv
  have hLp : PreI .u8 L bs := fun i x h => by
    have := (List.getElem?_eq_some_iff.1 h).1
    rw [hL, u8s_app, List.getElem?_append_left (by rw [u8s_length]; omega)]; exact u8s_get bs i x h
  have hLn : (L.length : Int) = m + 3 := by rw [hL, u8s_length, List.length_append]; simp; omega
  refine callF_lend (plainu8_lx bs bs m2 m L la (by omega) hm hLp (by rw [hla]; exact preI_u8s bs) hl) (by simp [lends, lendV, hget, I.val, pvle]) (fun r h' n' ⟨⟨b, e1, _⟩, e2, e3⟩ => by subst e1 e2; exact ⟨trivial, trivial⟩) (fun r h' n' ⟨⟨b, e1, hb⟩, e2, e3⟩ => ?_)
  subst e1 e2 e3
  have hb := hb.2 rfl
  subst hb
  conv => cbv
  refine Cap.mk fun cp hc1 hc2 => ?_
  have hc1 : (L.length : Int) ≤ cp * 1 := hc1
  conv => cbv
  refine Fit.mk (by show (-9223372036854775808 : Int) ≤ m + 3; omega) (by show m + 3 ≤ 9223372036854775807; omega) ?_
  intro m3 hm3
  have hm3 : m3 = m + 3 := hm3
  conv => cbv
  refine Br.mk (fun e1 => ?_) (fun e1 => ?_)
  · simp only [I.val] at e1
    omega
  simp only [I.val] at e1
  conv => cbv
  refine Fit.mk (by show (-9223372036854775808 : Int) ≤ m + 3; omega) (by show m + 3 ≤ 9223372036854775807; omega) ?_
  intro m4 hm4
  have hm4 : m4 = m + 3 := hm4
  conv => cbv
  refine Need.mk ⟨by simp only [I.val]; omega, .inr ⟨Nat.le_refl _, by show (0 : Int) + m4 * 1 ≤ (L.length : Int); omega⟩⟩ ?_
  conv => cbv
  refine LoopF.mk (fun k s => ∃ (i : Int), s = ⟨.sl 0 5 1 (.lit 0) (.sym m2) :: .p (.vsl (.sym m) true la) :: .p (.int .u8 (.sym f)) :: .undef :: .undef :: .undef :: .undef :: .sl 0 5 1 (.lit 0) (.sym m4) :: .p (.int .i64 (.sym i)) :: undefs 31, [(0, .pure true L)], 1⟩ ∧ m ≤ i ∧ i ≤ m4 ∧ k = (m4 - i).toNat) 3 _
    (Re.of [(0, 0)] [] (by first | exact Nat.zero_le _ | exact Nat.le_refl _ | decide) rfl rfl (by (try (conv => cbv)); (repeat' (first | exact trivial | rfl | exact SEq.mk rfl | (exact SEq.mk (by first | assumption | (symm; assumption))) | (simp only [I.val]; done) | (simp only [I.val]; omega) | omega | assumption | (refine And.intro ?_ ?_) | exact Or.inl rfl | exact Or.inr (by assumption) | exact List.Mem.head _ | exact List.Mem.tail _ (List.Mem.head _) | exact ⟨_, rfl⟩ | exact ⟨_, rfl, Or.inl rfl⟩ | (refine ⟨_, rfl, Or.inr ?_⟩; (try (conv => cbv))) | (simp only [I.val] at *; first | omega | (subst_vars; rfl) | simp_all)))) (by (try (conv => cbv)); (repeat' (first | exact trivial | rfl | exact SEq.mk rfl | (exact SEq.mk (by first | assumption | (symm; assumption))) | (simp only [I.val]; done) | (simp only [I.val]; omega) | omega | assumption | (refine And.intro ?_ ?_) | exact Or.inl rfl | exact Or.inr (by assumption) | exact List.Mem.head _ | exact List.Mem.tail _ (List.Mem.head _) | exact ⟨_, rfl⟩ | exact ⟨_, rfl, Or.inl rfl⟩ | (refine ⟨_, rfl, Or.inr ?_⟩; (try (conv => cbv))) | (simp only [I.val] at *; first | omega | (subst_vars; rfl) | simp_all))))) ⟨m, rfl, by omega, by omega, by omega⟩ ?_
  rintro k s ⟨i, rfl, hi0, hi4, hk⟩
  conv => cbv
  refine Br.mk (fun e2 => ?_) (fun e2 => ?_)
  · simp only [I.val] at e2
    have hc : L[i.toNat]? = some (.int .u8 (.sym f)) := by
      rw [hL, u8s_app, List.getElem?_append_right (by rw [u8s_length]; omega), u8s_length]
      obtain ⟨d, hd, hd3⟩ : ∃ d, i.toNat - bs.length = d ∧ d < 3 := ⟨_, rfl, by omega⟩
      rw [hd]
      rcases d with _ | _ | _ | d
      · rfl
      · rfl
      · rfl
      · omega
    obtain ⟨k', rfl⟩ : ∃ k', k = k' + 1 := ⟨k - 1, by omega⟩
    conv => cbv
    refine Need.mk ⟨by simp only [I.val]; omega, by simp only [I.val]; omega⟩ ?_
    conv => cbv
    refine Cell.at i _ hc (by simp [I.val]) rfl ?_
    conv => cbv
    refine Br.mk (fun e3 => ?_) (fun e3 => ?_)
    · exact absurd rfl e3
    conv => cbv
    refine Fit.mk (by show (-9223372036854775808 : Int) ≤ i + 1; omega) (by show i + 1 ≤ 9223372036854775807; omega) ?_
    intro i2 hi2
    have hi2 : i2 = i + 1 := hi2
    conv => cbv
    refine Again.mk k' _ (Nat.lt_succ_self _) (Re.of [(0, 0)] [] (by first | exact Nat.zero_le _ | exact Nat.le_refl _ | decide) rfl rfl (by (try (conv => cbv)); (repeat' (first | exact trivial | rfl | exact SEq.mk rfl | (exact SEq.mk (by first | assumption | (symm; assumption))) | (simp only [I.val]; done) | (simp only [I.val]; omega) | omega | assumption | (refine And.intro ?_ ?_) | exact Or.inl rfl | exact Or.inr (by assumption) | exact List.Mem.head _ | exact List.Mem.tail _ (List.Mem.head _) | exact ⟨_, rfl⟩ | exact ⟨_, rfl, Or.inl rfl⟩ | (refine ⟨_, rfl, Or.inr ?_⟩; (try (conv => cbv))) | (simp only [I.val] at *; first | omega | (subst_vars; rfl) | simp_all)))) (by (try (conv => cbv)); (repeat' (first | exact trivial | rfl | exact SEq.mk rfl | (exact SEq.mk (by first | assumption | (symm; assumption))) | (simp only [I.val]; done) | (simp only [I.val]; omega) | omega | assumption | (refine And.intro ?_ ?_) | exact Or.inl rfl | exact Or.inr (by assumption) | exact List.Mem.head _ | exact List.Mem.tail _ (List.Mem.head _) | exact ⟨_, rfl⟩ | exact ⟨_, rfl, Or.inl rfl⟩ | (refine ⟨_, rfl, Or.inr ?_⟩; (try (conv => cbv))) | (simp only [I.val] at *; first | omega | (subst_vars; rfl) | simp_all))))) ⟨i2, rfl, by omega, by omega, by omega⟩
  · simp only [I.val] at e2
    conv => cbv
    refine RetF.mk [.p (.bool true)] [] 1 (Re.of [] [] (by first | exact Nat.zero_le _ | exact Nat.le_refl _ | decide) rfl rfl (by (try (conv => cbv)); (repeat' (first | exact trivial | rfl | exact SEq.mk rfl | (exact SEq.mk (by first | assumption | (symm; assumption))) | (simp only [I.val]; done) | (simp only [I.val]; omega) | omega | assumption | (refine And.intro ?_ ?_) | exact Or.inl rfl | exact Or.inr (by assumption) | exact List.Mem.head _ | exact List.Mem.tail _ (List.Mem.head _) | exact ⟨_, rfl⟩ | exact ⟨_, rfl, Or.inl rfl⟩ | (refine ⟨_, rfl, Or.inr ?_⟩; (try (conv => cbv))) | (simp only [I.val] at *; first | omega | (subst_vars; rfl) | simp_all)))) (by (try (conv => cbv)); (repeat' (first | exact trivial | rfl | exact SEq.mk rfl | (exact SEq.mk (by first | assumption | (symm; assumption))) | (simp only [I.val]; done) | (simp only [I.val]; omega) | omega | assumption | (refine And.intro ?_ ?_) | exact Or.inl rfl | exact Or.inr (by assumption) | exact List.Mem.head _ | exact List.Mem.tail _ (List.Mem.head _) | exact ⟨_, rfl⟩ | exact ⟨_, rfl, Or.inl rfl⟩ | (refine ⟨_, rfl, Or.inr ?_⟩; (try (conv => cbv))) | (simp only [I.val] at *; first | omega | (subst_vars; rfl) | simp_all))))) rfl ⟨rfl, rfl, rfl⟩
end Go.Proofs.Ytongaoioaafjnaa
