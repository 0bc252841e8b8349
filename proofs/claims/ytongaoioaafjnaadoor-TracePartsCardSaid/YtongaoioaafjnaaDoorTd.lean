/-
  Laws of layer 26.
-/
import Derived.Test.YtongaoioaafjnaaDoorTc
namespace Go.Proofs.YtongaoioaafjnaaDoor
open Go Go.LX
set_option maxRecDepth 100000
set_option linter.unusedVariables false
set_option linter.unusedSimpArgs false

def PreI (k : IntKind) (l : List PV) (A : List Int) : Prop := ∀ (i : Nat) (x : Int), A[i]? = some x → l[i]? = some (.int k (.sym x))
theorem preI_gors (A : List Int) : PreI .i64 (gors A) A := fun i x h => by rw [gors, List.getElem?_map, h]; rfl
set_option maxHeartbeats 2000000 in
theorem eqi64_lx (x y : Int) :
    CallF (fun _ => Tryd.prog) 17 [.p (.int .i64 (.sym x)), .p (.int .i64 (.sym y))] [] 0 (fun r h n => (∃ b : Bool, r = .p (.bool b) ∧ (b = true ↔ x = y)) ∧ h = [] ∧ n = 0) := by
  refine callF_of_body tok Tryd.func17 (by kernel_rfl) rfl rfl rfl ?_; conv => cbv
  refine Br.mk (fun e => ?_) (fun e => ?_)
  · have e : x = y := e
    conv => cbv
    refine RetF.mk [.p (.bool true)] [] 0 (Re.of [] [] (by first | exact Nat.zero_le _ | exact Nat.le_refl _ | decide | (dsimp only; decide)) rfl rfl (by (try (conv => cbv)); (repeat' (first | exact trivial | rfl | exact SEq.mk rfl | (exact SEq.mk (by first | assumption | (symm; assumption))) | (simp only [I.val]; done) | (simp only [I.val]; omega) | omega | assumption | (refine And.intro ?_ ?_) | exact Or.inl rfl | exact Or.inr (by assumption) | exact List.Mem.head _ | exact List.Mem.tail _ (List.Mem.head _) | exact ⟨_, rfl⟩ | exact ⟨_, rfl, Or.inl rfl⟩ | (refine ⟨_, rfl, Or.inr ?_⟩; (try (conv => cbv))) | (simp only [I.val] at *; first | omega | (subst_vars; rfl) | simp_all) | (refine Or.inr ?_; (try (conv => cbv)))))) (by (try (conv => cbv)); (repeat' (first | exact trivial | rfl | exact SEq.mk rfl | (exact SEq.mk (by first | assumption | (symm; assumption))) | (simp only [I.val]; done) | (simp only [I.val]; omega) | omega | assumption | (refine And.intro ?_ ?_) | exact Or.inl rfl | exact Or.inr (by assumption) | exact List.Mem.head _ | exact List.Mem.tail _ (List.Mem.head _) | exact ⟨_, rfl⟩ | exact ⟨_, rfl, Or.inl rfl⟩ | (refine ⟨_, rfl, Or.inr ?_⟩; (try (conv => cbv))) | (simp only [I.val] at *; first | omega | (subst_vars; rfl) | simp_all) | (refine Or.inr ?_; (try (conv => cbv))))))) rfl ⟨⟨true, rfl, by simp [e]⟩, rfl, rfl⟩
  · have e : ¬ x = y := e
    conv => cbv
    refine RetF.mk [.p (.bool false)] [] 0 (Re.of [] [] (by first | exact Nat.zero_le _ | exact Nat.le_refl _ | decide | (dsimp only; decide)) rfl rfl (by (try (conv => cbv)); (repeat' (first | exact trivial | rfl | exact SEq.mk rfl | (exact SEq.mk (by first | assumption | (symm; assumption))) | (simp only [I.val]; done) | (simp only [I.val]; omega) | omega | assumption | (refine And.intro ?_ ?_) | exact Or.inl rfl | exact Or.inr (by assumption) | exact List.Mem.head _ | exact List.Mem.tail _ (List.Mem.head _) | exact ⟨_, rfl⟩ | exact ⟨_, rfl, Or.inl rfl⟩ | (refine ⟨_, rfl, Or.inr ?_⟩; (try (conv => cbv))) | (simp only [I.val] at *; first | omega | (subst_vars; rfl) | simp_all) | (refine Or.inr ?_; (try (conv => cbv)))))) (by (try (conv => cbv)); (repeat' (first | exact trivial | rfl | exact SEq.mk rfl | (exact SEq.mk (by first | assumption | (symm; assumption))) | (simp only [I.val]; done) | (simp only [I.val]; omega) | omega | assumption | (refine And.intro ?_ ?_) | exact Or.inl rfl | exact Or.inr (by assumption) | exact List.Mem.head _ | exact List.Mem.tail _ (List.Mem.head _) | exact ⟨_, rfl⟩ | exact ⟨_, rfl, Or.inl rfl⟩ | (refine ⟨_, rfl, Or.inr ?_⟩; (try (conv => cbv))) | (simp only [I.val] at *; first | omega | (subst_vars; rfl) | simp_all) | (refine Or.inr ?_; (try (conv => cbv))))))) rfl ⟨⟨false, rfl, by simp [e]⟩, rfl, rfl⟩
set_option maxHeartbeats 2000000 in
theorem samei64_lx (A B : List Int) (m n : Int) (la lb : List PV) (hm : m = A.length) (hn : n = B.length) (ha : PreI .i64 la A) (hb : PreI .i64 lb B) (hA : (A.length : Int) < 1000000) :
    CallF (fun _ => Tryd.prog) 16 [.p (.vsl (.sym m) true la), .p (.vsl (.sym n) true lb), .p (.fn 17)] [] 0 (fun r h n => (∃ b : Bool, r = .p (.bool b) ∧ (b = true ↔ A = B)) ∧ h = [] ∧ n = 0) := by
  refine callF_of_body tok Tryd.func16 (by kernel_rfl) rfl rfl rfl ?_; conv => cbv
  refine Br.mk (fun e1 => ?_) (fun e1 => ?_)
  · simp only [I.val] at e1
    conv => cbv
    refine RetF.mk [.p (.bool false)] [] 0 (Re.of [] [] (by first | exact Nat.zero_le _ | exact Nat.le_refl _ | decide | (dsimp only; decide)) rfl rfl (by (try (conv => cbv)); (repeat' (first | exact trivial | rfl | exact SEq.mk rfl | (exact SEq.mk (by first | assumption | (symm; assumption))) | (simp only [I.val]; done) | (simp only [I.val]; omega) | omega | assumption | (refine And.intro ?_ ?_) | exact Or.inl rfl | exact Or.inr (by assumption) | exact List.Mem.head _ | exact List.Mem.tail _ (List.Mem.head _) | exact ⟨_, rfl⟩ | exact ⟨_, rfl, Or.inl rfl⟩ | (refine ⟨_, rfl, Or.inr ?_⟩; (try (conv => cbv))) | (simp only [I.val] at *; first | omega | (subst_vars; rfl) | simp_all) | (refine Or.inr ?_; (try (conv => cbv)))))) (by (try (conv => cbv)); (repeat' (first | exact trivial | rfl | exact SEq.mk rfl | (exact SEq.mk (by first | assumption | (symm; assumption))) | (simp only [I.val]; done) | (simp only [I.val]; omega) | omega | assumption | (refine And.intro ?_ ?_) | exact Or.inl rfl | exact Or.inr (by assumption) | exact List.Mem.head _ | exact List.Mem.tail _ (List.Mem.head _) | exact ⟨_, rfl⟩ | exact ⟨_, rfl, Or.inl rfl⟩ | (refine ⟨_, rfl, Or.inr ?_⟩; (try (conv => cbv))) | (simp only [I.val] at *; first | omega | (subst_vars; rfl) | simp_all) | (refine Or.inr ?_; (try (conv => cbv))))))) rfl ⟨⟨false, rfl, by simp; intro h; subst h; omega⟩, rfl, rfl⟩
  · simp only [I.val] at e1
    conv => cbv
    have hmn : m = n := by omega
    refine LoopF.mk (fun k s => ∃ i : Int, s = ⟨.p (.vsl (.sym m) true la) :: .p (.vsl (.sym n) true lb) :: .p (.fn 17) :: .undef :: .undef :: .undef :: .undef :: .p (.int .i64 (.sym i)) :: undefs 22, [], 0⟩ ∧ 0 ≤ i ∧ i ≤ m ∧ A.take i.toNat = B.take i.toNat ∧ k = (m - i).toNat) m.toNat _
      (Re.of [] [] (by first | exact Nat.zero_le _ | exact Nat.le_refl _ | decide | (dsimp only; decide)) rfl rfl (by (try (conv => cbv)); (repeat' (first | exact trivial | rfl | exact SEq.mk rfl | (exact SEq.mk (by first | assumption | (symm; assumption))) | (simp only [I.val]; done) | (simp only [I.val]; omega) | omega | assumption | (refine And.intro ?_ ?_) | exact Or.inl rfl | exact Or.inr (by assumption) | exact List.Mem.head _ | exact List.Mem.tail _ (List.Mem.head _) | exact ⟨_, rfl⟩ | exact ⟨_, rfl, Or.inl rfl⟩ | (refine ⟨_, rfl, Or.inr ?_⟩; (try (conv => cbv))) | (simp only [I.val] at *; first | omega | (subst_vars; rfl) | simp_all) | (refine Or.inr ?_; (try (conv => cbv)))))) (by (try (conv => cbv)); (repeat' (first | exact trivial | rfl | exact SEq.mk rfl | (exact SEq.mk (by first | assumption | (symm; assumption))) | (simp only [I.val]; done) | (simp only [I.val]; omega) | omega | assumption | (refine And.intro ?_ ?_) | exact Or.inl rfl | exact Or.inr (by assumption) | exact List.Mem.head _ | exact List.Mem.tail _ (List.Mem.head _) | exact ⟨_, rfl⟩ | exact ⟨_, rfl, Or.inl rfl⟩ | (refine ⟨_, rfl, Or.inr ?_⟩; (try (conv => cbv))) | (simp only [I.val] at *; first | omega | (subst_vars; rfl) | simp_all) | (refine Or.inr ?_; (try (conv => cbv))))))) ⟨0, rfl, by omega, by omega, rfl, by omega⟩ ?_
    rintro k s ⟨i, rfl, hi0, him, ht, hk⟩
    conv => cbv
    refine Br.mk (fun e2 => ?_) (fun e2 => ?_)
    · simp only [I.val] at e2
      conv => cbv
      refine draw_sound tok (by kernel_rfl) rfl (by kernel_rfl) ?_
      conv => cbv
      obtain ⟨x1, hea⟩ : ∃ e, A[i.toNat]? = some e := ⟨_, List.getElem?_eq_getElem (by omega)⟩
      obtain ⟨x2, heb⟩ : ∃ e, B[i.toNat]? = some e := ⟨_, List.getElem?_eq_getElem (by omega)⟩
      have a1 := ha _ _ hea
      have b1 := hb _ _ heb
      refine Need.mk ⟨hi0, by simpa [I.val] using e2⟩ ?_
      conv => cbv
      refine Cell.at i _ a1 (by simp [I.val]) (by omega) ?_
      conv => cbv
      refine Need.mk ⟨hi0, by simp only [I.val]; omega⟩ ?_
      conv => cbv
      refine Cell.at i _ b1 (by simp [I.val]) (by omega) ?_
      conv => cbv
      refine callF_val (eqi64_lx x1 x2) (by simp [ales, ale, renVs, renV, pvle]) rfl (fun r ⟨b, hr, _⟩ => by subst hr; rfl) (fun r ⟨b, hr, he⟩ => ?_)
      subst hr
      have iff1 : b = true ↔ A[i.toNat]? = B[i.toNat]? := by rw [he, hea, heb]; simp
      cases b with
      | false =>
        conv => cbv
        refine RetF.mk [.p (.bool false)] [] 0 (Re.of [] [] (by first | exact Nat.zero_le _ | exact Nat.le_refl _ | decide | (dsimp only; decide)) rfl rfl (by (try (conv => cbv)); (repeat' (first | exact trivial | rfl | exact SEq.mk rfl | (exact SEq.mk (by first | assumption | (symm; assumption))) | (simp only [I.val]; done) | (simp only [I.val]; omega) | omega | assumption | (refine And.intro ?_ ?_) | exact Or.inl rfl | exact Or.inr (by assumption) | exact List.Mem.head _ | exact List.Mem.tail _ (List.Mem.head _) | exact ⟨_, rfl⟩ | exact ⟨_, rfl, Or.inl rfl⟩ | (refine ⟨_, rfl, Or.inr ?_⟩; (try (conv => cbv))) | (simp only [I.val] at *; first | omega | (subst_vars; rfl) | simp_all) | (refine Or.inr ?_; (try (conv => cbv)))))) (by (try (conv => cbv)); (repeat' (first | exact trivial | rfl | exact SEq.mk rfl | (exact SEq.mk (by first | assumption | (symm; assumption))) | (simp only [I.val]; done) | (simp only [I.val]; omega) | omega | assumption | (refine And.intro ?_ ?_) | exact Or.inl rfl | exact Or.inr (by assumption) | exact List.Mem.head _ | exact List.Mem.tail _ (List.Mem.head _) | exact ⟨_, rfl⟩ | exact ⟨_, rfl, Or.inl rfl⟩ | (refine ⟨_, rfl, Or.inr ?_⟩; (try (conv => cbv))) | (simp only [I.val] at *; first | omega | (subst_vars; rfl) | simp_all) | (refine Or.inr ?_; (try (conv => cbv))))))) rfl ⟨⟨false, rfl, by simp only [Bool.false_eq_true, false_iff]; intro h; subst h; simp at iff1⟩, rfl, rfl⟩
      | true =>
        obtain ⟨k', rfl⟩ : ∃ k', k = k' + 1 := ⟨k - 1, by omega⟩
        conv => cbv
        refine Fit.mk (by show (-9223372036854775808 : Int) ≤ i + 1; omega) (by show i + 1 ≤ 9223372036854775807; omega) ?_
        intro i2 hi2
        have hi3 : i2 = i + 1 := hi2
        clear hi2
        conv => cbv
        refine Again.mk k' _ (Nat.lt_succ_self _) (Re.of [] [] (by first | exact Nat.zero_le _ | exact Nat.le_refl _ | decide | (dsimp only; decide)) rfl rfl (by (try (conv => cbv)); (repeat' (first | exact trivial | rfl | exact SEq.mk rfl | (exact SEq.mk (by first | assumption | (symm; assumption))) | (simp only [I.val]; done) | (simp only [I.val]; omega) | omega | assumption | (refine And.intro ?_ ?_) | exact Or.inl rfl | exact Or.inr (by assumption) | exact List.Mem.head _ | exact List.Mem.tail _ (List.Mem.head _) | exact ⟨_, rfl⟩ | exact ⟨_, rfl, Or.inl rfl⟩ | (refine ⟨_, rfl, Or.inr ?_⟩; (try (conv => cbv))) | (simp only [I.val] at *; first | omega | (subst_vars; rfl) | simp_all) | (refine Or.inr ?_; (try (conv => cbv)))))) (by (try (conv => cbv)); (repeat' (first | exact trivial | rfl | exact SEq.mk rfl | (exact SEq.mk (by first | assumption | (symm; assumption))) | (simp only [I.val]; done) | (simp only [I.val]; omega) | omega | assumption | (refine And.intro ?_ ?_) | exact Or.inl rfl | exact Or.inr (by assumption) | exact List.Mem.head _ | exact List.Mem.tail _ (List.Mem.head _) | exact ⟨_, rfl⟩ | exact ⟨_, rfl, Or.inl rfl⟩ | (refine ⟨_, rfl, Or.inr ?_⟩; (try (conv => cbv))) | (simp only [I.val] at *; first | omega | (subst_vars; rfl) | simp_all) | (refine Or.inr ?_; (try (conv => cbv))))))) ⟨i2, rfl, by omega, by omega, ?_, by omega⟩
        rw [show i2.toNat = i.toNat + 1 by omega, List.take_add_one, List.take_add_one, ht, iff1.1 rfl]
    · simp only [I.val] at e2
      conv => cbv
      refine RetF.mk [.p (.bool true)] [] 0 (Re.of [] [] (by first | exact Nat.zero_le _ | exact Nat.le_refl _ | decide | (dsimp only; decide)) rfl rfl (by (try (conv => cbv)); (repeat' (first | exact trivial | rfl | exact SEq.mk rfl | (exact SEq.mk (by first | assumption | (symm; assumption))) | (simp only [I.val]; done) | (simp only [I.val]; omega) | omega | assumption | (refine And.intro ?_ ?_) | exact Or.inl rfl | exact Or.inr (by assumption) | exact List.Mem.head _ | exact List.Mem.tail _ (List.Mem.head _) | exact ⟨_, rfl⟩ | exact ⟨_, rfl, Or.inl rfl⟩ | (refine ⟨_, rfl, Or.inr ?_⟩; (try (conv => cbv))) | (simp only [I.val] at *; first | omega | (subst_vars; rfl) | simp_all) | (refine Or.inr ?_; (try (conv => cbv)))))) (by (try (conv => cbv)); (repeat' (first | exact trivial | rfl | exact SEq.mk rfl | (exact SEq.mk (by first | assumption | (symm; assumption))) | (simp only [I.val]; done) | (simp only [I.val]; omega) | omega | assumption | (refine And.intro ?_ ?_) | exact Or.inl rfl | exact Or.inr (by assumption) | exact List.Mem.head _ | exact List.Mem.tail _ (List.Mem.head _) | exact ⟨_, rfl⟩ | exact ⟨_, rfl, Or.inl rfl⟩ | (refine ⟨_, rfl, Or.inr ?_⟩; (try (conv => cbv))) | (simp only [I.val] at *; first | omega | (subst_vars; rfl) | simp_all) | (refine Or.inr ?_; (try (conv => cbv))))))) rfl ⟨⟨true, rfl, ?_⟩, rfl, rfl⟩
      have : i.toNat = A.length := by omega
      rw [this, List.take_length] at ht
      rw [List.take_of_length_le (by omega)] at ht
      simp [ht]
set_option maxHeartbeats 2000000 in
theorem plaini64_lx (A B : List Int) (m n : Int) (la lb : List PV) (hm : m = A.length) (hn : n = B.length) (ha : PreI .i64 la A) (hb : PreI .i64 lb B) (hA : (A.length : Int) < 1000000) :
    CallF (fun _ => Tryd.prog) 10 [.p (.vsl (.sym m) true la), .p (.vsl (.sym n) true lb)] [] 0 (fun r h n => (∃ b : Bool, r = .p (.bool b) ∧ (b = true ↔ A = B)) ∧ h = [] ∧ n = 0) := by
  refine callF_of_body tok Tryd.func10 (by kernel_rfl) rfl rfl rfl ?_; conv => cbv
  refine callF_val (samei64_lx A B m n la lb hm hn ha hb hA) (by simp [ales, ale, renVs, renV, pvle, I.val]) rfl (fun r ⟨b, hr, _⟩ => by subst hr; rfl) (fun r ⟨b, hr, hb⟩ => ?_)
  subst hr
  conv => cbv
  refine RetF.mk [.p (.bool b)] [] 0 (Re.of [] [] (by first | exact Nat.zero_le _ | exact Nat.le_refl _ | decide | (dsimp only; decide)) rfl rfl (by (try (conv => cbv)); (repeat' (first | exact trivial | rfl | exact SEq.mk rfl | (exact SEq.mk (by first | assumption | (symm; assumption))) | (simp only [I.val]; done) | (simp only [I.val]; omega) | omega | assumption | (refine And.intro ?_ ?_) | exact Or.inl rfl | exact Or.inr (by assumption) | exact List.Mem.head _ | exact List.Mem.tail _ (List.Mem.head _) | exact ⟨_, rfl⟩ | exact ⟨_, rfl, Or.inl rfl⟩ | (refine ⟨_, rfl, Or.inr ?_⟩; (try (conv => cbv))) | (simp only [I.val] at *; first | omega | (subst_vars; rfl) | simp_all) | (refine Or.inr ?_; (try (conv => cbv)))))) (by (try (conv => cbv)); (repeat' (first | exact trivial | rfl | exact SEq.mk rfl | (exact SEq.mk (by first | assumption | (symm; assumption))) | (simp only [I.val]; done) | (simp only [I.val]; omega) | omega | assumption | (refine And.intro ?_ ?_) | exact Or.inl rfl | exact Or.inr (by assumption) | exact List.Mem.head _ | exact List.Mem.tail _ (List.Mem.head _) | exact ⟨_, rfl⟩ | exact ⟨_, rfl, Or.inl rfl⟩ | (refine ⟨_, rfl, Or.inr ?_⟩; (try (conv => cbv))) | (simp only [I.val] at *; first | omega | (subst_vars; rfl) | simp_all) | (refine Or.inr ?_; (try (conv => cbv))))))) rfl ⟨⟨b, rfl, hb⟩, rfl, rfl⟩

theorem evs_flat : ∀ E : List Ev, ∀ u ∈ evs E, flatP u
  | [], u, h => by cases h
  | (k, g, v, f) :: E, u, h => by
    simp only [evs, List.mem_cons] at h
    rcases h with rfl | rfl | rfl | rfl | h
    · trivial
    · trivial
    · trivial
    · trivial
    · exact evs_flat E u h
theorem gors_flat (A : List Int) : ∀ u ∈ gors A, flatP u := by
  intro u h
  obtain ⟨a, _, rfl⟩ := List.mem_map.1 h
  trivial
theorem flat1 {B : LB} {g : Nat} {o : Unit → Obj} (h : flatB B) : flatN 1 [(1, B), (0, .fix g o)] := ⟨h, trivial, trivial⟩
def E2 : List Ev := [(1, 1, -5, false), (3, 2, 0, false)]
theorem txt2 : ([111, 117, 116, 32, 49, 32, 45, 53, 10, 114, 101, 99, 108, 97, 105, 109, 32, 50, 10] : List UInt8) = txt E2 := by
  have h1 : Lib.itoa 1 = [49] := by unfold Lib.itoa; rw [if_neg (by decide)]; exact Lib.decDigits_one (by decide)
  have h2 : Lib.itoa 2 = [50] := by unfold Lib.itoa; rw [if_neg (by decide)]; exact Lib.decDigits_one (by decide)
  have h5 : Lib.itoa (-5) = [45, 53] := by unfold Lib.itoa; rw [if_pos (by decide)]; exact congrArg (List.cons 45) (Lib.decDigits_one (by decide))
  simp [E2, txt, txt1, line, h1, h2, h5]
theorem ok2 : ∀ e ∈ E2, evOk e := by
  intro e he
  simp only [E2, List.mem_cons, List.not_mem_nil, or_false] at he
  rcases he with rfl | rfl <;> exact ⟨⟨by decide, by decide⟩, ⟨by decide, by decide⟩, ⟨by decide, by decide⟩⟩
set_option maxHeartbeats 4000000 in
theorem awake26_lx (o : Unit → Obj) (ho : IsPow o) : CallF (fun _ => Tryd.prog) 5 [] [(0, .fix 0 o)] 1 (fun r h n => r = .p (.bool true) ∧ h = [(0, .fix 0 o)] ∧ n = 1) := by
  refine callF_of_body tok Tryd.func5 (by kernel_rfl) rfl rfl rfl ?_; conv => cbv
  refine callF_lendF (text_lx E2 _ txt2 2 (evs E2) rfl rfl ok2 (by decide) o ho) [(0, 0)] rfl (by simp [fixOn, hget]) (by simp [allFix, isFix, nget]) ⟨⟨rfl, false, _, rfl, .inr ⟨_, List.prefix_refl _, by simp [pvles, pvle, I.val, evs, E2]⟩⟩, trivial⟩ (fun r h' n' ⟨⟨y, e1, _⟩, e2, e3⟩ => by subst e1 e2; exact ⟨trivial, trivial, trivial⟩) (fun r h' n' ⟨⟨y, e1, hy⟩, e2, e3⟩ => ?_)
  subst e1 e2 e3
  conv => cbv
  refine Br.mk (fun g => ?_) (fun g => ?_)
  case refine_2 =>
    exfalso
    exact g hy
  conv => cbv
  refine callF_lendF (visible_lx E2 [(1, 1, -5, false)] rfl 2 (evs E2) rfl rfl ok2 (by decide) o ho) [(0, 0)] rfl (by simp [fixOn, hget]) (by simp [allFix, isFix, nget]) ⟨⟨rfl, false, _, rfl, .inr ⟨_, List.prefix_refl _, by simp [pvles, pvle, I.val, evs, E2]⟩⟩, trivial⟩ (fun r h' n' ⟨j, M, e1, e2, e3, hM, _⟩ => by subst e1 e2 hM; exact ⟨trivial, flat1 (evs_flat _)⟩) (fun r h' n' ⟨j, M, e1, e2, e3, hM, hj⟩ => ?_)
  subst e1 e2 e3
  have hj : j = 1 := hj
  conv => cbv
  refine Br.mk (fun g => ?_) (fun g => ?_)
  case refine_2 =>
    have g : ¬ j = 1 := g
    exfalso
    exact g hj
  conv => cbv
  refine callF_lendF (reclaimed_lx E2 [2] rfl 2 (evs E2) rfl rfl ok2 (by decide) o ho) [(0, 0)] rfl (by simp [fixOn, hget]) (by simp [allFix, isFix, nget]) ⟨⟨rfl, false, _, rfl, .inr ⟨_, List.prefix_refl _, by simp [pvles, pvle, I.val, evs, E2]⟩⟩, trivial⟩ (fun r h' n' ⟨j, M, e1, e2, e3, hM, _⟩ => by subst e1 e2 hM; exact ⟨trivial, flat1 (gors_flat _)⟩) (fun r h' n' ⟨j2, M2, e1, e2, e3, hM2, hj2⟩ => ?_)
  subst e1 e2 e3
  conv => cbv
  refine callF_lend (plaini64_lx [2] [2] j2 1 M2 (gors [2]) hj2 rfl (by rw [hM2]; exact preI_gors [2]) (preI_gors [2]) (by decide)) ⟨⟨rfl, true, _, rfl, .inl (List.prefix_refl _)⟩, ⟨rfl, false, _, rfl, .inr ⟨_, List.prefix_refl _, by simp [pvles, pvle, I.val, gors]⟩⟩, trivial⟩ (fun r h' n' ⟨⟨b, e1, _⟩, e2, e3⟩ => by subst e1 e2; exact ⟨trivial, trivial⟩) (fun r h' n' ⟨⟨b, e1, hb⟩, e2, e3⟩ => ?_)
  subst e1 e2 e3
  obtain rfl : b = true := hb.2 rfl
  conv => cbv
  refine RetF.mk [.p (.bool true)] [(0, .fix 0 o)] 1 (Re.of [(0, 0)] [] (by first | exact Nat.zero_le _ | exact Nat.le_refl _ | decide | (dsimp only; decide)) rfl rfl (by (try (conv => cbv)); (repeat' (first | exact trivial | rfl | exact SEq.mk rfl | (exact SEq.mk (by first | assumption | (symm; assumption))) | (simp only [I.val]; done) | (simp only [I.val]; omega) | omega | assumption | (refine And.intro ?_ ?_) | exact Or.inl rfl | exact Or.inr (by assumption) | exact List.Mem.head _ | exact List.Mem.tail _ (List.Mem.head _) | exact ⟨_, rfl⟩ | exact ⟨_, rfl, Or.inl rfl⟩ | (refine ⟨_, rfl, Or.inr ?_⟩; (try (conv => cbv))) | (simp only [I.val] at *; first | omega | (subst_vars; rfl) | simp_all) | (refine Or.inr ?_; (try (conv => cbv)))))) (by (try (conv => cbv)); (repeat' (first | exact trivial | rfl | exact SEq.mk rfl | (exact SEq.mk (by first | assumption | (symm; assumption))) | (simp only [I.val]; done) | (simp only [I.val]; omega) | omega | assumption | (refine And.intro ?_ ?_) | exact Or.inl rfl | exact Or.inr (by assumption) | exact List.Mem.head _ | exact List.Mem.tail _ (List.Mem.head _) | exact ⟨_, rfl⟩ | exact ⟨_, rfl, Or.inl rfl⟩ | (refine ⟨_, rfl, Or.inr ?_⟩; (try (conv => cbv))) | (simp only [I.val] at *; first | omega | (subst_vars; rfl) | simp_all) | (refine Or.inr ?_; (try (conv => cbv))))))) rfl ⟨rfl, rfl, rfl⟩
set_option maxHeartbeats 4000000 in
theorem traceKinds_law (m g : Int) (B : List Int) (lb : List PV) (hm : m = B.length) (hb : lb = gors B) (hB : ∀ e ∈ B, i64 e) (hg : i64 g) (o : Unit → Obj) (ho : IsPow o) :
    CallF (fun _ => Tryd.prog) 4 [.p (.vsl (.sym m) true lb), .p (.int .i64 (.sym g))] [(0, .fix 0 o)] 1 (fun r _ _ => r = .p (.bool true)) := by
  refine callF_of_body tok Tryd.func4 (by kernel_rfl) rfl rfl rfl ?_; conv => cbv
  refine LoopF.mk (fun d s => ∃ (i c j w : Int) (E : List Ev) (M W : List PV) (F : List Ev) (G : List Int), s = ⟨.p (.vsl (.sym m) true lb) :: .p (.int .i64 (.sym g)) :: .undef :: .undef :: .undef :: .sl 1 28 4 (.lit 0) (.sym j) :: .sl 2 28 4 (.lit 0) (.sym w) :: .p (.int .i64 (.sym c)) :: .p (.int .i64 (.sym i)) :: undefs 52, [(1, .pure true M), (2, .pure true W), (0, .fix 0 o)], 3⟩ ∧ 0 ≤ i ∧ i ≤ 50 ∧ (∀ e ∈ E, evOk e) ∧ j = i ∧ M = evs E ∧ j = E.length ∧ F = E.filter vis ∧ G = gone E ∧ W = evs F ∧ w = F.length ∧ c = G.length ∧ 0 ≤ w ∧ w ≤ i ∧ 0 ≤ c ∧ c ≤ i ∧ d = (50 - i).toNat) 50 _
    (Re.of [(0, 0)] [1, 2] (by first | exact Nat.zero_le _ | exact Nat.le_refl _ | decide | (dsimp only; decide)) rfl rfl (by (try (conv => cbv)); (repeat' (first | exact trivial | rfl | exact SEq.mk rfl | (exact SEq.mk (by first | assumption | (symm; assumption))) | (simp only [I.val]; done) | (simp only [I.val]; omega) | omega | assumption | (refine And.intro ?_ ?_) | exact Or.inl rfl | exact Or.inr (by assumption) | exact List.Mem.head _ | exact List.Mem.tail _ (List.Mem.head _) | exact ⟨_, rfl⟩ | exact ⟨_, rfl, Or.inl rfl⟩ | (refine ⟨_, rfl, Or.inr ?_⟩; (try (conv => cbv))) | (simp only [I.val] at *; first | omega | (subst_vars; rfl) | simp_all) | (refine Or.inr ?_; (try (conv => cbv)))))) (by (try (conv => cbv)); (repeat' (first | exact trivial | rfl | exact SEq.mk rfl | (exact SEq.mk (by first | assumption | (symm; assumption))) | (simp only [I.val]; done) | (simp only [I.val]; omega) | omega | assumption | (refine And.intro ?_ ?_) | exact Or.inl rfl | exact Or.inr (by assumption) | exact List.Mem.head _ | exact List.Mem.tail _ (List.Mem.head _) | exact ⟨_, rfl⟩ | exact ⟨_, rfl, Or.inl rfl⟩ | (refine ⟨_, rfl, Or.inr ?_⟩; (try (conv => cbv))) | (simp only [I.val] at *; first | omega | (subst_vars; rfl) | simp_all) | (refine Or.inr ?_; (try (conv => cbv))))))) ⟨0, 0, 0, 0, [], [], [], [], [], rfl, by omega, by omega, by simp, rfl, rfl, rfl, rfl, rfl, rfl, rfl, rfl, by omega, by omega, by omega, by omega, by omega⟩ ?_
  rintro d s ⟨i, c, j, w, E, M, W, F, G, rfl, h0, h1, hE, hji, hM, hj, hF, hG, hW, hw, hc, hw0, hw1, hc0, hc1, hd⟩
  conv => cbv
  refine Br.mk (fun gi => ?_) (fun gi => ?_)
  · have gi : i < m := gi
    conv => cbv
    refine Br.mk (fun g5 => ?_) (fun g5 => ?_)
    · have g5 : i < 50 := g5
      obtain ⟨d', rfl⟩ : ∃ d', d = d' + 1 := ⟨d - 1, by omega⟩
      obtain ⟨x, hx⟩ : ∃ x, B[i.toNat]? = some x := ⟨_, List.getElem?_eq_getElem (by omega)⟩
      have hcx : lb[i.toNat]? = some (.int .i64 (.sym x)) := by rw [hb, gors, List.getElem?_map, hx]; rfl
      conv => cbv
      refine Need.mk ⟨h0, gi⟩ ?_
      conv => cbv
      refine Cell.at i _ hcx (by simp [I.val]) (by omega) ?_
      conv => cbv
      refine Fit.wrap fun u hu => ?_
      have hu : u = IntKind.u64.wrap x := hu
      have hu0 : 0 ≤ u := by rw [hu]; simp [IntKind.wrap, IntKind.bits, IntKind.signed]; omega
      clear hu
      conv => cbv
      refine Sum.mk fun t ht => ?_
      have ht : t = u % 5 := (show t = u.tmod 5 from ht).trans (Int.tmod_eq_emod_of_nonneg hu0)
      conv => cbv
      refine Fit.mk (by show (-9223372036854775808 : Int) ≤ t; omega) (by show t ≤ 9223372036854775807; omega) fun t2 ht2 => ?_
      have ht2 : t2 = t := ht2
      conv => cbv
      refine Fit.mk (by show (-9223372036854775808 : Int) ≤ 1 + t2; omega) (by show 1 + t2 ≤ 9223372036854775807; omega) fun k hk => ?_
      have hk : k = 1 + t2 := hk
      have hk1 : 1 ≤ k ∧ k ≤ 5 := by omega
      clear hk ht2 ht hu0
      have hi8 : i64 i := ⟨by omega, by omega⟩
      have hk8 : i64 k := ⟨by omega, by omega⟩
      have hE2 : ∀ e ∈ E ++ [(k, g, i, false)], evOk e := by
        intro e he
        rcases List.mem_append.1 he with he | he
        · exact hE e he
        · rw [List.mem_singleton.1 he]; exact ⟨hk8, hg, hi8⟩
      conv => cbv
      refine Room.new rfl ?_
      conv => cbv
      refine Room.new ⟨by rw [hM, evs_length]; show ((4 * E.length : Nat) : Int) = j * 4; omega, by show (j + 1) * 32 ≤ 140737488355328; omega, by show j + 1 ≤ 9223372036854775807; omega⟩ ?_
      conv => cbv
      refine Upd.mk fun M2 hM2 => ?_
      have hM2 : M2 = M ++ [.int .i64 (.sym k), .int .i64 (.sym g), .int .i64 (.sym i), .bool false] := hM2
      have q1 : M2 = evs (E ++ [(k, g, i, false)]) := by rw [hM2, hM, evs_append]; rfl
      conv => cbv
      refine Sum.mk fun j2 hj2 => ?_
      have hj2 : j2 = j + 1 := hj2
      have q2 : j2 = (E ++ [(k, g, i, false)]).length := by rw [List.length_append]; show j2 = ((E.length + 1 : Nat) : Int); omega
      conv => cbv
      refine Br.mk (fun g3 => ?_) (fun g3 => ?_)
      · have g3 : k = 3 := g3
        have q3 : F = (E ++ [(k, g, i, false)]).filter vis := by
          rw [List.filter_append, List.filter_cons_of_neg (by simp [vis, g3]), List.filter_nil, List.append_nil, hF]
        obtain ⟨G2, hG2⟩ : ∃ G2, G2 = gone (E ++ [(k, g, i, false)]) := ⟨_, rfl⟩
        have q4 : G2.length = G.length + 1 := by rw [hG2, gone_app, if_pos (show k = 3 from g3), List.length_append, hG]; rfl
        conv => cbv
        refine Fit.mk (by show (-9223372036854775808 : Int) ≤ c + 1; omega) (by show c + 1 ≤ 9223372036854775807; omega) fun c2 hc2 => ?_
        have hc2 : c2 = c + 1 := hc2
        have q5 : c2 = G2.length := by omega
        conv => cbv
        refine Fit.mk (by show (-9223372036854775808 : Int) ≤ i + 1; omega) (by show i + 1 ≤ 9223372036854775807; omega) fun i2 hi2 => ?_
        have hi2 : i2 = i + 1 := hi2
        conv => cbv
        refine Again.mk d' _ (Nat.lt_succ_self _) (Re.of [(0, 0), (5, 1), (2, 2)] [] (by first | exact Nat.zero_le _ | exact Nat.le_refl _ | decide | (dsimp only; decide)) rfl rfl (by (try (conv => cbv)); (repeat' (first | exact trivial | rfl | exact SEq.mk rfl | (exact SEq.mk (by first | assumption | (symm; assumption))) | (simp only [I.val]; done) | (simp only [I.val]; omega) | omega | assumption | (refine And.intro ?_ ?_) | exact Or.inl rfl | exact Or.inr (by assumption) | exact List.Mem.head _ | exact List.Mem.tail _ (List.Mem.head _) | exact ⟨_, rfl⟩ | exact ⟨_, rfl, Or.inl rfl⟩ | (refine ⟨_, rfl, Or.inr ?_⟩; (try (conv => cbv))) | (simp only [I.val] at *; first | omega | (subst_vars; rfl) | simp_all) | (refine Or.inr ?_; (try (conv => cbv)))))) (by (try (conv => cbv)); (repeat' (first | exact trivial | rfl | exact SEq.mk rfl | (exact SEq.mk (by first | assumption | (symm; assumption))) | (simp only [I.val]; done) | (simp only [I.val]; omega) | omega | assumption | (refine And.intro ?_ ?_) | exact Or.inl rfl | exact Or.inr (by assumption) | exact List.Mem.head _ | exact List.Mem.tail _ (List.Mem.head _) | exact ⟨_, rfl⟩ | exact ⟨_, rfl, Or.inl rfl⟩ | (refine ⟨_, rfl, Or.inr ?_⟩; (try (conv => cbv))) | (simp only [I.val] at *; first | omega | (subst_vars; rfl) | simp_all) | (refine Or.inr ?_; (try (conv => cbv))))))) ⟨i2, c2, j2, w, _, M2, W, F, G2, rfl, by omega, by omega, hE2, by omega, q1, q2, q3, hG2, hW, hw, q5, hw0, by omega, by omega, by omega, by omega⟩
      · have g3 : ¬ k = 3 := g3
        have q4 : G = gone (E ++ [(k, g, i, false)]) := by rw [gone_app, if_neg (show ¬ k = 3 from g3), List.append_nil, hG]
        conv => cbv
        refine Br.mk (fun g4 => ?_) (fun g4 => ?_)
        · have g4 : k ≠ 4 := g4
          obtain ⟨F2, hF2⟩ : ∃ F2, F2 = (E ++ [(k, g, i, false)]).filter vis := ⟨_, rfl⟩
          have q3 : F2 = F ++ [(k, g, i, false)] := by
            rw [hF2, List.filter_append, List.filter_cons_of_pos (by simp [vis, g3, g4]), List.filter_nil, hF]
          conv => cbv
          refine Room.new rfl ?_
          conv => cbv
          refine Room.new ⟨by rw [hW, evs_length]; show ((4 * F.length : Nat) : Int) = w * 4; omega, by show (w + 1) * 32 ≤ 140737488355328; omega, by show w + 1 ≤ 9223372036854775807; omega⟩ ?_
          conv => cbv
          refine Upd.mk fun W2 hW2 => ?_
          have hW2 : W2 = W ++ [.int .i64 (.sym k), .int .i64 (.sym g), .int .i64 (.sym i), .bool false] := hW2
          have q5 : W2 = evs F2 := by rw [hW2, hW, q3, evs_append]; rfl
          conv => cbv
          refine Sum.mk fun w2 hw2 => ?_
          have hw2 : w2 = w + 1 := hw2
          have q6 : w2 = F2.length := by rw [q3, List.length_append]; show w2 = ((F.length + 1 : Nat) : Int); omega
          conv => cbv
          refine Fit.mk (by show (-9223372036854775808 : Int) ≤ i + 1; omega) (by show i + 1 ≤ 9223372036854775807; omega) fun i2 hi2 => ?_
          have hi2 : i2 = i + 1 := hi2
          conv => cbv
          refine Again.mk d' _ (Nat.lt_succ_self _) (Re.of [(0, 0), (5, 1), (7, 2)] [] (by first | exact Nat.zero_le _ | exact Nat.le_refl _ | decide | (dsimp only; decide)) rfl rfl (by (try (conv => cbv)); (repeat' (first | exact trivial | rfl | exact SEq.mk rfl | (exact SEq.mk (by first | assumption | (symm; assumption))) | (simp only [I.val]; done) | (simp only [I.val]; omega) | omega | assumption | (refine And.intro ?_ ?_) | exact Or.inl rfl | exact Or.inr (by assumption) | exact List.Mem.head _ | exact List.Mem.tail _ (List.Mem.head _) | exact ⟨_, rfl⟩ | exact ⟨_, rfl, Or.inl rfl⟩ | (refine ⟨_, rfl, Or.inr ?_⟩; (try (conv => cbv))) | (simp only [I.val] at *; first | omega | (subst_vars; rfl) | simp_all) | (refine Or.inr ?_; (try (conv => cbv)))))) (by (try (conv => cbv)); (repeat' (first | exact trivial | rfl | exact SEq.mk rfl | (exact SEq.mk (by first | assumption | (symm; assumption))) | (simp only [I.val]; done) | (simp only [I.val]; omega) | omega | assumption | (refine And.intro ?_ ?_) | exact Or.inl rfl | exact Or.inr (by assumption) | exact List.Mem.head _ | exact List.Mem.tail _ (List.Mem.head _) | exact ⟨_, rfl⟩ | exact ⟨_, rfl, Or.inl rfl⟩ | (refine ⟨_, rfl, Or.inr ?_⟩; (try (conv => cbv))) | (simp only [I.val] at *; first | omega | (subst_vars; rfl) | simp_all) | (refine Or.inr ?_; (try (conv => cbv))))))) ⟨i2, c, j2, w2, _, M2, W2, F2, G, rfl, by omega, by omega, hE2, by omega, q1, q2, hF2, q4, q5, q6, hc, by omega, by omega, hc0, by omega, by omega⟩
        · have g4 : k = 4 := Classical.not_not.1 g4
          have q3 : F = (E ++ [(k, g, i, false)]).filter vis := by
            rw [List.filter_append, List.filter_cons_of_neg (by simp [vis, g4]), List.filter_nil, List.append_nil, hF]
          conv => cbv
          refine Fit.mk (by show (-9223372036854775808 : Int) ≤ i + 1; omega) (by show i + 1 ≤ 9223372036854775807; omega) fun i2 hi2 => ?_
          have hi2 : i2 = i + 1 := hi2
          conv => cbv
          refine Again.mk d' _ (Nat.lt_succ_self _) (Re.of [(0, 0), (5, 1), (2, 2)] [] (by first | exact Nat.zero_le _ | exact Nat.le_refl _ | decide | (dsimp only; decide)) rfl rfl (by (try (conv => cbv)); (repeat' (first | exact trivial | rfl | exact SEq.mk rfl | (exact SEq.mk (by first | assumption | (symm; assumption))) | (simp only [I.val]; done) | (simp only [I.val]; omega) | omega | assumption | (refine And.intro ?_ ?_) | exact Or.inl rfl | exact Or.inr (by assumption) | exact List.Mem.head _ | exact List.Mem.tail _ (List.Mem.head _) | exact ⟨_, rfl⟩ | exact ⟨_, rfl, Or.inl rfl⟩ | (refine ⟨_, rfl, Or.inr ?_⟩; (try (conv => cbv))) | (simp only [I.val] at *; first | omega | (subst_vars; rfl) | simp_all) | (refine Or.inr ?_; (try (conv => cbv)))))) (by (try (conv => cbv)); (repeat' (first | exact trivial | rfl | exact SEq.mk rfl | (exact SEq.mk (by first | assumption | (symm; assumption))) | (simp only [I.val]; done) | (simp only [I.val]; omega) | omega | assumption | (refine And.intro ?_ ?_) | exact Or.inl rfl | exact Or.inr (by assumption) | exact List.Mem.head _ | exact List.Mem.tail _ (List.Mem.head _) | exact ⟨_, rfl⟩ | exact ⟨_, rfl, Or.inl rfl⟩ | (refine ⟨_, rfl, Or.inr ?_⟩; (try (conv => cbv))) | (simp only [I.val] at *; first | omega | (subst_vars; rfl) | simp_all) | (refine Or.inr ?_; (try (conv => cbv))))))) ⟨i2, c, j2, w, _, M2, W, F, G, rfl, by omega, by omega, hE2, by omega, q1, q2, q3, q4, hW, hw, hc, hw0, by omega, hc0, by omega, by omega⟩
    · have g5 : ¬ i < 50 := g5
      conv => cbv
      refine callF_frame (awake26_lx o ho) [(0, 0)] rfl (by simp [hmapOk, nget, hget, renB, okB]) rfl rfl (fun r h' n' ⟨e1, e2, e3⟩ => ?_)
      subst e1 e2 e3
      conv => cbv
      refine callF_lendF (visible_lx E F hF j M hM hj hE (by omega) o ho) [(0, 0)] rfl (by simp [fixOn, hget]) (by simp [allFix, isFix, nget]) (by simp [lends, lendV, hget, I.val, pvle]) (fun r h' n' ⟨j, M, e1, e2, e3, hM, _⟩ => by subst e1 e2 hM; exact ⟨trivial, flat1 (evs_flat _)⟩) (fun r h' n' ⟨j9, M9, e1, e2, e3, hM9, hj9⟩ => ?_)
      subst e1 e2 e3
      conv => cbv
      refine callF_lend (plainEv_lx F F j9 w M9 W hj9 hw hM9 (pre_of hW) (by omega)) (by simp [lends, lendV, hget, I.val, pvle]) (fun r h' n' ⟨⟨b, e1, _⟩, e2, e3⟩ => by subst e1 e2; exact ⟨trivial, trivial⟩) (fun r h' n' ⟨⟨b, e1, hb9⟩, e2, e3⟩ => ?_)
      subst e1 e2 e3
      obtain rfl : b = true := hb9.2 rfl
      conv => cbv
      refine callF_lendF (reclaimed_lx E G hG j M hM hj hE (by omega) o ho) [(0, 0)] rfl (by simp [fixOn, hget]) (by simp [allFix, isFix, nget]) (by simp [lends, lendV, hget, I.val, pvle]) (fun r h' n' ⟨j, M, e1, e2, e3, hM, _⟩ => by subst e1 e2 hM; exact ⟨trivial, flat1 (gors_flat _)⟩) (fun r h' n' ⟨j8, M8, e1, e2, e3, hM8, hj8⟩ => ?_)
      subst e1 e2 e3
      conv => cbv
      refine Br.mk (fun g9 => ?_) (fun g9 => ?_)
      case refine_2 =>
        have g9 : ¬ j8 = c := g9
        exfalso
        exact g9 (by omega)
      conv => cbv
      refine RetF.mk [.p (.bool true)] [] 1 (Re.of [] [] (by first | exact Nat.zero_le _ | exact Nat.le_refl _ | decide | (dsimp only; decide)) rfl rfl (by (try (conv => cbv)); (repeat' (first | exact trivial | rfl | exact SEq.mk rfl | (exact SEq.mk (by first | assumption | (symm; assumption))) | (simp only [I.val]; done) | (simp only [I.val]; omega) | omega | assumption | (refine And.intro ?_ ?_) | exact Or.inl rfl | exact Or.inr (by assumption) | exact List.Mem.head _ | exact List.Mem.tail _ (List.Mem.head _) | exact ⟨_, rfl⟩ | exact ⟨_, rfl, Or.inl rfl⟩ | (refine ⟨_, rfl, Or.inr ?_⟩; (try (conv => cbv))) | (simp only [I.val] at *; first | omega | (subst_vars; rfl) | simp_all) | (refine Or.inr ?_; (try (conv => cbv)))))) (by (try (conv => cbv)); (repeat' (first | exact trivial | rfl | exact SEq.mk rfl | (exact SEq.mk (by first | assumption | (symm; assumption))) | (simp only [I.val]; done) | (simp only [I.val]; omega) | omega | assumption | (refine And.intro ?_ ?_) | exact Or.inl rfl | exact Or.inr (by assumption) | exact List.Mem.head _ | exact List.Mem.tail _ (List.Mem.head _) | exact ⟨_, rfl⟩ | exact ⟨_, rfl, Or.inl rfl⟩ | (refine ⟨_, rfl, Or.inr ?_⟩; (try (conv => cbv))) | (simp only [I.val] at *; first | omega | (subst_vars; rfl) | simp_all) | (refine Or.inr ?_; (try (conv => cbv))))))) rfl rfl
  · have gi : ¬ i < m := gi
    conv => cbv
    refine callF_frame (awake26_lx o ho) [(0, 0)] rfl (by simp [hmapOk, nget, hget, renB, okB]) rfl rfl (fun r h' n' ⟨e1, e2, e3⟩ => ?_)
    subst e1 e2 e3
    conv => cbv
    refine callF_lendF (visible_lx E F hF j M hM hj hE (by omega) o ho) [(0, 0)] rfl (by simp [fixOn, hget]) (by simp [allFix, isFix, nget]) (by simp [lends, lendV, hget, I.val, pvle]) (fun r h' n' ⟨j, M, e1, e2, e3, hM, _⟩ => by subst e1 e2 hM; exact ⟨trivial, flat1 (evs_flat _)⟩) (fun r h' n' ⟨j9, M9, e1, e2, e3, hM9, hj9⟩ => ?_)
    subst e1 e2 e3
    conv => cbv
    refine callF_lend (plainEv_lx F F j9 w M9 W hj9 hw hM9 (pre_of hW) (by omega)) (by simp [lends, lendV, hget, I.val, pvle]) (fun r h' n' ⟨⟨b, e1, _⟩, e2, e3⟩ => by subst e1 e2; exact ⟨trivial, trivial⟩) (fun r h' n' ⟨⟨b, e1, hb9⟩, e2, e3⟩ => ?_)
    subst e1 e2 e3
    obtain rfl : b = true := hb9.2 rfl
    conv => cbv
    refine callF_lendF (reclaimed_lx E G hG j M hM hj hE (by omega) o ho) [(0, 0)] rfl (by simp [fixOn, hget]) (by simp [allFix, isFix, nget]) (by simp [lends, lendV, hget, I.val, pvle]) (fun r h' n' ⟨j, M, e1, e2, e3, hM, _⟩ => by subst e1 e2 hM; exact ⟨trivial, flat1 (gors_flat _)⟩) (fun r h' n' ⟨j8, M8, e1, e2, e3, hM8, hj8⟩ => ?_)
    subst e1 e2 e3
    conv => cbv
    refine Br.mk (fun g9 => ?_) (fun g9 => ?_)
    case refine_2 =>
      have g9 : ¬ j8 = c := g9
      exfalso
      exact g9 (by omega)
    conv => cbv
    refine RetF.mk [.p (.bool true)] [] 1 (Re.of [] [] (by first | exact Nat.zero_le _ | exact Nat.le_refl _ | decide | (dsimp only; decide)) rfl rfl (by (try (conv => cbv)); (repeat' (first | exact trivial | rfl | exact SEq.mk rfl | (exact SEq.mk (by first | assumption | (symm; assumption))) | (simp only [I.val]; done) | (simp only [I.val]; omega) | omega | assumption | (refine And.intro ?_ ?_) | exact Or.inl rfl | exact Or.inr (by assumption) | exact List.Mem.head _ | exact List.Mem.tail _ (List.Mem.head _) | exact ⟨_, rfl⟩ | exact ⟨_, rfl, Or.inl rfl⟩ | (refine ⟨_, rfl, Or.inr ?_⟩; (try (conv => cbv))) | (simp only [I.val] at *; first | omega | (subst_vars; rfl) | simp_all) | (refine Or.inr ?_; (try (conv => cbv)))))) (by (try (conv => cbv)); (repeat' (first | exact trivial | rfl | exact SEq.mk rfl | (exact SEq.mk (by first | assumption | (symm; assumption))) | (simp only [I.val]; done) | (simp only [I.val]; omega) | omega | assumption | (refine And.intro ?_ ?_) | exact Or.inl rfl | exact Or.inr (by assumption) | exact List.Mem.head _ | exact List.Mem.tail _ (List.Mem.head _) | exact ⟨_, rfl⟩ | exact ⟨_, rfl, Or.inl rfl⟩ | (refine ⟨_, rfl, Or.inr ?_⟩; (try (conv => cbv))) | (simp only [I.val] at *; first | omega | (subst_vars; rfl) | simp_all) | (refine Or.inr ?_; (try (conv => cbv))))))) rfl rfl
end Go.Proofs.YtongaoioaafjnaaDoor
