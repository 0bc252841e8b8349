/-
  What a script of a statement's may be.
-/
import Derived.Test.YtongaoioaafjnaaScT
namespace Go.Proofs.Ytongaoioaafjnaa
open Go Go.LX
set_option maxRecDepth 100000
set_option linter.unusedVariables false

/-- An entry that bytes can tell. -/
def ValE (e : E3) : Prop := (e.1 = 1 ∧ 0 ≤ e.2.1 ∧ e.2.1 < 16 ∧ 0 ≤ e.2.2 ∧ e.2.2 < 16) ∨ (e.1 = 2 ∧ 0 ≤ e.2.1 ∧ e.2.1 < 32 ∧ e.2.2 = 0) ∨ (e.1 = 3 ∧ 0 ≤ e.2.1 ∧ e.2.1 < 64 ∧ e.2.2 = 0) ∨ (e.1 = 4 ∧ e.2.1 = 0 ∧ e.2.2 = 0)
set_option maxHeartbeats 4000000 in
theorem mod_lx (v n : Int) (h0 : 0 < n) (h1 : n ≤ 9223372036854775807) :
    CallF (fun _ => Try.prog) 34 [.p (.int .i64 (.sym v)), .p (.int .i64 (.sym n))] [] 0 (fun r h n' => (∃ z : Int, r = .p (.int .i64 (.sym z)) ∧ 0 ≤ z ∧ z < n) ∧ h = [] ∧ n' = 0) := by
  refine callF_of_body tok Try.func34 (by kernel_rfl) rfl rfl rfl ?_; conv => cbv
  refine Fit.wrap fun a ha => ?_
  conv => cbv
  have ha : a = IntKind.u64.wrap v := ha
  have ha0 : 0 ≤ a := by rw [ha]; simp [IntKind.wrap, IntKind.bits, IntKind.signed]; omega
  clear ha
  refine Fit.mk (by show (0 : Int) ≤ n; omega) (by show n ≤ 18446744073709551615; omega) ?_
  intro n1 hn1
  have hn1 : n1 = n := hn1
  subst hn1
  conv => cbv
  refine Need.mk (by show n1 ≠ 0; omega) ?_
  conv => cbv
  refine Sum.mk fun z hz => ?_
  have hz : z = a.tmod n1 := hz
  have hz1 : 0 ≤ z := by rw [hz]; exact Int.tmod_nonneg _ ha0
  have hz2 : z < n1 := by rw [hz]; exact Int.tmod_lt_of_pos _ h0
  clear hz
  conv => cbv
  refine Fit.mk (by show (-9223372036854775808 : Int) ≤ z; omega) (by show z ≤ 9223372036854775807; omega) ?_
  intro z1 hz1
  have hz1 : z1 = z := hz1
  subst hz1
  conv => cbv
  refine RetF.mk [.p (.int .i64 (.sym z1))] [] 0 (Re.of [] [] (by first | exact Nat.zero_le _ | exact Nat.le_refl _ | decide) rfl rfl (by (try (conv => cbv)); (repeat' (first | exact trivial | rfl | exact SEq.mk rfl | (exact SEq.mk (by first | assumption | (symm; assumption))) | (simp only [I.val]; done) | (simp only [I.val]; omega) | omega | assumption | (refine And.intro ?_ ?_) | exact Or.inl rfl | exact Or.inr (by assumption) | exact List.Mem.head _ | exact List.Mem.tail _ (List.Mem.head _) | exact ⟨_, rfl⟩ | exact ⟨_, rfl, Or.inl rfl⟩ | (refine ⟨_, rfl, Or.inr ?_⟩; (try (conv => cbv))) | (simp only [I.val] at *; first | omega | (subst_vars; rfl) | simp_all)))) (by (try (conv => cbv)); (repeat' (first | exact trivial | rfl | exact SEq.mk rfl | (exact SEq.mk (by first | assumption | (symm; assumption))) | (simp only [I.val]; done) | (simp only [I.val]; omega) | omega | assumption | (refine And.intro ?_ ?_) | exact Or.inl rfl | exact Or.inr (by assumption) | exact List.Mem.head _ | exact List.Mem.tail _ (List.Mem.head _) | exact ⟨_, rfl⟩ | exact ⟨_, rfl, Or.inl rfl⟩ | (refine ⟨_, rfl, Or.inr ?_⟩; (try (conv => cbv))) | (simp only [I.val] at *; first | omega | (subst_vars; rfl) | simp_all))))) rfl ⟨⟨z1, rfl, by omega, hz2⟩, rfl, rfl⟩
set_option maxHeartbeats 4000000 in
theorem playScript_own (A : List E3) (m n : Int) (la : List PV) (hm : m = A.length) (ha : la = ents A) (hA : (A.length : Int) < 400000) (hn : n = 300) :
    CallF (fun _ => Try.prog) 21 [.p (.vsl (.sym m) true la), .p (.int .i64 (.sym n))] [] 0 (fun r h n' => ∃ (k : Int) (l : List PV) (M : List E3), r = .sl 0 38 3 (.lit 0) (.sym k) ∧ h = [(0, .pure true l)] ∧ n' = 1 ∧ k = M.length ∧ l = ents M ∧ M.length ≤ 300 ∧ ∀ e ∈ M, ValE e) := by
  refine callF_of_body tok Try.func21 (by kernel_rfl) rfl rfl rfl ?_; conv => cbv
  refine LoopF.mk (fun k s => ∃ (i j : Int) (L : List PV) (M : List E3), s = ⟨.p (.vsl (.sym m) true la) :: .p (.int .i64 (.sym n)) :: .undef :: .undef :: .undef :: .sl 0 38 3 (.lit 0) (.sym j) :: .p (.int .i64 (.sym i)) :: undefs 62, [(0, .pure true L)], 1⟩ ∧ 0 ≤ i ∧ i ≤ m ∧ i ≤ n ∧ j = i ∧ j = M.length ∧ L = ents M ∧ (∀ e ∈ M, ValE e) ∧ k = (n - i).toNat) 300 _
    (Re.of [] [0] (by first | exact Nat.zero_le _ | exact Nat.le_refl _ | decide) rfl rfl (by (try (conv => cbv)); (repeat' (first | exact trivial | rfl | exact SEq.mk rfl | (exact SEq.mk (by first | assumption | (symm; assumption))) | (simp only [I.val]; done) | (simp only [I.val]; omega) | omega | assumption | (refine And.intro ?_ ?_) | exact Or.inl rfl | exact Or.inr (by assumption) | exact List.Mem.head _ | exact List.Mem.tail _ (List.Mem.head _) | exact ⟨_, rfl⟩ | exact ⟨_, rfl, Or.inl rfl⟩ | (refine ⟨_, rfl, Or.inr ?_⟩; (try (conv => cbv))) | (simp only [I.val] at *; first | omega | (subst_vars; rfl) | simp_all)))) (by (try (conv => cbv)); (repeat' (first | exact trivial | rfl | exact SEq.mk rfl | (exact SEq.mk (by first | assumption | (symm; assumption))) | (simp only [I.val]; done) | (simp only [I.val]; omega) | omega | assumption | (refine And.intro ?_ ?_) | exact Or.inl rfl | exact Or.inr (by assumption) | exact List.Mem.head _ | exact List.Mem.tail _ (List.Mem.head _) | exact ⟨_, rfl⟩ | exact ⟨_, rfl, Or.inl rfl⟩ | (refine ⟨_, rfl, Or.inr ?_⟩; (try (conv => cbv))) | (simp only [I.val] at *; first | omega | (subst_vars; rfl) | simp_all))))) ⟨0, 0, [], [], rfl, by omega, by omega, by omega, rfl, rfl, rfl, by simp, by omega⟩ ?_
  rintro k s ⟨i, j, L, M, rfl, hi0, him, hin, hji, hj, hL, hM, hk⟩
  conv => cbv
  refine Br.mk (fun e1 => ?_) (fun e1 => ?_)
  · simp only [I.val] at e1
    conv => cbv
    refine Br.mk (fun e2 => ?_) (fun e2 => ?_)
    · simp only [I.val] at e2
      obtain ⟨⟨k1, x1, d1⟩, hea⟩ : ∃ e, A[i.toNat]? = some e := ⟨_, List.getElem?_eq_getElem (by omega)⟩
      obtain ⟨a1, a2, a3⟩ := ents_get A i.toNat _ hea
      dsimp only at a1 a2 a3
      rw [← ha] at a1 a2 a3
      obtain ⟨k', rfl⟩ : ∃ k', k = k' + 1 := ⟨k - 1, by omega⟩
      conv => cbv
      refine Need.mk ⟨by simp only [I.val]; omega, by simp only [I.val]; omega⟩ ?_
      conv => cbv
      refine Sum.mk fun z hz => ?_
      have hz2 : z = 3 * i := by have : z = i * 3 := hz; omega
      clear hz
      conv => cbv
      refine Cell.at (z + 0) _ a1 (by simp [I.val]) (by omega) ?_
      conv => cbv
      refine Fit.wrap fun w hw => ?_
      clear hw
      conv => cbv
      refine callF_val (mod_lx w 4 (by omega) (by omega)) (by simp [ales, ale, renVs, renV, pvle, I.val]) rfl (fun r ⟨z, hr, _⟩ => by subst hr; rfl) (fun r ⟨q, hr, hq0, hq1⟩ => ?_)
      subst hr
      conv => cbv
      refine Fit.mk (by show (-9223372036854775808 : Int) ≤ 1 + q; omega) (by show 1 + q ≤ 9223372036854775807; omega) ?_
      intro K hK
      have hK : K = 1 + q := hK
      conv => cbv
      refine Br.mk (fun f1 => ?_) (fun f1 => ?_)
      · have f1 : K = 1 := f1
        conv => cbv
        refine drawn_sound tok (by kernel_rfl) [(5, [10, 9, 8, 7, 6]), (11, [12]), (13, []), (15, [])] [0, 1, 2, 3, 4, 6, 7, 8, 9, 10, 5, 12, 11, 13, 14, 15] (by kernel_rfl) ?_; conv => cbv
        refine Need.mk ⟨by simp only [I.val]; omega, by simp only [I.val]; omega⟩ ?_
        conv => cbv
        refine Sum.mk fun ya hya => ?_
        have hza : ya = 3 * i := by have : ya = i * 3 := hya; omega
        clear hya
        conv => cbv
        refine Sum.mk fun ua hua => ?_
        have hua : ua = ya + 1 := hua
        conv => cbv
        refine Cell.at (ua + 0) _ a2 (by simp [I.val]) (by omega) ?_
        conv => cbv
        refine Need.mk ⟨by simp only [I.val]; omega, by simp only [I.val]; omega⟩ ?_
        conv => cbv
        refine Sum.mk fun yc hyc => ?_
        have hzc : yc = 3 * i := by have : yc = i * 3 := hyc; omega
        clear hyc
        conv => cbv
        refine Sum.mk fun uc huc => ?_
        have huc : uc = yc + 2 := huc
        conv => cbv
        refine Cell.at (uc + 0) _ a3 (by simp [I.val]) (by omega) ?_
        conv => cbv
        refine callF_val (mod_lx x1 16 (by omega) (by omega)) (by simp [ales, ale, renVs, renV, pvle, I.val]) rfl (fun r ⟨z, hr, _⟩ => by subst hr; rfl) (fun r ⟨b, hr, hb0, hb1⟩ => ?_)
        subst hr
        conv => cbv
        refine callF_val (mod_lx d1 16 (by omega) (by omega)) (by simp [ales, ale, renVs, renV, pvle, I.val]) rfl (fun r ⟨z, hr, _⟩ => by subst hr; rfl) (fun r ⟨d, hr, hd0, hd1⟩ => ?_)
        subst hr
        conv => cbv
        refine Need.mk rfl ?_
        conv => cbv
        refine Room.new ⟨by rw [hL, ents_length]; show ((3 * M.length : Nat) : Int) = j * 3; omega, by show (j + 1) * 24 ≤ 140737488355328; omega, by show j + 1 ≤ 9223372036854775807; omega⟩ ?_
        conv => cbv
        refine Upd.mk fun L2 hL2 => ?_
        conv => cbv
        refine Sum.mk fun j2 hj2 => ?_
        have hj2 : j2 = j + 1 := hj2
        conv => cbv
        refine Fit.mk (by show (-9223372036854775808 : Int) ≤ i + 1; omega) (by show i + 1 ≤ 9223372036854775807; omega) ?_
        intro i3 hi3
        have hi3 : i3 = i + 1 := hi3
        conv => cbv
        have hval : ValE (K, b, d) := by unfold ValE; dsimp only; omega
        generalize hL3 : ents (M ++ [(K, b, d)]) = L3
        have hle : pvles L2 L3 := by rw [← hL3, hL2, hL, ents_append]; exact pvles_app (pvles_refl _) (by simp [ents, pvles, pvle, I.val])
        unfold pvles at hle
        refine Again.mk k' _ (Nat.lt_succ_self _) (Re.of [(3, 0)] [] (by first | exact Nat.zero_le _ | exact Nat.le_refl _ | decide) rfl rfl (by (try (conv => cbv)); (repeat' (first | exact trivial | rfl | exact SEq.mk rfl | (exact SEq.mk (by first | assumption | (symm; assumption))) | (simp only [I.val]; done) | (simp only [I.val]; omega) | omega | assumption | (refine And.intro ?_ ?_) | exact Or.inl rfl | exact Or.inr (by assumption) | exact List.Mem.head _ | exact List.Mem.tail _ (List.Mem.head _) | exact ⟨_, rfl⟩ | exact ⟨_, rfl, Or.inl rfl⟩ | (refine ⟨_, rfl, Or.inr ?_⟩; (try (conv => cbv))) | (simp only [I.val] at *; first | omega | (subst_vars; rfl) | simp_all)))) (by (try (conv => cbv)); (repeat' (first | exact trivial | rfl | exact SEq.mk rfl | (exact SEq.mk (by first | assumption | (symm; assumption))) | (simp only [I.val]; done) | (simp only [I.val]; omega) | omega | assumption | (refine And.intro ?_ ?_) | exact Or.inl rfl | exact Or.inr (by assumption) | exact List.Mem.head _ | exact List.Mem.tail _ (List.Mem.head _) | exact ⟨_, rfl⟩ | exact ⟨_, rfl, Or.inl rfl⟩ | (refine ⟨_, rfl, Or.inr ?_⟩; (try (conv => cbv))) | (simp only [I.val] at *; first | omega | (subst_vars; rfl) | simp_all))))) ⟨i3, j2, L3, M ++ [(K, b, d)], rfl, by omega, by omega, by omega, by omega, by simp; omega, hL3.symm, fun e he => ?_, by omega⟩
        rcases List.mem_append.1 he with h | h
        · exact hM e h
        · rw [List.mem_singleton.1 h]; exact hval
      have f1 : ¬ K = 1 := f1
      conv => cbv
      refine Br.mk (fun f2 => ?_) (fun f2 => ?_)
      · have f2 : K = 2 := f2
        conv => cbv
        refine Need.mk ⟨by simp only [I.val]; omega, by simp only [I.val]; omega⟩ ?_
        conv => cbv
        refine Sum.mk fun ya hya => ?_
        have hza : ya = 3 * i := by have : ya = i * 3 := hya; omega
        clear hya
        conv => cbv
        refine Sum.mk fun ua hua => ?_
        have hua : ua = ya + 1 := hua
        conv => cbv
        refine Cell.at (ua + 0) _ a2 (by simp [I.val]) (by omega) ?_
        conv => cbv
        refine callF_val (mod_lx x1 32 (by omega) (by omega)) (by simp [ales, ale, renVs, renV, pvle, I.val]) rfl (fun r ⟨z, hr, _⟩ => by subst hr; rfl) (fun r ⟨b, hr, hb0, hb1⟩ => ?_)
        subst hr
        conv => cbv
        refine Need.mk rfl ?_
        conv => cbv
        refine Room.new ⟨by rw [hL, ents_length]; show ((3 * M.length : Nat) : Int) = j * 3; omega, by show (j + 1) * 24 ≤ 140737488355328; omega, by show j + 1 ≤ 9223372036854775807; omega⟩ ?_
        conv => cbv
        refine Upd.mk fun L2 hL2 => ?_
        conv => cbv
        refine Sum.mk fun j2 hj2 => ?_
        have hj2 : j2 = j + 1 := hj2
        conv => cbv
        refine Fit.mk (by show (-9223372036854775808 : Int) ≤ i + 1; omega) (by show i + 1 ≤ 9223372036854775807; omega) ?_
        intro i3 hi3
        have hi3 : i3 = i + 1 := hi3
        conv => cbv
        have hval : ValE (K, b, 0) := by unfold ValE; dsimp only; omega
        generalize hL3 : ents (M ++ [(K, b, 0)]) = L3
        have hle : pvles L2 L3 := by rw [← hL3, hL2, hL, ents_append]; exact pvles_app (pvles_refl _) (by simp [ents, pvles, pvle, I.val])
        unfold pvles at hle
        refine Again.mk k' _ (Nat.lt_succ_self _) (Re.of [(3, 0)] [] (by first | exact Nat.zero_le _ | exact Nat.le_refl _ | decide) rfl rfl (by (try (conv => cbv)); (repeat' (first | exact trivial | rfl | exact SEq.mk rfl | (exact SEq.mk (by first | assumption | (symm; assumption))) | (simp only [I.val]; done) | (simp only [I.val]; omega) | omega | assumption | (refine And.intro ?_ ?_) | exact Or.inl rfl | exact Or.inr (by assumption) | exact List.Mem.head _ | exact List.Mem.tail _ (List.Mem.head _) | exact ⟨_, rfl⟩ | exact ⟨_, rfl, Or.inl rfl⟩ | (refine ⟨_, rfl, Or.inr ?_⟩; (try (conv => cbv))) | (simp only [I.val] at *; first | omega | (subst_vars; rfl) | simp_all)))) (by (try (conv => cbv)); (repeat' (first | exact trivial | rfl | exact SEq.mk rfl | (exact SEq.mk (by first | assumption | (symm; assumption))) | (simp only [I.val]; done) | (simp only [I.val]; omega) | omega | assumption | (refine And.intro ?_ ?_) | exact Or.inl rfl | exact Or.inr (by assumption) | exact List.Mem.head _ | exact List.Mem.tail _ (List.Mem.head _) | exact ⟨_, rfl⟩ | exact ⟨_, rfl, Or.inl rfl⟩ | (refine ⟨_, rfl, Or.inr ?_⟩; (try (conv => cbv))) | (simp only [I.val] at *; first | omega | (subst_vars; rfl) | simp_all))))) ⟨i3, j2, L3, M ++ [(K, b, 0)], rfl, by omega, by omega, by omega, by omega, by simp; omega, hL3.symm, fun e he => ?_, by omega⟩
        rcases List.mem_append.1 he with h | h
        · exact hM e h
        · rw [List.mem_singleton.1 h]; exact hval
      have f2 : ¬ K = 2 := f2
      conv => cbv
      refine Br.mk (fun f3 => ?_) (fun f3 => ?_)
      · have f3 : K = 3 := f3
        conv => cbv
        refine Need.mk ⟨by simp only [I.val]; omega, by simp only [I.val]; omega⟩ ?_
        conv => cbv
        refine Sum.mk fun ya hya => ?_
        have hza : ya = 3 * i := by have : ya = i * 3 := hya; omega
        clear hya
        conv => cbv
        refine Sum.mk fun ua hua => ?_
        have hua : ua = ya + 1 := hua
        conv => cbv
        refine Cell.at (ua + 0) _ a2 (by simp [I.val]) (by omega) ?_
        conv => cbv
        refine callF_val (mod_lx x1 64 (by omega) (by omega)) (by simp [ales, ale, renVs, renV, pvle, I.val]) rfl (fun r ⟨z, hr, _⟩ => by subst hr; rfl) (fun r ⟨b, hr, hb0, hb1⟩ => ?_)
        subst hr
        conv => cbv
        refine Need.mk rfl ?_
        conv => cbv
        refine Room.new ⟨by rw [hL, ents_length]; show ((3 * M.length : Nat) : Int) = j * 3; omega, by show (j + 1) * 24 ≤ 140737488355328; omega, by show j + 1 ≤ 9223372036854775807; omega⟩ ?_
        conv => cbv
        refine Upd.mk fun L2 hL2 => ?_
        conv => cbv
        refine Sum.mk fun j2 hj2 => ?_
        have hj2 : j2 = j + 1 := hj2
        conv => cbv
        refine Fit.mk (by show (-9223372036854775808 : Int) ≤ i + 1; omega) (by show i + 1 ≤ 9223372036854775807; omega) ?_
        intro i3 hi3
        have hi3 : i3 = i + 1 := hi3
        conv => cbv
        have hval : ValE (K, b, 0) := by unfold ValE; dsimp only; omega
        generalize hL3 : ents (M ++ [(K, b, 0)]) = L3
        have hle : pvles L2 L3 := by rw [← hL3, hL2, hL, ents_append]; exact pvles_app (pvles_refl _) (by simp [ents, pvles, pvle, I.val])
        unfold pvles at hle
        refine Again.mk k' _ (Nat.lt_succ_self _) (Re.of [(3, 0)] [] (by first | exact Nat.zero_le _ | exact Nat.le_refl _ | decide) rfl rfl (by (try (conv => cbv)); (repeat' (first | exact trivial | rfl | exact SEq.mk rfl | (exact SEq.mk (by first | assumption | (symm; assumption))) | (simp only [I.val]; done) | (simp only [I.val]; omega) | omega | assumption | (refine And.intro ?_ ?_) | exact Or.inl rfl | exact Or.inr (by assumption) | exact List.Mem.head _ | exact List.Mem.tail _ (List.Mem.head _) | exact ⟨_, rfl⟩ | exact ⟨_, rfl, Or.inl rfl⟩ | (refine ⟨_, rfl, Or.inr ?_⟩; (try (conv => cbv))) | (simp only [I.val] at *; first | omega | (subst_vars; rfl) | simp_all)))) (by (try (conv => cbv)); (repeat' (first | exact trivial | rfl | exact SEq.mk rfl | (exact SEq.mk (by first | assumption | (symm; assumption))) | (simp only [I.val]; done) | (simp only [I.val]; omega) | omega | assumption | (refine And.intro ?_ ?_) | exact Or.inl rfl | exact Or.inr (by assumption) | exact List.Mem.head _ | exact List.Mem.tail _ (List.Mem.head _) | exact ⟨_, rfl⟩ | exact ⟨_, rfl, Or.inl rfl⟩ | (refine ⟨_, rfl, Or.inr ?_⟩; (try (conv => cbv))) | (simp only [I.val] at *; first | omega | (subst_vars; rfl) | simp_all))))) ⟨i3, j2, L3, M ++ [(K, b, 0)], rfl, by omega, by omega, by omega, by omega, by simp; omega, hL3.symm, fun e he => ?_, by omega⟩
        rcases List.mem_append.1 he with h | h
        · exact hM e h
        · rw [List.mem_singleton.1 h]; exact hval
      have f3 : ¬ K = 3 := f3
      conv => cbv
      refine Need.mk rfl ?_
      conv => cbv
      refine Room.new ⟨by rw [hL, ents_length]; show ((3 * M.length : Nat) : Int) = j * 3; omega, by show (j + 1) * 24 ≤ 140737488355328; omega, by show j + 1 ≤ 9223372036854775807; omega⟩ ?_
      conv => cbv
      refine Upd.mk fun L2 hL2 => ?_
      conv => cbv
      refine Sum.mk fun j2 hj2 => ?_
      have hj2 : j2 = j + 1 := hj2
      conv => cbv
      refine Fit.mk (by show (-9223372036854775808 : Int) ≤ i + 1; omega) (by show i + 1 ≤ 9223372036854775807; omega) ?_
      intro i3 hi3
      have hi3 : i3 = i + 1 := hi3
      conv => cbv
      have hval : ValE (K, 0, 0) := by unfold ValE; dsimp only; omega
      generalize hL3 : ents (M ++ [(K, 0, 0)]) = L3
      have hle : pvles L2 L3 := by rw [← hL3, hL2, hL, ents_append]; exact pvles_app (pvles_refl _) (by simp [ents, pvles, pvle, I.val])
      unfold pvles at hle
      refine Again.mk k' _ (Nat.lt_succ_self _) (Re.of [(3, 0)] [] (by first | exact Nat.zero_le _ | exact Nat.le_refl _ | decide) rfl rfl (by (try (conv => cbv)); (repeat' (first | exact trivial | rfl | exact SEq.mk rfl | (exact SEq.mk (by first | assumption | (symm; assumption))) | (simp only [I.val]; done) | (simp only [I.val]; omega) | omega | assumption | (refine And.intro ?_ ?_) | exact Or.inl rfl | exact Or.inr (by assumption) | exact List.Mem.head _ | exact List.Mem.tail _ (List.Mem.head _) | exact ⟨_, rfl⟩ | exact ⟨_, rfl, Or.inl rfl⟩ | (refine ⟨_, rfl, Or.inr ?_⟩; (try (conv => cbv))) | (simp only [I.val] at *; first | omega | (subst_vars; rfl) | simp_all)))) (by (try (conv => cbv)); (repeat' (first | exact trivial | rfl | exact SEq.mk rfl | (exact SEq.mk (by first | assumption | (symm; assumption))) | (simp only [I.val]; done) | (simp only [I.val]; omega) | omega | assumption | (refine And.intro ?_ ?_) | exact Or.inl rfl | exact Or.inr (by assumption) | exact List.Mem.head _ | exact List.Mem.tail _ (List.Mem.head _) | exact ⟨_, rfl⟩ | exact ⟨_, rfl, Or.inl rfl⟩ | (refine ⟨_, rfl, Or.inr ?_⟩; (try (conv => cbv))) | (simp only [I.val] at *; first | omega | (subst_vars; rfl) | simp_all))))) ⟨i3, j2, L3, M ++ [(K, 0, 0)], rfl, by omega, by omega, by omega, by omega, by simp; omega, hL3.symm, fun e he => ?_, by omega⟩
      rcases List.mem_append.1 he with h | h
      · exact hM e h
      · rw [List.mem_singleton.1 h]; exact hval
    · simp only [I.val] at e2
      conv => cbv
      refine RetF.mk [.sl 0 38 3 (.lit 0) (.sym j)] [(0, .pure true L)] 1 (Re.of [(0, 0)] [] (by first | exact Nat.zero_le _ | exact Nat.le_refl _ | decide) rfl rfl (by (try (conv => cbv)); (repeat' (first | exact trivial | rfl | exact SEq.mk rfl | (exact SEq.mk (by first | assumption | (symm; assumption))) | (simp only [I.val]; done) | (simp only [I.val]; omega) | omega | assumption | (refine And.intro ?_ ?_) | exact Or.inl rfl | exact Or.inr (by assumption) | exact List.Mem.head _ | exact List.Mem.tail _ (List.Mem.head _) | exact ⟨_, rfl⟩ | exact ⟨_, rfl, Or.inl rfl⟩ | (refine ⟨_, rfl, Or.inr ?_⟩; (try (conv => cbv))) | (simp only [I.val] at *; first | omega | (subst_vars; rfl) | simp_all)))) (by (try (conv => cbv)); (repeat' (first | exact trivial | rfl | exact SEq.mk rfl | (exact SEq.mk (by first | assumption | (symm; assumption))) | (simp only [I.val]; done) | (simp only [I.val]; omega) | omega | assumption | (refine And.intro ?_ ?_) | exact Or.inl rfl | exact Or.inr (by assumption) | exact List.Mem.head _ | exact List.Mem.tail _ (List.Mem.head _) | exact ⟨_, rfl⟩ | exact ⟨_, rfl, Or.inl rfl⟩ | (refine ⟨_, rfl, Or.inr ?_⟩; (try (conv => cbv))) | (simp only [I.val] at *; first | omega | (subst_vars; rfl) | simp_all))))) rfl ⟨j, L, M, rfl, rfl, rfl, hj, hL, by omega, hM⟩
  · simp only [I.val] at e1
    conv => cbv
    refine RetF.mk [.sl 0 38 3 (.lit 0) (.sym j)] [(0, .pure true L)] 1 (Re.of [(0, 0)] [] (by first | exact Nat.zero_le _ | exact Nat.le_refl _ | decide) rfl rfl (by (try (conv => cbv)); (repeat' (first | exact trivial | rfl | exact SEq.mk rfl | (exact SEq.mk (by first | assumption | (symm; assumption))) | (simp only [I.val]; done) | (simp only [I.val]; omega) | omega | assumption | (refine And.intro ?_ ?_) | exact Or.inl rfl | exact Or.inr (by assumption) | exact List.Mem.head _ | exact List.Mem.tail _ (List.Mem.head _) | exact ⟨_, rfl⟩ | exact ⟨_, rfl, Or.inl rfl⟩ | (refine ⟨_, rfl, Or.inr ?_⟩; (try (conv => cbv))) | (simp only [I.val] at *; first | omega | (subst_vars; rfl) | simp_all)))) (by (try (conv => cbv)); (repeat' (first | exact trivial | rfl | exact SEq.mk rfl | (exact SEq.mk (by first | assumption | (symm; assumption))) | (simp only [I.val]; done) | (simp only [I.val]; omega) | omega | assumption | (refine And.intro ?_ ?_) | exact Or.inl rfl | exact Or.inr (by assumption) | exact List.Mem.head _ | exact List.Mem.tail _ (List.Mem.head _) | exact ⟨_, rfl⟩ | exact ⟨_, rfl, Or.inl rfl⟩ | (refine ⟨_, rfl, Or.inr ?_⟩; (try (conv => cbv))) | (simp only [I.val] at *; first | omega | (subst_vars; rfl) | simp_all))))) rfl ⟨j, L, M, rfl, rfl, rfl, hj, hL, by omega, hM⟩
end Go.Proofs.Ytongaoioaafjnaa
