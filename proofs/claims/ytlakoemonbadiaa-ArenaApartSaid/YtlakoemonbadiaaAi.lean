/-
  Layer 7: ArenaApart.
-/
import Derived.Test.YtlakoemonbadiaaAg
namespace Go.Proofs.Ytlakoemonbadiaa
open Go Go.LX
set_option maxRecDepth 100000
set_option linter.unusedVariables false
set_option linter.unusedSimpArgs false

theorem in_lx (l : List Int) (x m : Int) (ZL : List PV) (b : Bool) (hm : m = l.length) (hZ : ZL = ipv l) (hml : m ≤ 9223372036854775806) (hb : b = decide (x ∈ l)) : CallF (fun _ => Try.prog) 28 [.p (.vsl (.sym m) true ZL), .p (.int .i64 (.sym x))] [] 0 (fun r h n => r = .p (.bool b) ∧ h = [] ∧ n = 0) := by
  refine callF_of_body tok Try.func28 (by kernel_rfl) rfl rfl rfl ?_; conv => cbv
  refine LoopF.mk (fun k s => ∃ i : Int, s = ⟨.p (.vsl (.sym m) true ZL) :: .p (.int .i64 (.sym x)) :: (undefs 3 ++ .p (.int .i64 (.sym i)) :: undefs 12), [], 0⟩ ∧ 0 ≤ i ∧ i ≤ m ∧ x ∉ l.take i.toNat ∧ k = (m - i).toNat) m.toNat _
    (Re.of [] [] (by first | exact Nat.zero_le _ | exact Nat.le_refl _ | decide | (dsimp only; decide)) rfl rfl (by (try (conv => cbv)); (repeat' (first | exact trivial | rfl | exact SEq.mk rfl | (exact SEq.mk (by first | assumption | (symm; assumption))) | (simp only [I.val]; done) | (simp only [I.val]; omega) | omega | assumption | (refine And.intro ?_ ?_) | exact Or.inl rfl | exact Or.inr (by assumption) | exact List.Mem.head _ | exact List.Mem.tail _ (List.Mem.head _) | exact ⟨_, rfl⟩ | exact ⟨_, rfl, Or.inl rfl⟩ | (refine ⟨_, rfl, Or.inr ?_⟩; (try (conv => cbv))) | (simp only [I.val] at *; first | omega | (subst_vars; rfl) | simp_all) | (refine Or.inr ?_; (try (conv => cbv)))))) (by (try (conv => cbv)); (repeat' (first | exact trivial | rfl | exact SEq.mk rfl | (exact SEq.mk (by first | assumption | (symm; assumption))) | (simp only [I.val]; done) | (simp only [I.val]; omega) | omega | assumption | (refine And.intro ?_ ?_) | exact Or.inl rfl | exact Or.inr (by assumption) | exact List.Mem.head _ | exact List.Mem.tail _ (List.Mem.head _) | exact ⟨_, rfl⟩ | exact ⟨_, rfl, Or.inl rfl⟩ | (refine ⟨_, rfl, Or.inr ?_⟩; (try (conv => cbv))) | (simp only [I.val] at *; first | omega | (subst_vars; rfl) | simp_all) | (refine Or.inr ?_; (try (conv => cbv))))))) ⟨0, rfl, by omega, by omega, by simp, by omega⟩ ?_
  rintro k s ⟨i, rfl, hi0, hi1, hnot, hk⟩
  conv => cbv
  refine Br.mk (fun gi => ?_) (fun gi => ?_)
  · have gi : i < m := gi
    obtain ⟨k', rfl⟩ : ∃ k', k = k' + 1 := ⟨k - 1, by omega⟩
    obtain ⟨z, hz⟩ : ∃ z, l[i.toNat]? = some z := ⟨_, List.getElem?_eq_getElem (by omega)⟩
    have hc : ZL[i.toNat]? = some (.int .i64 (.sym z)) := by rw [hZ]; exact ipv_get hz
    conv => cbv
    refine Need.mk ⟨hi0, by show i < m; omega⟩ ?_
    conv => cbv
    refine Cell.at i _ hc (by simp [I.val]) rfl ?_
    conv => cbv
    refine Br.mk (fun ge => ?_) (fun ge => ?_)
    · have ge : z = x := ge
      have hbt : b = true := by rw [hb]; exact decide_eq_true (by rw [← ge]; exact List.mem_of_getElem? hz)
      subst hbt
      conv => cbv
      refine RetF.mk [.p (.bool true)] [] 0 (Re.of [] [] (by first | exact Nat.zero_le _ | exact Nat.le_refl _ | decide | (dsimp only; decide)) rfl rfl (by (try (conv => cbv)); (repeat' (first | exact trivial | rfl | exact SEq.mk rfl | (exact SEq.mk (by first | assumption | (symm; assumption))) | (simp only [I.val]; done) | (simp only [I.val]; omega) | omega | assumption | (refine And.intro ?_ ?_) | exact Or.inl rfl | exact Or.inr (by assumption) | exact List.Mem.head _ | exact List.Mem.tail _ (List.Mem.head _) | exact ⟨_, rfl⟩ | exact ⟨_, rfl, Or.inl rfl⟩ | (refine ⟨_, rfl, Or.inr ?_⟩; (try (conv => cbv))) | (simp only [I.val] at *; first | omega | (subst_vars; rfl) | simp_all) | (refine Or.inr ?_; (try (conv => cbv)))))) (by (try (conv => cbv)); (repeat' (first | exact trivial | rfl | exact SEq.mk rfl | (exact SEq.mk (by first | assumption | (symm; assumption))) | (simp only [I.val]; done) | (simp only [I.val]; omega) | omega | assumption | (refine And.intro ?_ ?_) | exact Or.inl rfl | exact Or.inr (by assumption) | exact List.Mem.head _ | exact List.Mem.tail _ (List.Mem.head _) | exact ⟨_, rfl⟩ | exact ⟨_, rfl, Or.inl rfl⟩ | (refine ⟨_, rfl, Or.inr ?_⟩; (try (conv => cbv))) | (simp only [I.val] at *; first | omega | (subst_vars; rfl) | simp_all) | (refine Or.inr ?_; (try (conv => cbv))))))) rfl ⟨rfl, rfl, rfl⟩
    · have ge : ¬ z = x := ge
      conv => cbv
      refine Fit.mk (by show (-9223372036854775808 : Int) ≤ i + 1; omega) (by show i + 1 ≤ 9223372036854775807; omega) fun i2 hi2 => ?_
      have hi2 : i2 = i + 1 := hi2
      have hn2 : x ∉ l.take i2.toNat := by
        rw [show i2.toNat = i.toNat + 1 by omega, List.take_add_one, hz]
        intro h
        rcases List.mem_append.1 h with h | h
        · exact hnot h
        · exact ge (by simp at h; exact h.symm)
      conv => cbv
      refine Again.mk k' _ (Nat.lt_succ_self _) (Re.of [] [] (by first | exact Nat.zero_le _ | exact Nat.le_refl _ | decide | (dsimp only; decide)) rfl rfl (by (try (conv => cbv)); (repeat' (first | exact trivial | rfl | exact SEq.mk rfl | (exact SEq.mk (by first | assumption | (symm; assumption))) | (simp only [I.val]; done) | (simp only [I.val]; omega) | omega | assumption | (refine And.intro ?_ ?_) | exact Or.inl rfl | exact Or.inr (by assumption) | exact List.Mem.head _ | exact List.Mem.tail _ (List.Mem.head _) | exact ⟨_, rfl⟩ | exact ⟨_, rfl, Or.inl rfl⟩ | (refine ⟨_, rfl, Or.inr ?_⟩; (try (conv => cbv))) | (simp only [I.val] at *; first | omega | (subst_vars; rfl) | simp_all) | (refine Or.inr ?_; (try (conv => cbv)))))) (by (try (conv => cbv)); (repeat' (first | exact trivial | rfl | exact SEq.mk rfl | (exact SEq.mk (by first | assumption | (symm; assumption))) | (simp only [I.val]; done) | (simp only [I.val]; omega) | omega | assumption | (refine And.intro ?_ ?_) | exact Or.inl rfl | exact Or.inr (by assumption) | exact List.Mem.head _ | exact List.Mem.tail _ (List.Mem.head _) | exact ⟨_, rfl⟩ | exact ⟨_, rfl, Or.inl rfl⟩ | (refine ⟨_, rfl, Or.inr ?_⟩; (try (conv => cbv))) | (simp only [I.val] at *; first | omega | (subst_vars; rfl) | simp_all) | (refine Or.inr ?_; (try (conv => cbv))))))) ⟨i2, rfl, by omega, by omega, hn2, by omega⟩
  · have gi : ¬ i < m := gi
    have hbt : b = false := by
      rw [hb]
      rw [List.take_of_length_le (by omega)] at hnot
      exact decide_eq_false hnot
    subst hbt
    conv => cbv
    refine RetF.mk [.p (.bool false)] [] 0 (Re.of [] [] (by first | exact Nat.zero_le _ | exact Nat.le_refl _ | decide | (dsimp only; decide)) rfl rfl (by (try (conv => cbv)); (repeat' (first | exact trivial | rfl | exact SEq.mk rfl | (exact SEq.mk (by first | assumption | (symm; assumption))) | (simp only [I.val]; done) | (simp only [I.val]; omega) | omega | assumption | (refine And.intro ?_ ?_) | exact Or.inl rfl | exact Or.inr (by assumption) | exact List.Mem.head _ | exact List.Mem.tail _ (List.Mem.head _) | exact ⟨_, rfl⟩ | exact ⟨_, rfl, Or.inl rfl⟩ | (refine ⟨_, rfl, Or.inr ?_⟩; (try (conv => cbv))) | (simp only [I.val] at *; first | omega | (subst_vars; rfl) | simp_all) | (refine Or.inr ?_; (try (conv => cbv)))))) (by (try (conv => cbv)); (repeat' (first | exact trivial | rfl | exact SEq.mk rfl | (exact SEq.mk (by first | assumption | (symm; assumption))) | (simp only [I.val]; done) | (simp only [I.val]; omega) | omega | assumption | (refine And.intro ?_ ?_) | exact Or.inl rfl | exact Or.inr (by assumption) | exact List.Mem.head _ | exact List.Mem.tail _ (List.Mem.head _) | exact ⟨_, rfl⟩ | exact ⟨_, rfl, Or.inl rfl⟩ | (refine ⟨_, rfl, Or.inr ?_⟩; (try (conv => cbv))) | (simp only [I.val] at *; first | omega | (subst_vars; rfl) | simp_all) | (refine Or.inr ?_; (try (conv => cbv))))))) rfl ⟨rfl, rfl, rfl⟩
/-- An arena, and all its objects: where they are, and how long. -/
structure Apart (R : List Rw) (ws ats ns : List Int) : Prop where
  ok : AOk R ws
  len : R.length = 40
  cnt : objCount R = ats.length
  same : ns.length = ats.length
  few : ats.length ≤ 20
  kept : ∀ (i : Nat) (x k : Int), ats[i]? = some x → ns[i]? = some k → ∃ d, Kept R ws x d k
  all : ∀ b, IsObj R b → b ∈ ats
  dist : ∀ (i j : Nat) (x : Int), ats[i]? = some x → ats[j]? = some x → i = j
/-- What the objects from one on say, and the words of the last one as far as a place. -/
def Says (ws ats ns : List Int) (lo : Nat) : Prop := ∀ (i : Nat) (x k : Int), lo ≤ i → ats[i]? = some x → ns[i]? = some k → ∀ m : Int, 0 ≤ m → m < k → ws[(x + 1 + m).toNat]? = some (100 * i + m)
theorem Apart.room {R : List Rw} {ws ats ns : List Int} (h : Apart R ws ats ns) : objCount R < R.length := by
  have := h.cnt; have := h.len; have := h.few; omega
theorem snoc_get {α : Type} {l : List α} {x y : α} {i : Nat} (h : (l ++ [x])[i]? = some y) : (i < l.length ∧ l[i]? = some y) ∨ (i = l.length ∧ y = x) := by
  by_cases hi : i < l.length
  · rw [List.getElem?_append_left hi] at h
    exact .inl ⟨hi, h⟩
  · rw [List.getElem?_append_right (by omega)] at h
    have h0 : i - l.length = 0 := by
      have := (List.getElem?_eq_some_iff.1 h).1
      simp at this; omega
    rw [h0] at h
    exact .inr ⟨by omega, (Option.some.inj h).symm⟩
theorem Apart.alloc {R R' : List Rw} {ws ws' ats ns : List Int} {kind n a e : Int} (h : Apart R ws ats ns) (hf : ats.length < 20) (hAl : Alloct R ws kind n a e R' ws') (he : e = 0) : Apart R' ws' (ats ++ [a]) (ns ++ [n]) ∧ a ∉ ats ∧ Kept R' ws' a kind n ∧ (∀ m, 0 ≤ m → m < n → ws'[(a + 1 + m).toNat]? = some 0) ∧ ∀ lo, Says ws ats ns lo → Says ws' ats ns lo := by
  obtain ⟨h1, h2⟩ := h.ok.alloct hAl
  obtain ⟨g1, g2, g3, g4, g5, g6, g7⟩ := alloct_ok h.ok hAl he
  have hkept : ∀ (i : Nat) (x k : Int), ats[i]? = some x → ns[i]? = some k → ∃ d, Kept R' ws' x d k := fun i x k hx hk => by
    obtain ⟨d, hd⟩ := h.kept i x k hx hk
    exact ⟨d, g5 x d k hd⟩
  have hnotin : a ∉ ats := by
    intro ha
    obtain ⟨i, hi⟩ := List.getElem?_of_mem ha
    obtain ⟨k, hk⟩ : ∃ k, ns[i]? = some k := ⟨_, List.getElem?_eq_getElem (by have := (List.getElem?_eq_some_iff.1 hi).1; have := h.same; omega)⟩
    obtain ⟨d, hd⟩ := h.kept i a k hi hk
    exact g2 hd.obj
  refine ⟨⟨h1, by rw [h2, h.len], by rw [g3, h.cnt, List.length_append]; rfl, by rw [List.length_append, List.length_append, h.same]; rfl, by rw [List.length_append]; simp; omega, ?_, ?_, ?_⟩, hnotin, g1, g4, ?_⟩
  · intro i x k hx hk
    rcases snoc_get hx with ⟨hi, hx⟩ | ⟨hi, rfl⟩
    · rcases snoc_get hk with ⟨_, hk⟩ | ⟨hi2, _⟩
      · exact hkept i x k hx hk
      · have := h.same; omega
    · rcases snoc_get hk with ⟨hi2, hk⟩ | ⟨hi2, rfl⟩
      · have := h.same; omega
      · exact ⟨_, g1⟩
  · intro b hb
    rcases g6 b hb with rfl | hb
    · simp
    · exact List.mem_append_left _ (h.all b hb)
  · intro i i' x hx hx'
    rcases snoc_get hx with ⟨hi, hx1⟩ | ⟨hi, hx1⟩
    · rcases snoc_get hx' with ⟨hi', hx2⟩ | ⟨hi', hx2⟩
      · exact h.dist i i' x hx1 hx2
      · rw [hx2] at hx1; exact absurd (List.mem_of_getElem? hx1) hnotin
    · rcases snoc_get hx' with ⟨hi', hx2⟩ | ⟨hi', _⟩
      · rw [hx1] at hx2; exact absurd (List.mem_of_getElem? hx2) hnotin
      · omega
  · intro lo hs i x k hlo hx hk m hm0 hm1
    obtain ⟨d, hd⟩ := h.kept i x k hx hk
    rw [g7 x d k m hd hm0 hm1]
    exact hs i x k hlo hx hk m hm0 hm1
theorem Apart.store {R : List Rw} {ws ats ns : List Int} {y x k d m : Int} (h : Apart R ws ats ns) (hk : Kept R ws x d k) (hm : 0 ≤ m ∧ m < k) (hy : -9223372036854775808 ≤ y ∧ y ≤ 9223372036854775807) : Apart R (ws.set (x + 1 + m).toNat y) ats ns := by
  have hb := hk.bounds h.ok
  refine ⟨h.ok.set hk hm hy, h.len, h.cnt, h.same, h.few, ?_, h.all, h.dist⟩
  intro i x' k' hx' hk'
  obtain ⟨d', hd'⟩ := h.kept i x' k' hx' hk'
  refine ⟨d', ?_⟩
  obtain ⟨w, q1, q2, q3, q4, q5, q6⟩ := hk
  obtain ⟨w', r1, r2, r3, r4, r5, r6⟩ := hd'
  have hf := r1.facts h.ok.rows
  have := within_not h.ok.rows q1 r1 (j := x + 1 + m) (by omega) (by omega)
  refine .mk d' k' w' r1 ?_ r3 r4 r5 r6
  rw [List.getElem?_set_ne (by omega)]; exact r2
theorem kept_apart {R : List Rw} {ws : List Int} (hA : AOk R ws) {x d k a d' k' m q : Int} (h : Kept R ws x d k) (h' : Kept R ws a d' k') (hne : x ≠ a) (hm : 0 ≤ m ∧ m < k) (hq : 0 ≤ q ∧ q < k') : (a + 1 + q).toNat ≠ (x + 1 + m).toNat := by
  obtain ⟨w, q1, q2, q3, q4, q5, q6⟩ := h
  obtain ⟨w', r1, r2, r3, r4, r5, r6⟩ := h'
  have f1 := q1.facts hA.rows
  have f2 := r1.facts hA.rows
  rcases q1.apart hA.rows r1 with ⟨h, _⟩ | h | h
  · exact absurd h hne
  · omega
  · omega
theorem kept_set {R : List Rw} {ws : List Int} (hA : AOk R ws) {x d k a d' k' q y : Int} (h : Kept R ws x d k) (h' : Kept R ws a d' k') (hq : 0 ≤ q ∧ q < k') : Kept R (ws.set (a + 1 + q).toNat y) x d k := by
  obtain ⟨w, q1, q2, q3, q4, q5, q6⟩ := h
  obtain ⟨w', r1, r2, r3, r4, r5, r6⟩ := h'
  have f1 := q1.facts hA.rows
  have f2 := r1.facts hA.rows
  have := within_not hA.rows r1 q1 (j := a + 1 + q) (by omega) (by omega)
  refine .mk d k w q1 ?_ q3 q4 q5 q6
  rw [List.getElem?_set_ne (by omega)]; exact q2
structure Filling (R : List Rw) (ws ats ns : List Int) (a kd sz i q : Int) : Prop where
  ap : Apart R ws (ats ++ [a]) (ns ++ [sz])
  hl : ns.length = ats.length
  no : a ∉ ats
  says : Says ws ats ns 0
  kept : Kept R ws a kd sz
  done : ∀ t, 0 ≤ t → t < q → ws[(a + 1 + t).toNat]? = some (100 * i + t)
  rest : ∀ t, 0 ≤ t → q ≤ t → t < sz → ws[(a + 1 + t).toNat]? = some 0
theorem Filling.step {R : List Rw} {ws ats ns : List Int} {a kd sz i q y : Int} (h : Filling R ws ats ns a kd sz i q) (hq : 0 ≤ q ∧ q < sz) (hy : y = 100 * i + q) (hi : 0 ≤ i ∧ i ≤ 100) : Filling R (ws.set (a + 1 + q).toNat y) ats ns a kd sz i (q + 1) := by
  have hb := h.kept.bounds h.ap.ok
  have hlen := h.ap.ok.len
  refine ⟨h.ap.store h.kept hq (by omega), h.hl, h.no, ?_, kept_set h.ap.ok h.kept h.kept hq, ?_, ?_⟩
  · intro idx x k _ hx hk m hm0 hm1
    have hil := (List.getElem?_eq_some_iff.1 hx).1
    have hil2 := (List.getElem?_eq_some_iff.1 hk).1
    obtain ⟨d, hd⟩ := h.ap.kept idx x k (by rw [List.getElem?_append_left hil]; exact hx) (by rw [List.getElem?_append_left hil2]; exact hk)
    have hne : x ≠ a := fun e => h.no (e ▸ List.mem_of_getElem? hx)
    rw [List.getElem?_set_ne (kept_apart h.ap.ok hd h.kept hne ⟨hm0, hm1⟩ hq)]
    exact h.says idx x k (Nat.zero_le _) hx hk m hm0 hm1
  · intro t ht0 ht1
    by_cases e : t = q
    · subst e
      rw [List.getElem?_set_self (by omega), hy]
    · rw [List.getElem?_set_ne (by omega)]
      exact h.done t ht0 (by omega)
  · intro t ht0 ht1 ht2
    rw [List.getElem?_set_ne (by omega)]
    exact h.rest t ht0 (by omega) ht2
theorem Filling.full {R : List Rw} {ws ats ns : List Int} {a kd sz i q : Int} (h : Filling R ws ats ns a kd sz i q) (hq : q = sz) (hi : i = ats.length) : Says ws (ats ++ [a]) (ns ++ [sz]) 0 := by
  intro idx x k _ hx hk m hm0 hm1
  rcases snoc_get hx with ⟨hil, hx⟩ | ⟨hil, rfl⟩
  · rcases snoc_get hk with ⟨_, hk⟩ | ⟨hi2, _⟩
    · exact h.says idx x k (Nat.zero_le _) hx hk m hm0 hm1
    · have := h.hl; omega
  · rcases snoc_get hk with ⟨hi2, hk⟩ | ⟨hi2, rfl⟩
    · have := h.hl; omega
    · rw [h.done m hm0 (by omega), hi, hil]
theorem Says.weak {ws ats ns : List Int} {lo lo' : Nat} (h : Says ws ats ns lo) (hl : lo ≤ lo') : Says ws ats ns lo' := fun i x k hi => h i x k (by omega)
theorem Apart.stored0 {R : List Rw} {ws ws' ats ns : List Int} {x i y e : Int} (h : Apart R ws ats ns) (hs : Says ws ats ns 1) (hx : ats[0]? = some x) (hy : -9223372036854775808 ≤ y ∧ y ≤ 9223372036854775807) (hSt : Stored R ws x i y e ws') : Apart R ws' ats ns ∧ Says ws' ats ns 1 := by
  cases hSt with
  | none _ => exact ⟨h, hs⟩
  | arg _ _ _ _ => exact ⟨h, hs⟩
  | ok d k hk hi =>
    refine ⟨h.store hk hi hy, ?_⟩
    intro idx x' k' hlo hx' hk' m hm0 hm1
    obtain ⟨d', hd'⟩ := h.kept idx x' k' hx' hk'
    have hne : x' ≠ x := by
      rintro rfl
      have := h.dist 0 idx x' hx hx'
      omega
    rw [List.getElem?_set_ne (kept_apart h.ok hd' hk hne ⟨hm0, hm1⟩ hi)]
    exact hs idx x' k' hlo hx' hk' m hm0 hm1
theorem Apart.get {R : List Rw} {ws ats ns : List Int} (h : Apart R ws ats ns) {i : Nat} (hi : i < ats.length) : ∃ x k d, ats[i]? = some x ∧ ns[i]? = some k ∧ Kept R ws x d k := by
  have hx : ats[i]? = some ats[i] := List.getElem?_eq_getElem hi
  have hk : ns[i]? = some (ns[i]'(by rw [h.same]; exact hi)) := List.getElem?_eq_getElem _
  obtain ⟨d, hd⟩ := h.kept i _ _ hx hk
  exact ⟨_, _, d, hx, hk, hd⟩
/-- What becomes of objects of which one is given back. -/
theorem Apart.free {R R' : List Rw} {ws ats ns : List Int} {x d k e : Int} (h : Apart R ws ats ns) (hk : Kept R ws x d k) (hF : Freet R x e R') : e = 0 ∧ AOk R' ws ∧ R'.length = 40 ∧ objCount R' + 1 = ats.length ∧ ∀ b ∈ ats, b ≠ x → IsObj R' b := by
  obtain ⟨h1, h2⟩ := h.ok.freet hF
  cases hF with
  | none hn => exact absurd hk.obj hn
  | ok q s e he hs hat =>
    obtain ⟨g1, g2, g3, g4⟩ := free_objs h.ok.rows he hs x hat
    refine ⟨rfl, h1, by rw [h2, h.len], by rw [g3, h.cnt], fun b hb hne => ?_⟩
    obtain ⟨i, hi⟩ := List.getElem?_of_mem hb
    obtain ⟨x', k', d', hx', _, hd'⟩ := h.get (List.getElem?_eq_some_iff.1 hi).1
    rw [hi] at hx'
    cases hx'
    obtain ⟨w, hw⟩ := isObj_iff.1 hd'.obj
    exact isObj_iff.2 ⟨w, (g4 b w).2 ⟨hw, hne⟩⟩
set_option maxHeartbeats 40000000 in
theorem arenaApart_law (ks us : List Int) (m mu gone : Int) (ZL UL : List PV) (hm : m = ks.length) (hZL : ZL = ks.map fun z => PV.int .i64 (.sym z)) (hml : m ≤ 9223372036854775807) (hkb : ∀ z ∈ ks, -9223372036854775808 ≤ z ∧ z ≤ 9223372036854775807)
    (hmu : mu = us.length) (hUL : UL = us.map fun z => PV.int .i64 (.sym z)) (hmul : mu ≤ 9223372036854775807) (hub : ∀ z ∈ us, -9223372036854775808 ≤ z ∧ z ≤ 9223372036854775807) (hgb : -9223372036854775808 ≤ gone ∧ gone ≤ 9223372036854775807) :
    CallF (fun _ => Try.prog) 4 [.p (.vsl (.sym m) true ZL), .p (.vsl (.sym mu) true UL), .p (.int .i64 (.sym gone))] [] 0 (fun r _ _ => r = .p (.bool true)) := by
  obtain ⟨Rz, hRz⟩ : ∃ Rz, Rz = List.replicate (40 : Int).toNat ((0, []) : Rw) := ⟨_, rfl⟩
  obtain ⟨wz, hwz⟩ : ∃ wz, wz = List.replicate (1280 : Int).toNat (0 : Int) := ⟨_, rfl⟩
  have hA : AOk Rz wz := by rw [hRz, hwz]; exact AOk.new 40
  have hno : ∀ a, ¬ IsObj Rz a := by rw [hRz]; exact new_none 40
  have hlz : Rz.length = 40 := by rw [hRz]; rfl
  have hcz : objCount Rz = 0 := by rw [hRz]; exact new_count 40
  obtain ⟨L0, hL0⟩ : ∃ L0, L0 = rpv Rz := ⟨_, rfl⟩
  obtain ⟨D0, hD0⟩ : ∃ D0, D0 = ipv wz := ⟨_, rfl⟩
  refine callF_of_body tok Try.func4 (by kernel_rfl) rfl rfl rfl ?_; conv => cbv
  refine CallF.le (args0 := [.p (.int .i64 (.sym 40))]) (callF_frame (newA_lx 40 1280 (by decide) (by decide) rfl L0 D0 (by rw [hL0, hRz]) (by rw [hD0, hwz])) [] rfl trivial rfl rfl (fun r h' n' ⟨e1, e2, e3⟩ => ?_)) (by simp [ales, ale, pvle, I.val])
  subst e1 e2 e3
  conv => cbv
  refine callF_frame awake07_lx [] rfl trivial rfl rfl (fun r h' n' ⟨e1, e2, e3⟩ => ?_)
  subst e1 e2 e3
  conv => cbv
  obtain ⟨gl, hg⟩ : ∃ gl : List Int → Int, ∀ l, gl l = l.length := ⟨_, fun _ => rfl⟩
  have g0 : gl [] = 0 := by rw [hg]; rfl
  have P0 : Apart Rz wz [] [] := ⟨hA, hlz, hcz, rfl, by simp, fun i x k hx => by simp at hx, fun b hb => absurd hb (hno b), fun i j x hx => by simp at hx⟩
  have S0 : Says wz [] [] 0 := fun i x k _ hx => by simp at hx
  refine LoopF.mk (fun kk s => ∃ (i j : Int) (L1 D1 O N : List PV) (R : List Rw) (ws ats ns : List Int), s = ⟨.p (.vsl (.sym m) true ZL) :: .p (.vsl (.sym mu) true UL) :: .p (.int .i64 (.sym gone)) :: (undefs 4 ++ .ptr 0 (.lit 0) :: .undef :: .sl 4 3 1 (.lit 0) (.sym j) :: .sl 5 3 1 (.lit 0) (.sym j) :: .p (.int .i64 (.sym i)) :: undefs 210), [(0, .mix [.ptr 1 (.lit 0), .sl 3 3 1 (.lit 0) (.sym 1280)]), (1, .mix [.sl 2 79 2 (.lit 0) (.sym 40)]), (2, .pure true L1), (3, .pure true D1), (4, .pure true O), (5, .pure true N)], 6⟩ ∧ Apart R ws ats ns ∧ Says ws ats ns 0 ∧ L1 = rpv R ∧ D1 = ipv ws ∧ O = ipv ats ∧ N = ipv ns ∧ j = gl ats ∧ 0 ≤ i ∧ i ≤ 20 ∧ j = i ∧ kk = (20 - i).toNat) 20 _
    (Re.of [(0, 0), (1, 1), (2, 2), (3, 3)] [4, 5] (by first | exact Nat.zero_le _ | exact Nat.le_refl _ | decide | (dsimp only; decide)) rfl rfl (by (try (conv => cbv)); (repeat' (first | exact trivial | rfl | exact SEq.mk rfl | (exact SEq.mk (by first | assumption | (symm; assumption))) | (simp only [I.val]; done) | (simp only [I.val]; omega) | omega | assumption | (refine And.intro ?_ ?_) | exact Or.inl rfl | exact Or.inr (by assumption) | exact List.Mem.head _ | exact List.Mem.tail _ (List.Mem.head _) | exact ⟨_, rfl⟩ | exact ⟨_, rfl, Or.inl rfl⟩ | (refine ⟨_, rfl, Or.inr ?_⟩; (try (conv => cbv))) | (simp only [I.val] at *; first | omega | (subst_vars; rfl) | simp_all) | (refine Or.inr ?_; (try (conv => cbv)))))) (by (try (conv => cbv)); (repeat' (first | exact trivial | rfl | exact SEq.mk rfl | (exact SEq.mk (by first | assumption | (symm; assumption))) | (simp only [I.val]; done) | (simp only [I.val]; omega) | omega | assumption | (refine And.intro ?_ ?_) | exact Or.inl rfl | exact Or.inr (by assumption) | exact List.Mem.head _ | exact List.Mem.tail _ (List.Mem.head _) | exact ⟨_, rfl⟩ | exact ⟨_, rfl, Or.inl rfl⟩ | (refine ⟨_, rfl, Or.inr ?_⟩; (try (conv => cbv))) | (simp only [I.val] at *; first | omega | (subst_vars; rfl) | simp_all) | (refine Or.inr ?_; (try (conv => cbv))))))) ⟨0, 0, L0, D0, [], [], Rz, wz, [], [], rfl, P0, S0, hL0, hD0, rfl, rfl, g0.symm, by omega, by omega, by omega, by omega⟩ ?_
  clear P0 S0 hL0 hD0
  rintro kk s ⟨i, j, L1, D1, O, N, R, ws, ats, ns, rfl, hP, hS, hL1, hD1, hO, hN, hj, hi0, hi1, hji, hk⟩
  conv => cbv
  refine Br.mk (fun gi => ?_) (fun gi => ?_)
  · have gi : i < m := gi
    conv => cbv
    refine Br.mk (fun gi2 => ?_) (fun gi2 => ?_)
    · have gi2 : i < 20 := gi2
      obtain ⟨k', rfl⟩ : ∃ k', kk = k' + 1 := ⟨kk - 1, by omega⟩
      obtain ⟨z, hz⟩ : ∃ z, ks[i.toNat]? = some z := ⟨_, List.getElem?_eq_getElem (by omega)⟩
      have hzb := hkb z (List.mem_of_getElem? hz)
      have hc : ZL[i.toNat]? = some (.int .i64 (.sym z)) := by rw [hZL, List.getElem?_map, hz]; rfl
      have hPl := hP.len
      have hn40 : (40 : Int) = R.length := by rw [hPl]; rfl
      have hr1000 : R.length ≤ 1000 := by omega
      have hal : j = ats.length := by rw [hj, hg]
      conv => cbv
      refine Need.mk ⟨hi0, by show i < m; omega⟩ ?_
      conv => cbv
      refine Cell.at i _ hc (by simp [I.val]) rfl ?_
      conv => cbv
      refine Fit.wrap fun xz hxz => ?_
      have hxz : xz = IntKind.u64.wrap z := hxz
      have hxz0 : 0 ≤ xz := by rw [hxz]; simp [IntKind.wrap, IntKind.bits, IntKind.signed]; omega
      clear hxz
      conv => cbv
      refine Sum.mk fun yz hyz => ?_
      have hyz : yz = xz % 32 := (show yz = xz.tmod 32 from hyz).trans (Int.tmod_eq_emod_of_nonneg hxz0)
      conv => cbv
      refine Fit.mk (by show (-9223372036854775808 : Int) ≤ yz; omega) (by show yz ≤ 9223372036854775807; omega) fun sz hsz => ?_
      have hsz : sz = yz := hsz
      have hsz0 : 0 ≤ sz := by omega
      have hsz31 : sz ≤ 31 := by omega
      clear hsz hyz hxz0
      conv => cbv
      refine Sum.mk fun r6 hr6 => ?_
      have hr6 : r6 = i % 6 := (show r6 = i.tmod 6 from hr6).trans (Int.tmod_eq_emod_of_nonneg hi0)
      conv => cbv
      refine Fit.mk (by show (-9223372036854775808 : Int) ≤ 1 + r6; omega) (by show 1 + r6 ≤ 9223372036854775807; omega) fun kd hkd => ?_
      have hkd : kd = 1 + r6 := hkd
      have hkd1 : 1 ≤ kd := by omega
      have hkd6 : kd ≤ 6 := by omega
      clear hkd hr6
      conv => cbv
      refine callF_frame (allocA_lx kd sz R ws 40 1280 L1 D1 hL1 hD1 hn40 hr1000 hP.ok rfl) [(0, 0), (1, 1), (2, 2), (3, 3)] rfl (by simp [hmapOk, nget, hget, renB, okB, renV, renVs, rn, okVs, okV]) rfl rfl (fun r h' n' hrr => ?_)
      obtain ⟨a, e, R2, w2, L2, D2, e1, e2, e3, hL2, hD2, hAl⟩ := hrr
      subst e1 e2 e3
      conv => cbv
      have he : e = 0 := by have := alloct_err hP.ok hAl hP.room; rw [if_pos ⟨hsz0, hsz31, hkd1, hkd6⟩] at this; exact this
      obtain ⟨hP2, hnot, hkp, hzero, hS2⟩ := hP.alloc (by omega) hAl he
      have hS2 := hS2 0 hS
      clear hAl
      refine Br.mk (fun g => ?_) (fun g => ?_)
      case refine_1 =>
        have gf : False := g he
        cases gf
      conv => cbv
      refine callF_lend (in_lx ats a j O false hal hO (by omega) (decide_eq_false hnot).symm) (by simp [lends, lendV, hget, I.val, pvle]) (fun r h' n' ⟨e1, e2, e3⟩ => by subst e1 e2; exact ⟨trivial, trivial⟩) (fun r h' n' ⟨e1, e2, e3⟩ => ?_)
      subst e1 e2 e3
      conv => cbv
      have hol : (O.length : Int) = j := by rw [hO, ipv_length, hal]
      have hnl : (N.length : Int) = j := by rw [hN, ipv_length, hP.same, hal]
      have hg1 : gl (ats ++ [a]) = j + 1 := by rw [hj, hg, hg, List.length_append]; rfl
      refine Room.new rfl ?_
      conv => cbv
      refine Room.new ⟨?_, ?_, ?_⟩ ?_
      · show (O.length : Int) = j * 1; omega
      · show (j + 1) * 8 ≤ 140737488355328; omega
      · show j + 1 ≤ 9223372036854775807; omega
      conv => cbv
      refine Upd.mk fun O3 hO3 => ?_
      have hO3 : O3 = O ++ [.int .i64 (.sym a)] := hO3
      have hO3 : O3 = ipv (ats ++ [a]) := by rw [hO3, hO, ← ipv_app]; rfl
      conv => cbv
      refine Sum.mk fun j2 hj2 => ?_
      have hj2 : j2 = j + 1 := hj2
      rw [← hj2] at hg1
      conv => cbv
      refine Room.new rfl ?_
      conv => cbv
      refine Room.new ⟨?_, ?_, ?_⟩ ?_
      · show (N.length : Int) = j * 1; omega
      · show (j + 1) * 8 ≤ 140737488355328; omega
      · show j + 1 ≤ 9223372036854775807; omega
      conv => cbv
      refine Upd.mk fun N3 hN3 => ?_
      have hN3 : N3 = N ++ [.int .i64 (.sym sz)] := hN3
      have hN3 : N3 = ipv (ns ++ [sz]) := by rw [hN3, hN, ← ipv_app]; rfl
      conv => cbv
      refine Sum.mk fun j3 hj3 => ?_
      have hj3 : j3 = j + 1 := hj3
      have hj32 : j3 = j2 := by omega
      conv => cbv
      have hR2l := hP2.len
      have hn402 : (40 : Int) = R2.length := by rw [hR2l]; rfl
      have hr2 : R2.length ≤ 1000 := by omega
      have hF0 : Filling R2 w2 ats ns a kd sz i 0 := ⟨hP2, hP.same, hnot, hS2, hkp, fun t h0 h1 => by omega, fun t h0 _ h1 => hzero t h0 h1⟩
      refine LoopF.mk (fun kk s => ∃ (q : Int) (D3 : List PV) (w3 : List Int), s = ⟨.p (.vsl (.sym m) true ZL) :: .p (.vsl (.sym mu) true UL) :: .p (.int .i64 (.sym gone)) :: (undefs 4 ++ .ptr 0 (.lit 0) :: .undef :: .sl 4 3 1 (.lit 0) (.sym j2) :: .sl 5 3 1 (.lit 0) (.sym j2) :: .p (.int .i64 (.sym i)) :: .p (.int .i64 (.sym sz)) :: .p (.int .i64 (.sym a)) :: .undef :: .p (.int .i64 (.sym q)) :: undefs 206), [(0, .mix [.ptr 1 (.lit 0), .sl 3 3 1 (.lit 0) (.sym 1280)]), (1, .mix [.sl 2 79 2 (.lit 0) (.sym 40)]), (2, .pure true L2), (3, .pure true D3), (4, .pure true O3), (5, .pure true N3)], 6⟩ ∧ Filling R2 w3 ats ns a kd sz i q ∧ D3 = ipv w3 ∧ 0 ≤ q ∧ q ≤ sz ∧ kk = (sz - q).toNat) sz.toNat _
        (Re.of [(0, 0), (1, 1), (2, 2), (3, 3), (7, 4), (9, 5)] [] (by first | exact Nat.zero_le _ | exact Nat.le_refl _ | decide | (dsimp only; decide)) rfl rfl (by (try (conv => cbv)); (repeat' (first | exact trivial | rfl | exact SEq.mk rfl | (exact SEq.mk (by first | assumption | (symm; assumption))) | (simp only [I.val]; done) | (simp only [I.val]; omega) | omega | assumption | (refine And.intro ?_ ?_) | exact Or.inl rfl | exact Or.inr (by assumption) | exact List.Mem.head _ | exact List.Mem.tail _ (List.Mem.head _) | exact ⟨_, rfl⟩ | exact ⟨_, rfl, Or.inl rfl⟩ | (refine ⟨_, rfl, Or.inr ?_⟩; (try (conv => cbv))) | (simp only [I.val] at *; first | omega | (subst_vars; rfl) | simp_all) | (refine Or.inr ?_; (try (conv => cbv)))))) (by (try (conv => cbv)); (repeat' (first | exact trivial | rfl | exact SEq.mk rfl | (exact SEq.mk (by first | assumption | (symm; assumption))) | (simp only [I.val]; done) | (simp only [I.val]; omega) | omega | assumption | (refine And.intro ?_ ?_) | exact Or.inl rfl | exact Or.inr (by assumption) | exact List.Mem.head _ | exact List.Mem.tail _ (List.Mem.head _) | exact ⟨_, rfl⟩ | exact ⟨_, rfl, Or.inl rfl⟩ | (refine ⟨_, rfl, Or.inr ?_⟩; (try (conv => cbv))) | (simp only [I.val] at *; first | omega | (subst_vars; rfl) | simp_all) | (refine Or.inr ?_; (try (conv => cbv))))))) ⟨0, D2, w2, rfl, hF0, hD2, by omega, hsz0, by omega⟩ ?_
      clear hF0
      rintro kk s ⟨q, D3, w3, rfl, hF, hD3, hq0, hq1, hk2⟩
      conv => cbv
      refine Br.mk (fun gq => ?_) (fun gq => ?_)
      · have gq : q < sz := gq
        obtain ⟨k'', rfl⟩ : ∃ k', kk = k' + 1 := ⟨kk - 1, by omega⟩
        conv => cbv
        refine callF_frame (load_lx q R2 w3 40 a 1280 L2 D3 hL2 hD3 hn402 hr2 hF.ap.ok rfl) [(0, 0), (1, 1), (2, 2), (3, 3)] rfl (by simp [hmapOk, nget, hget, renB, okB, renV, renVs, rn, okVs, okV]) rfl rfl (fun r h' n' hrr => ?_)
        obtain ⟨x, el, e1, e2, e3, hLd⟩ := hrr
        subst e1 e2 e3
        conv => cbv
        obtain ⟨hel, hx⟩ := loaded_of hF.kept ⟨hq0, gq⟩ hLd
        have hx0 : x = 0 := by
          have := hF.rest q hq0 (Int.le_refl _) gq
          rw [this] at hx
          exact (Option.some.inj hx).symm
        refine Br.mk (fun g => ?_) (fun g => ?_)
        case refine_1 =>
          have gf : False := g hx0
          cases gf
        conv => cbv
        refine Br.mk (fun g => ?_) (fun g => ?_)
        case refine_1 =>
          have gf : False := g hel
          cases gf
        conv => cbv
        refine Fit.mk (by show (-9223372036854775808 : Int) ≤ 100 * i; omega) (by show 100 * i ≤ 9223372036854775807; omega) fun y1 hy1 => ?_
        have hy1 : y1 = 100 * i := hy1
        conv => cbv
        refine Fit.mk (by show (-9223372036854775808 : Int) ≤ y1 + q; omega) (by show y1 + q ≤ 9223372036854775807; omega) fun y hy => ?_
        have hy : y = y1 + q := hy
        have hy : y = 100 * i + q := by omega
        conv => cbv
        refine callF_frame (store_lx q y R2 w3 40 a 1280 L2 D3 hL2 hD3 hn402 hr2 hF.ap.ok rfl) [(0, 0), (1, 1), (2, 2), (3, 3)] rfl (by simp [hmapOk, nget, hget, renB, okB, renV, renVs, rn, okVs, okV]) rfl rfl (fun r h' n' hrr => ?_)
        obtain ⟨es, w4, D4, e1, e2, e3, hD4, hSt⟩ := hrr
        subst e1 e2 e3
        conv => cbv
        obtain ⟨hes, hw4⟩ := stored_of hF.kept ⟨hq0, gq⟩ hSt
        have hF4 : Filling R2 w4 ats ns a kd sz i (q + 1) := by rw [hw4]; exact hF.step ⟨hq0, gq⟩ hy (by omega)
        clear hSt
        refine Br.mk (fun g => ?_) (fun g => ?_)
        case refine_1 =>
          have gf : False := g hes
          cases gf
        conv => cbv
        refine Fit.mk (by show (-9223372036854775808 : Int) ≤ q + 1; omega) (by show q + 1 ≤ 9223372036854775807; omega) fun q2 hq2 => ?_
        have hq2 : q2 = q + 1 := hq2
        rw [← hq2] at hF4
        conv => cbv
        refine Again.mk k'' _ (Nat.lt_succ_self _) (Re.of [(0, 0), (1, 1), (2, 2), (3, 3), (4, 4), (5, 5)] [] (by first | exact Nat.zero_le _ | exact Nat.le_refl _ | decide | (dsimp only; decide)) rfl rfl (by (try (conv => cbv)); (repeat' (first | exact trivial | rfl | exact SEq.mk rfl | (exact SEq.mk (by first | assumption | (symm; assumption))) | (simp only [I.val]; done) | (simp only [I.val]; omega) | omega | assumption | (refine And.intro ?_ ?_) | exact Or.inl rfl | exact Or.inr (by assumption) | exact List.Mem.head _ | exact List.Mem.tail _ (List.Mem.head _) | exact ⟨_, rfl⟩ | exact ⟨_, rfl, Or.inl rfl⟩ | (refine ⟨_, rfl, Or.inr ?_⟩; (try (conv => cbv))) | (simp only [I.val] at *; first | omega | (subst_vars; rfl) | simp_all) | (refine Or.inr ?_; (try (conv => cbv)))))) (by (try (conv => cbv)); (repeat' (first | exact trivial | rfl | exact SEq.mk rfl | (exact SEq.mk (by first | assumption | (symm; assumption))) | (simp only [I.val]; done) | (simp only [I.val]; omega) | omega | assumption | (refine And.intro ?_ ?_) | exact Or.inl rfl | exact Or.inr (by assumption) | exact List.Mem.head _ | exact List.Mem.tail _ (List.Mem.head _) | exact ⟨_, rfl⟩ | exact ⟨_, rfl, Or.inl rfl⟩ | (refine ⟨_, rfl, Or.inr ?_⟩; (try (conv => cbv))) | (simp only [I.val] at *; first | omega | (subst_vars; rfl) | simp_all) | (refine Or.inr ?_; (try (conv => cbv))))))) ⟨q2, D4, w4, rfl, hF4, hD4, by omega, by omega, by omega⟩
      · have gq : ¬ q < sz := gq
        have hSn := hF.full (by omega) (by omega)
        have hPn := hF.ap
        conv => cbv
        refine Fit.mk (by show (-9223372036854775808 : Int) ≤ i + 1; omega) (by show i + 1 ≤ 9223372036854775807; omega) fun i2 hi2 => ?_
        have hi2 : i2 = i + 1 := hi2
        conv => cbv
        refine Again.mk k' _ (Nat.lt_succ_self _) (Re.of [(0, 0), (1, 1), (2, 2), (3, 3), (4, 4), (5, 5)] [] (by first | exact Nat.zero_le _ | exact Nat.le_refl _ | decide | (dsimp only; decide)) rfl rfl (by (try (conv => cbv)); (repeat' (first | exact trivial | rfl | exact SEq.mk rfl | (exact SEq.mk (by first | assumption | (symm; assumption))) | (simp only [I.val]; done) | (simp only [I.val]; omega) | omega | assumption | (refine And.intro ?_ ?_) | exact Or.inl rfl | exact Or.inr (by assumption) | exact List.Mem.head _ | exact List.Mem.tail _ (List.Mem.head _) | exact ⟨_, rfl⟩ | exact ⟨_, rfl, Or.inl rfl⟩ | (refine ⟨_, rfl, Or.inr ?_⟩; (try (conv => cbv))) | (simp only [I.val] at *; first | omega | (subst_vars; rfl) | simp_all) | (refine Or.inr ?_; (try (conv => cbv)))))) (by (try (conv => cbv)); (repeat' (first | exact trivial | rfl | exact SEq.mk rfl | (exact SEq.mk (by first | assumption | (symm; assumption))) | (simp only [I.val]; done) | (simp only [I.val]; omega) | omega | assumption | (refine And.intro ?_ ?_) | exact Or.inl rfl | exact Or.inr (by assumption) | exact List.Mem.head _ | exact List.Mem.tail _ (List.Mem.head _) | exact ⟨_, rfl⟩ | exact ⟨_, rfl, Or.inl rfl⟩ | (refine ⟨_, rfl, Or.inr ?_⟩; (try (conv => cbv))) | (simp only [I.val] at *; first | omega | (subst_vars; rfl) | simp_all) | (refine Or.inr ?_; (try (conv => cbv))))))) ⟨i2, j2, L2, D3, O3, N3, R2, w3, ats ++ [a], ns ++ [sz], rfl, hPn, hSn, hL2, hD3, hO3, hN3, hg1.symm, by omega, by omega, by omega, by omega⟩
    · have gi2 : ¬ i < 20 := gi2
      have hPl := hP.len
      have hn40 : (40 : Int) = R.length := by rw [hPl]; rfl
      have hr1000 : R.length ≤ 1000 := by omega
      have hal : j = ats.length := by rw [hj, hg]
      have hS1 := hS.weak (lo' := 1) (by decide)
      conv => cbv
      refine LoopF.mk (fun kk s => ∃ (i2 : Int) (D3 : List PV) (w3 : List Int), s = ⟨.undef :: .p (.vsl (.sym mu) true UL) :: .p (.int .i64 (.sym gone)) :: (undefs 4 ++ .ptr 0 (.lit 0) :: .undef :: .sl 4 3 1 (.lit 0) (.sym j) :: .sl 5 3 1 (.lit 0) (.sym j) :: (undefs 7 ++ .p (.int .i64 (.sym i2)) :: undefs 203)), [(0, .mix [.ptr 1 (.lit 0), .sl 3 3 1 (.lit 0) (.sym 1280)]), (1, .mix [.sl 2 79 2 (.lit 0) (.sym 40)]), (2, .pure true L1), (3, .pure true D3), (4, .pure true O), (5, .pure true N)], 6⟩ ∧ Apart R w3 ats ns ∧ Says w3 ats ns 1 ∧ D3 = ipv w3 ∧ 0 ≤ i2 ∧ i2 ≤ 10 ∧ kk = (10 - i2).toNat) 10 _
        (Re.of [(0, 0), (1, 1), (2, 2), (3, 3), (4, 4), (5, 5)] [] (by first | exact Nat.zero_le _ | exact Nat.le_refl _ | decide | (dsimp only; decide)) rfl rfl (by (try (conv => cbv)); (repeat' (first | exact trivial | rfl | exact SEq.mk rfl | (exact SEq.mk (by first | assumption | (symm; assumption))) | (simp only [I.val]; done) | (simp only [I.val]; omega) | omega | assumption | (refine And.intro ?_ ?_) | exact Or.inl rfl | exact Or.inr (by assumption) | exact List.Mem.head _ | exact List.Mem.tail _ (List.Mem.head _) | exact ⟨_, rfl⟩ | exact ⟨_, rfl, Or.inl rfl⟩ | (refine ⟨_, rfl, Or.inr ?_⟩; (try (conv => cbv))) | (simp only [I.val] at *; first | omega | (subst_vars; rfl) | simp_all) | (refine Or.inr ?_; (try (conv => cbv)))))) (by (try (conv => cbv)); (repeat' (first | exact trivial | rfl | exact SEq.mk rfl | (exact SEq.mk (by first | assumption | (symm; assumption))) | (simp only [I.val]; done) | (simp only [I.val]; omega) | omega | assumption | (refine And.intro ?_ ?_) | exact Or.inl rfl | exact Or.inr (by assumption) | exact List.Mem.head _ | exact List.Mem.tail _ (List.Mem.head _) | exact ⟨_, rfl⟩ | exact ⟨_, rfl, Or.inl rfl⟩ | (refine ⟨_, rfl, Or.inr ?_⟩; (try (conv => cbv))) | (simp only [I.val] at *; first | omega | (subst_vars; rfl) | simp_all) | (refine Or.inr ?_; (try (conv => cbv))))))) ⟨0, D1, ws, rfl, hP, hS1, hD1, by omega, by omega, by omega⟩ ?_
      clear hS1 hS hP hD1
      rintro kk s ⟨i2, D3, w3, rfl, hP, hS, hD3, hi20, hi21, hk2⟩
      conv => cbv
      refine Br.mk (fun gi => ?_) (fun gi => ?_)
      · have gi : i2 < mu := gi
        conv => cbv
        refine Br.mk (fun gi2 => ?_) (fun gi2 => ?_)
        · have gi2 : i2 < 10 := gi2
          conv => cbv
          refine Br.mk (fun gj => ?_) (fun gj => ?_)
          · have gj : 0 < j := gj
            obtain ⟨k', rfl⟩ : ∃ k', kk = k' + 1 := ⟨kk - 1, by omega⟩
            obtain ⟨y, hy⟩ : ∃ y, us[i2.toNat]? = some y := ⟨_, List.getElem?_eq_getElem (by omega)⟩
            have hyb := hub y (List.mem_of_getElem? hy)
            have hcy : UL[i2.toNat]? = some (.int .i64 (.sym y)) := by rw [hUL, List.getElem?_map, hy]; rfl
            obtain ⟨x, hx⟩ : ∃ x, ats[0]? = some x := ⟨_, List.getElem?_eq_getElem (by omega)⟩
            have hcx : O[0]? = some (.int .i64 (.sym x)) := by rw [hO]; exact ipv_get hx
            conv => cbv
            refine drawn_sound tok (by kernel_rfl) [(9, [])] [0, 1, 2, 3, 4, 5, 6, 7, 8, 9] (by kernel_rfl) ?_; conv => cbv
            refine Need.mk ⟨by decide, gj⟩ ?_
            conv => cbv
            refine Cell.at 0 0 hcx rfl rfl ?_
            conv => cbv
            refine Need.mk ⟨hi20, by show i2 < mu; omega⟩ ?_
            conv => cbv
            refine Cell.at i2 _ hcy (by simp [I.val]) rfl ?_
            conv => cbv
            refine callF_frame (store_lx i2 y R w3 40 x 1280 L1 D3 hL1 hD3 hn40 hr1000 hP.ok rfl) [(0, 0), (1, 1), (2, 2), (3, 3)] rfl (by simp [hmapOk, nget, hget, renB, okB, renV, renVs, rn, okVs, okV]) rfl rfl (fun r h' n' hrr => ?_)
            obtain ⟨es, w4, D4, e1, e2, e3, hD4, hSt⟩ := hrr
            subst e1 e2 e3
            conv => cbv
            obtain ⟨hP4, hS4⟩ := hP.stored0 hS hx hyb hSt
            refine Fit.mk (by show (-9223372036854775808 : Int) ≤ i2 + 1; omega) (by show i2 + 1 ≤ 9223372036854775807; omega) fun i3 hi3 => ?_
            have hi3 : i3 = i2 + 1 := hi3
            conv => cbv
            refine Again.mk k' _ (Nat.lt_succ_self _) (Re.of [(0, 0), (1, 1), (2, 2), (3, 3), (4, 4), (5, 5)] [] (by first | exact Nat.zero_le _ | exact Nat.le_refl _ | decide | (dsimp only; decide)) rfl rfl (by (try (conv => cbv)); (repeat' (first | exact trivial | rfl | exact SEq.mk rfl | (exact SEq.mk (by first | assumption | (symm; assumption))) | (simp only [I.val]; done) | (simp only [I.val]; omega) | omega | assumption | (refine And.intro ?_ ?_) | exact Or.inl rfl | exact Or.inr (by assumption) | exact List.Mem.head _ | exact List.Mem.tail _ (List.Mem.head _) | exact ⟨_, rfl⟩ | exact ⟨_, rfl, Or.inl rfl⟩ | (refine ⟨_, rfl, Or.inr ?_⟩; (try (conv => cbv))) | (simp only [I.val] at *; first | omega | (subst_vars; rfl) | simp_all) | (refine Or.inr ?_; (try (conv => cbv)))))) (by (try (conv => cbv)); (repeat' (first | exact trivial | rfl | exact SEq.mk rfl | (exact SEq.mk (by first | assumption | (symm; assumption))) | (simp only [I.val]; done) | (simp only [I.val]; omega) | omega | assumption | (refine And.intro ?_ ?_) | exact Or.inl rfl | exact Or.inr (by assumption) | exact List.Mem.head _ | exact List.Mem.tail _ (List.Mem.head _) | exact ⟨_, rfl⟩ | exact ⟨_, rfl, Or.inl rfl⟩ | (refine ⟨_, rfl, Or.inr ?_⟩; (try (conv => cbv))) | (simp only [I.val] at *; first | omega | (subst_vars; rfl) | simp_all) | (refine Or.inr ?_; (try (conv => cbv))))))) ⟨i3, D4, w4, rfl, hP4, hS4, hD4, by omega, by omega, by omega⟩
          · have gj : ¬ 0 < j := gj
            conv => cbv
            refine LoopF.mk (fun kk s => ∃ (i4 : Int), s = ⟨.undef :: .undef :: .p (.int .i64 (.sym gone)) :: (undefs 4 ++ .ptr 0 (.lit 0) :: .undef :: .sl 4 3 1 (.lit 0) (.sym j) :: .sl 5 3 1 (.lit 0) (.sym j) :: (undefs 8 ++ .p (.int .i64 (.sym i4)) :: undefs 202)), [(0, .mix [.ptr 1 (.lit 0), .sl 3 3 1 (.lit 0) (.sym 1280)]), (1, .mix [.sl 2 79 2 (.lit 0) (.sym 40)]), (2, .pure true L1), (3, .pure true D3), (4, .pure true O), (5, .pure true N)], 6⟩ ∧ 1 ≤ i4 ∧ (i4 ≤ j ∨ i4 = 1) ∧ kk = (j - i4).toNat) (j - 1).toNat _
              (Re.of [(0, 0), (1, 1), (2, 2), (3, 3), (4, 4), (5, 5)] [] (by first | exact Nat.zero_le _ | exact Nat.le_refl _ | decide | (dsimp only; decide)) rfl rfl (by (try (conv => cbv)); (repeat' (first | exact trivial | rfl | exact SEq.mk rfl | (exact SEq.mk (by first | assumption | (symm; assumption))) | (simp only [I.val]; done) | (simp only [I.val]; omega) | omega | assumption | (refine And.intro ?_ ?_) | exact Or.inl rfl | exact Or.inr (by assumption) | exact List.Mem.head _ | exact List.Mem.tail _ (List.Mem.head _) | exact ⟨_, rfl⟩ | exact ⟨_, rfl, Or.inl rfl⟩ | (refine ⟨_, rfl, Or.inr ?_⟩; (try (conv => cbv))) | (simp only [I.val] at *; first | omega | (subst_vars; rfl) | simp_all) | (refine Or.inr ?_; (try (conv => cbv)))))) (by (try (conv => cbv)); (repeat' (first | exact trivial | rfl | exact SEq.mk rfl | (exact SEq.mk (by first | assumption | (symm; assumption))) | (simp only [I.val]; done) | (simp only [I.val]; omega) | omega | assumption | (refine And.intro ?_ ?_) | exact Or.inl rfl | exact Or.inr (by assumption) | exact List.Mem.head _ | exact List.Mem.tail _ (List.Mem.head _) | exact ⟨_, rfl⟩ | exact ⟨_, rfl, Or.inl rfl⟩ | (refine ⟨_, rfl, Or.inr ?_⟩; (try (conv => cbv))) | (simp only [I.val] at *; first | omega | (subst_vars; rfl) | simp_all) | (refine Or.inr ?_; (try (conv => cbv))))))) ⟨1, rfl, by omega, by omega, by omega⟩ ?_
            rintro kk3 s ⟨i4, rfl, hi40, hi41, hk4⟩
            conv => cbv
            refine Br.mk (fun gi => ?_) (fun gi => ?_)
            · have gi : i4 < j := gi
              obtain ⟨k4', rfl⟩ : ∃ k', kk3 = k' + 1 := ⟨kk3 - 1, by omega⟩
              obtain ⟨x, kx, d, hx, hkx, hkept⟩ := hP.get (i := i4.toNat) (by omega)
              have hcx : O[i4.toNat]? = some (.int .i64 (.sym x)) := by rw [hO]; exact ipv_get hx
              have hck : N[i4.toNat]? = some (.int .i64 (.sym kx)) := by rw [hN]; exact ipv_get hkx
              have hkb := hkept.bounds hP.ok
              conv => cbv
              refine LoopF.mk (fun kk s => ∃ (q : Int), s = ⟨.undef :: .undef :: .p (.int .i64 (.sym gone)) :: (undefs 4 ++ .ptr 0 (.lit 0) :: .undef :: .sl 4 3 1 (.lit 0) (.sym j) :: .sl 5 3 1 (.lit 0) (.sym j) :: (undefs 8 ++ .p (.int .i64 (.sym i4)) :: .p (.int .i64 (.sym q)) :: undefs 201)), [(0, .mix [.ptr 1 (.lit 0), .sl 3 3 1 (.lit 0) (.sym 1280)]), (1, .mix [.sl 2 79 2 (.lit 0) (.sym 40)]), (2, .pure true L1), (3, .pure true D3), (4, .pure true O), (5, .pure true N)], 6⟩ ∧ 0 ≤ q ∧ q ≤ kx ∧ kk = (kx - q).toNat) kx.toNat _
                (Re.of [(0, 0), (1, 1), (2, 2), (3, 3), (4, 4), (5, 5)] [] (by first | exact Nat.zero_le _ | exact Nat.le_refl _ | decide | (dsimp only; decide)) rfl rfl (by (try (conv => cbv)); (repeat' (first | exact trivial | rfl | exact SEq.mk rfl | (exact SEq.mk (by first | assumption | (symm; assumption))) | (simp only [I.val]; done) | (simp only [I.val]; omega) | omega | assumption | (refine And.intro ?_ ?_) | exact Or.inl rfl | exact Or.inr (by assumption) | exact List.Mem.head _ | exact List.Mem.tail _ (List.Mem.head _) | exact ⟨_, rfl⟩ | exact ⟨_, rfl, Or.inl rfl⟩ | (refine ⟨_, rfl, Or.inr ?_⟩; (try (conv => cbv))) | (simp only [I.val] at *; first | omega | (subst_vars; rfl) | simp_all) | (refine Or.inr ?_; (try (conv => cbv)))))) (by (try (conv => cbv)); (repeat' (first | exact trivial | rfl | exact SEq.mk rfl | (exact SEq.mk (by first | assumption | (symm; assumption))) | (simp only [I.val]; done) | (simp only [I.val]; omega) | omega | assumption | (refine And.intro ?_ ?_) | exact Or.inl rfl | exact Or.inr (by assumption) | exact List.Mem.head _ | exact List.Mem.tail _ (List.Mem.head _) | exact ⟨_, rfl⟩ | exact ⟨_, rfl, Or.inl rfl⟩ | (refine ⟨_, rfl, Or.inr ?_⟩; (try (conv => cbv))) | (simp only [I.val] at *; first | omega | (subst_vars; rfl) | simp_all) | (refine Or.inr ?_; (try (conv => cbv))))))) ⟨0, rfl, by omega, by omega, by omega⟩ ?_
              rintro kk5 s ⟨q, rfl, hq0, hq1, hk5⟩
              conv => cbv
              refine Need.mk ⟨by show 0 ≤ i4; omega, gi⟩ ?_
              conv => cbv
              refine Cell.at i4 _ hck (by simp [I.val]) rfl ?_
              conv => cbv
              refine Br.mk (fun gq => ?_) (fun gq => ?_)
              · have gq : q < kx := gq
                obtain ⟨k5', rfl⟩ : ∃ k', kk5 = k' + 1 := ⟨kk5 - 1, by omega⟩
                conv => cbv
                refine Need.mk ⟨by show 0 ≤ i4; omega, gi⟩ ?_
                conv => cbv
                refine Cell.at i4 _ hcx (by simp [I.val]) rfl ?_
                conv => cbv
                refine callF_frame (load_lx q R w3 40 x 1280 L1 D3 hL1 hD3 hn40 hr1000 hP.ok rfl) [(0, 0), (1, 1), (2, 2), (3, 3)] rfl (by simp [hmapOk, nget, hget, renB, okB, renV, renVs, rn, okVs, okV]) rfl rfl (fun r h' n' hrr => ?_)
                obtain ⟨v, el, e1, e2, e3, hLd⟩ := hrr
                subst e1 e2 e3
                conv => cbv
                obtain ⟨hel, hv⟩ := loaded_of hkept ⟨hq0, gq⟩ hLd
                have hv2 : v = 100 * i4 + q := by
                  have := hS i4.toNat x kx (by omega) hx hkx q hq0 gq
                  rw [hv] at this
                  have := Option.some.inj this
                  omega
                refine Fit.mk (by show (-9223372036854775808 : Int) ≤ 100 * i4; omega) (by show 100 * i4 ≤ 9223372036854775807; omega) fun y1 hy1 => ?_
                have hy1 : y1 = 100 * i4 := hy1
                conv => cbv
                refine Fit.mk (by show (-9223372036854775808 : Int) ≤ y1 + q; omega) (by show y1 + q ≤ 9223372036854775807; omega) fun y hy => ?_
                have hy : y = y1 + q := hy
                conv => cbv
                refine Br.mk (fun g => ?_) (fun g => ?_)
                case refine_1 =>
                  have gf : False := by have g : ¬ v = y := g; omega
                  cases gf
                conv => cbv
                refine Br.mk (fun g => ?_) (fun g => ?_)
                case refine_1 =>
                  have gf : False := g hel
                  cases gf
                conv => cbv
                refine Fit.mk (by show (-9223372036854775808 : Int) ≤ q + 1; omega) (by show q + 1 ≤ 9223372036854775807; omega) fun q2 hq2 => ?_
                have hq2 : q2 = q + 1 := hq2
                conv => cbv
                refine Again.mk k5' _ (Nat.lt_succ_self _) (Re.of [(0, 0), (1, 1), (2, 2), (3, 3), (4, 4), (5, 5)] [] (by first | exact Nat.zero_le _ | exact Nat.le_refl _ | decide | (dsimp only; decide)) rfl rfl (by (try (conv => cbv)); (repeat' (first | exact trivial | rfl | exact SEq.mk rfl | (exact SEq.mk (by first | assumption | (symm; assumption))) | (simp only [I.val]; done) | (simp only [I.val]; omega) | omega | assumption | (refine And.intro ?_ ?_) | exact Or.inl rfl | exact Or.inr (by assumption) | exact List.Mem.head _ | exact List.Mem.tail _ (List.Mem.head _) | exact ⟨_, rfl⟩ | exact ⟨_, rfl, Or.inl rfl⟩ | (refine ⟨_, rfl, Or.inr ?_⟩; (try (conv => cbv))) | (simp only [I.val] at *; first | omega | (subst_vars; rfl) | simp_all) | (refine Or.inr ?_; (try (conv => cbv)))))) (by (try (conv => cbv)); (repeat' (first | exact trivial | rfl | exact SEq.mk rfl | (exact SEq.mk (by first | assumption | (symm; assumption))) | (simp only [I.val]; done) | (simp only [I.val]; omega) | omega | assumption | (refine And.intro ?_ ?_) | exact Or.inl rfl | exact Or.inr (by assumption) | exact List.Mem.head _ | exact List.Mem.tail _ (List.Mem.head _) | exact ⟨_, rfl⟩ | exact ⟨_, rfl, Or.inl rfl⟩ | (refine ⟨_, rfl, Or.inr ?_⟩; (try (conv => cbv))) | (simp only [I.val] at *; first | omega | (subst_vars; rfl) | simp_all) | (refine Or.inr ?_; (try (conv => cbv))))))) ⟨q2, rfl, by omega, by omega, by omega⟩
              · have gq : ¬ q < kx := gq
                conv => cbv
                refine Fit.mk (by show (-9223372036854775808 : Int) ≤ i4 + 1; omega) (by show i4 + 1 ≤ 9223372036854775807; omega) fun i5 hi5 => ?_
                have hi5 : i5 = i4 + 1 := hi5
                conv => cbv
                refine Again.mk k4' _ (Nat.lt_succ_self _) (Re.of [(0, 0), (1, 1), (2, 2), (3, 3), (4, 4), (5, 5)] [] (by first | exact Nat.zero_le _ | exact Nat.le_refl _ | decide | (dsimp only; decide)) rfl rfl (by (try (conv => cbv)); (repeat' (first | exact trivial | rfl | exact SEq.mk rfl | (exact SEq.mk (by first | assumption | (symm; assumption))) | (simp only [I.val]; done) | (simp only [I.val]; omega) | omega | assumption | (refine And.intro ?_ ?_) | exact Or.inl rfl | exact Or.inr (by assumption) | exact List.Mem.head _ | exact List.Mem.tail _ (List.Mem.head _) | exact ⟨_, rfl⟩ | exact ⟨_, rfl, Or.inl rfl⟩ | (refine ⟨_, rfl, Or.inr ?_⟩; (try (conv => cbv))) | (simp only [I.val] at *; first | omega | (subst_vars; rfl) | simp_all) | (refine Or.inr ?_; (try (conv => cbv)))))) (by (try (conv => cbv)); (repeat' (first | exact trivial | rfl | exact SEq.mk rfl | (exact SEq.mk (by first | assumption | (symm; assumption))) | (simp only [I.val]; done) | (simp only [I.val]; omega) | omega | assumption | (refine And.intro ?_ ?_) | exact Or.inl rfl | exact Or.inr (by assumption) | exact List.Mem.head _ | exact List.Mem.tail _ (List.Mem.head _) | exact ⟨_, rfl⟩ | exact ⟨_, rfl, Or.inl rfl⟩ | (refine ⟨_, rfl, Or.inr ?_⟩; (try (conv => cbv))) | (simp only [I.val] at *; first | omega | (subst_vars; rfl) | simp_all) | (refine Or.inr ?_; (try (conv => cbv))))))) ⟨i5, rfl, by omega, by omega, by omega⟩
            · have gi : ¬ i4 < j := gi
              conv => cbv
              refine Br.mk (fun gz => ?_) (fun gz => ?_)
              · conv => cbv
                refine RetF.mk [.p (.bool true)] [] 0 (Re.of [] [] (by first | exact Nat.zero_le _ | exact Nat.le_refl _ | decide | (dsimp only; decide)) rfl rfl (by (try (conv => cbv)); (repeat' (first | exact trivial | rfl | exact SEq.mk rfl | (exact SEq.mk (by first | assumption | (symm; assumption))) | (simp only [I.val]; done) | (simp only [I.val]; omega) | omega | assumption | (refine And.intro ?_ ?_) | exact Or.inl rfl | exact Or.inr (by assumption) | exact List.Mem.head _ | exact List.Mem.tail _ (List.Mem.head _) | exact ⟨_, rfl⟩ | exact ⟨_, rfl, Or.inl rfl⟩ | (refine ⟨_, rfl, Or.inr ?_⟩; (try (conv => cbv))) | (simp only [I.val] at *; first | omega | (subst_vars; rfl) | simp_all) | (refine Or.inr ?_; (try (conv => cbv)))))) (by (try (conv => cbv)); (repeat' (first | exact trivial | rfl | exact SEq.mk rfl | (exact SEq.mk (by first | assumption | (symm; assumption))) | (simp only [I.val]; done) | (simp only [I.val]; omega) | omega | assumption | (refine And.intro ?_ ?_) | exact Or.inl rfl | exact Or.inr (by assumption) | exact List.Mem.head _ | exact List.Mem.tail _ (List.Mem.head _) | exact ⟨_, rfl⟩ | exact ⟨_, rfl, Or.inl rfl⟩ | (refine ⟨_, rfl, Or.inr ?_⟩; (try (conv => cbv))) | (simp only [I.val] at *; first | omega | (subst_vars; rfl) | simp_all) | (refine Or.inr ?_; (try (conv => cbv))))))) rfl rfl
              · have gz : ¬ j = 0 := gz
                conv => cbv
                refine Fit.wrap fun xg hxg => ?_
                have hxg : xg = IntKind.u64.wrap gone := hxg
                have hxg0 : 0 ≤ xg := by rw [hxg]; simp [IntKind.wrap, IntKind.bits, IntKind.signed]; omega
                clear hxg
                conv => cbv
                refine Fit.mk (by show (0 : Int) ≤ j; omega) (by show j ≤ 18446744073709551615; omega) fun ju hju => ?_
                have hju : ju = j := hju
                conv => cbv
                refine Need.mk (show ju ≠ 0 by omega) ?_
                conv => cbv
                refine Sum.mk fun yg hyg => ?_
                have hyg : yg = xg % ju := (show yg = xg.tmod ju from hyg).trans (Int.tmod_eq_emod_of_nonneg hxg0)
                have hyg0 : 0 ≤ yg := by rw [hyg]; exact Int.emod_nonneg _ (by omega)
                have hyg1 : yg < j := by rw [← hju, hyg]; exact Int.emod_lt_of_pos _ (by omega)
                clear hyg
                conv => cbv
                refine Fit.mk (by show (-9223372036854775808 : Int) ≤ yg; omega) (by show yg ≤ 9223372036854775807; omega) fun go hgo => ?_
                have hgo : go = yg := hgo
                have hgo0 : 0 ≤ go := by omega
                have hgo1 : go < j := by omega
                clear hgo hyg1 hyg0
                obtain ⟨x, kx, d, hx, hkx, hkept⟩ := hP.get (i := go.toNat) (by omega)
                have hcx : O[go.toNat]? = some (.int .i64 (.sym x)) := by rw [hO]; exact ipv_get hx
                have hck : N[go.toNat]? = some (.int .i64 (.sym kx)) := by rw [hN]; exact ipv_get hkx
                have hkb := hkept.bounds hP.ok
                conv => cbv
                refine Need.mk ⟨hgo0, hgo1⟩ ?_
                conv => cbv
                refine Cell.at go _ hcx (by simp [I.val]) rfl ?_
                conv => cbv
                refine callF_frame (freeA_lx x R w3 40 1280 L1 D3 hL1 hD3 hn40 hr1000 hP.ok rfl) [(0, 0), (1, 1), (2, 2), (3, 3)] rfl (by simp [hmapOk, nget, hget, renB, okB, renV, renVs, rn, okVs, okV]) rfl rfl (fun r h' n' hrr => ?_)
                obtain ⟨ef, R5, L5, e1, e2, e3, hL5, hFr⟩ := hrr
                subst e1 e2 e3
                conv => cbv
                obtain ⟨hef, hA5, hl5, hc5, hobj5⟩ := hP.free hkept hFr
                have hfew := hP.few
                have hn405 : (40 : Int) = R5.length := by rw [hl5]; rfl
                refine Need.mk ⟨hgo0, hgo1⟩ ?_
                conv => cbv
                refine Cell.at go _ hck (by simp [I.val]) rfl ?_
                conv => cbv
                refine CallF.le (args0 := [.ptr 0 (.lit 0), .p (.int .i64 (.sym 5)), .p (.int .i64 (.sym kx))]) (callF_frame (allocA_lx 5 kx R5 w3 40 1280 L5 D3 hL5 hD3 hn405 (by omega) hA5 rfl) [(0, 0), (1, 1), (2, 2), (3, 3)] rfl (by simp [hmapOk, nget, hget, renB, okB, renV, renVs, rn, okVs, okV]) rfl rfl (fun r h' n' hrr => ?_)) (by simp [ales, ale, pvle, I.val])
                obtain ⟨a6, e6, R6, w6, L6, D6, e1, e2, e3, hL6, hD6, hAl⟩ := hrr
                subst e1 e2 e3
                conv => cbv
                have he6 : e6 = 0 := by have := alloct_err hA5 hAl (by omega); rw [if_pos ⟨hkb.2.1, by omega, by decide, by decide⟩] at this; exact this
                obtain ⟨hA6, hl6⟩ := hA5.alloct hAl
                obtain ⟨hk6, hno6, hc6, _⟩ := alloct_ok hA5 hAl he6
                have hn406 : (40 : Int) = R6.length := by rw [hl6, hl5]; rfl
                have hcnt : j = objCount R6 := by omega
                have hxa : a6 = x ∨ a6 ∉ ats := by
                  by_cases e : a6 = x
                  · exact .inl e
                  · exact .inr fun h => hno6 (hobj5 a6 h e)
                clear hAl hFr
                refine Br.mk (fun g => ?_) (fun g => ?_)
                case refine_2 =>
                  have gf : False := g hef
                  cases gf
                conv => cbv
                refine Br.mk (fun g => ?_) (fun g => ?_)
                case refine_2 =>
                  have gf : False := g he6
                  cases gf
                conv => cbv
                refine Need.mk ⟨hgo0, hgo1⟩ ?_
                conv => cbv
                refine Cell.at go _ hcx (by simp [I.val]) rfl ?_
                conv => cbv
                refine Br.mk (fun gx => ?_) (fun gx => ?_)
                · conv => cbv
                  refine callF_frame (objects_lx j R6 40 1280 L6 D6 hL6 hn406 (by omega) hA6.rows rfl hcnt) [(0, 0), (1, 1), (2, 2), (3, 3)] rfl (by simp [hmapOk, nget, hget, renB, okB, renV, renVs, rn, okVs, okV]) rfl rfl (fun r h' n' hrr => ?_)
                  obtain ⟨OO, e1, e2, e3, hOO⟩ := hrr
                  subst e1 e2 e3
                  conv => cbv
                  refine Br.mk (fun g => ?_) (fun g => ?_)
                  case refine_2 =>
                    have gf : False := g rfl
                    cases gf
                  conv => cbv
                  refine RetF.mk [.p (.bool true)] [] 0 (Re.of [] [] (by first | exact Nat.zero_le _ | exact Nat.le_refl _ | decide | (dsimp only; decide)) rfl rfl (by (try (conv => cbv)); (repeat' (first | exact trivial | rfl | exact SEq.mk rfl | (exact SEq.mk (by first | assumption | (symm; assumption))) | (simp only [I.val]; done) | (simp only [I.val]; omega) | omega | assumption | (refine And.intro ?_ ?_) | exact Or.inl rfl | exact Or.inr (by assumption) | exact List.Mem.head _ | exact List.Mem.tail _ (List.Mem.head _) | exact ⟨_, rfl⟩ | exact ⟨_, rfl, Or.inl rfl⟩ | (refine ⟨_, rfl, Or.inr ?_⟩; (try (conv => cbv))) | (simp only [I.val] at *; first | omega | (subst_vars; rfl) | simp_all) | (refine Or.inr ?_; (try (conv => cbv)))))) (by (try (conv => cbv)); (repeat' (first | exact trivial | rfl | exact SEq.mk rfl | (exact SEq.mk (by first | assumption | (symm; assumption))) | (simp only [I.val]; done) | (simp only [I.val]; omega) | omega | assumption | (refine And.intro ?_ ?_) | exact Or.inl rfl | exact Or.inr (by assumption) | exact List.Mem.head _ | exact List.Mem.tail _ (List.Mem.head _) | exact ⟨_, rfl⟩ | exact ⟨_, rfl, Or.inl rfl⟩ | (refine ⟨_, rfl, Or.inr ?_⟩; (try (conv => cbv))) | (simp only [I.val] at *; first | omega | (subst_vars; rfl) | simp_all) | (refine Or.inr ?_; (try (conv => cbv))))))) rfl rfl
                · have gx : ¬ a6 = x := gx
                  have hnot6 : a6 ∉ ats := hxa.resolve_left gx
                  conv => cbv
                  refine callF_lend (in_lx ats a6 j O false hal hO (by omega) (decide_eq_false hnot6).symm) (by simp [lends, lendV, hget, I.val, pvle]) (fun r h' n' ⟨e1, e2, e3⟩ => by subst e1 e2; exact ⟨trivial, trivial⟩) (fun r h' n' ⟨e1, e2, e3⟩ => ?_)
                  subst e1 e2 e3
                  conv => cbv
                  refine callF_frame (objects_lx j R6 40 1280 L6 D6 hL6 hn406 (by omega) hA6.rows rfl hcnt) [(0, 0), (1, 1), (2, 2), (3, 3)] rfl (by simp [hmapOk, nget, hget, renB, okB, renV, renVs, rn, okVs, okV]) rfl rfl (fun r h' n' hrr => ?_)
                  obtain ⟨OO, e1, e2, e3, hOO⟩ := hrr
                  subst e1 e2 e3
                  conv => cbv
                  refine Br.mk (fun g => ?_) (fun g => ?_)
                  case refine_2 =>
                    have gf : False := g rfl
                    cases gf
                  conv => cbv
                  refine RetF.mk [.p (.bool true)] [] 0 (Re.of [] [] (by first | exact Nat.zero_le _ | exact Nat.le_refl _ | decide | (dsimp only; decide)) rfl rfl (by (try (conv => cbv)); (repeat' (first | exact trivial | rfl | exact SEq.mk rfl | (exact SEq.mk (by first | assumption | (symm; assumption))) | (simp only [I.val]; done) | (simp only [I.val]; omega) | omega | assumption | (refine And.intro ?_ ?_) | exact Or.inl rfl | exact Or.inr (by assumption) | exact List.Mem.head _ | exact List.Mem.tail _ (List.Mem.head _) | exact ⟨_, rfl⟩ | exact ⟨_, rfl, Or.inl rfl⟩ | (refine ⟨_, rfl, Or.inr ?_⟩; (try (conv => cbv))) | (simp only [I.val] at *; first | omega | (subst_vars; rfl) | simp_all) | (refine Or.inr ?_; (try (conv => cbv)))))) (by (try (conv => cbv)); (repeat' (first | exact trivial | rfl | exact SEq.mk rfl | (exact SEq.mk (by first | assumption | (symm; assumption))) | (simp only [I.val]; done) | (simp only [I.val]; omega) | omega | assumption | (refine And.intro ?_ ?_) | exact Or.inl rfl | exact Or.inr (by assumption) | exact List.Mem.head _ | exact List.Mem.tail _ (List.Mem.head _) | exact ⟨_, rfl⟩ | exact ⟨_, rfl, Or.inl rfl⟩ | (refine ⟨_, rfl, Or.inr ?_⟩; (try (conv => cbv))) | (simp only [I.val] at *; first | omega | (subst_vars; rfl) | simp_all) | (refine Or.inr ?_; (try (conv => cbv))))))) rfl rfl
        · have gi2 : ¬ i2 < 10 := gi2
          conv => cbv
          refine LoopF.mk (fun kk s => ∃ (i4 : Int), s = ⟨.undef :: .undef :: .p (.int .i64 (.sym gone)) :: (undefs 4 ++ .ptr 0 (.lit 0) :: .undef :: .sl 4 3 1 (.lit 0) (.sym j) :: .sl 5 3 1 (.lit 0) (.sym j) :: (undefs 8 ++ .p (.int .i64 (.sym i4)) :: undefs 202)), [(0, .mix [.ptr 1 (.lit 0), .sl 3 3 1 (.lit 0) (.sym 1280)]), (1, .mix [.sl 2 79 2 (.lit 0) (.sym 40)]), (2, .pure true L1), (3, .pure true D3), (4, .pure true O), (5, .pure true N)], 6⟩ ∧ 1 ≤ i4 ∧ (i4 ≤ j ∨ i4 = 1) ∧ kk = (j - i4).toNat) (j - 1).toNat _
            (Re.of [(0, 0), (1, 1), (2, 2), (3, 3), (4, 4), (5, 5)] [] (by first | exact Nat.zero_le _ | exact Nat.le_refl _ | decide | (dsimp only; decide)) rfl rfl (by (try (conv => cbv)); (repeat' (first | exact trivial | rfl | exact SEq.mk rfl | (exact SEq.mk (by first | assumption | (symm; assumption))) | (simp only [I.val]; done) | (simp only [I.val]; omega) | omega | assumption | (refine And.intro ?_ ?_) | exact Or.inl rfl | exact Or.inr (by assumption) | exact List.Mem.head _ | exact List.Mem.tail _ (List.Mem.head _) | exact ⟨_, rfl⟩ | exact ⟨_, rfl, Or.inl rfl⟩ | (refine ⟨_, rfl, Or.inr ?_⟩; (try (conv => cbv))) | (simp only [I.val] at *; first | omega | (subst_vars; rfl) | simp_all) | (refine Or.inr ?_; (try (conv => cbv)))))) (by (try (conv => cbv)); (repeat' (first | exact trivial | rfl | exact SEq.mk rfl | (exact SEq.mk (by first | assumption | (symm; assumption))) | (simp only [I.val]; done) | (simp only [I.val]; omega) | omega | assumption | (refine And.intro ?_ ?_) | exact Or.inl rfl | exact Or.inr (by assumption) | exact List.Mem.head _ | exact List.Mem.tail _ (List.Mem.head _) | exact ⟨_, rfl⟩ | exact ⟨_, rfl, Or.inl rfl⟩ | (refine ⟨_, rfl, Or.inr ?_⟩; (try (conv => cbv))) | (simp only [I.val] at *; first | omega | (subst_vars; rfl) | simp_all) | (refine Or.inr ?_; (try (conv => cbv))))))) ⟨1, rfl, by omega, by omega, by omega⟩ ?_
          rintro kk3 s ⟨i4, rfl, hi40, hi41, hk4⟩
          conv => cbv
          refine Br.mk (fun gi => ?_) (fun gi => ?_)
          · have gi : i4 < j := gi
            obtain ⟨k4', rfl⟩ : ∃ k', kk3 = k' + 1 := ⟨kk3 - 1, by omega⟩
            obtain ⟨x, kx, d, hx, hkx, hkept⟩ := hP.get (i := i4.toNat) (by omega)
            have hcx : O[i4.toNat]? = some (.int .i64 (.sym x)) := by rw [hO]; exact ipv_get hx
            have hck : N[i4.toNat]? = some (.int .i64 (.sym kx)) := by rw [hN]; exact ipv_get hkx
            have hkb := hkept.bounds hP.ok
            conv => cbv
            refine LoopF.mk (fun kk s => ∃ (q : Int), s = ⟨.undef :: .undef :: .p (.int .i64 (.sym gone)) :: (undefs 4 ++ .ptr 0 (.lit 0) :: .undef :: .sl 4 3 1 (.lit 0) (.sym j) :: .sl 5 3 1 (.lit 0) (.sym j) :: (undefs 8 ++ .p (.int .i64 (.sym i4)) :: .p (.int .i64 (.sym q)) :: undefs 201)), [(0, .mix [.ptr 1 (.lit 0), .sl 3 3 1 (.lit 0) (.sym 1280)]), (1, .mix [.sl 2 79 2 (.lit 0) (.sym 40)]), (2, .pure true L1), (3, .pure true D3), (4, .pure true O), (5, .pure true N)], 6⟩ ∧ 0 ≤ q ∧ q ≤ kx ∧ kk = (kx - q).toNat) kx.toNat _
              (Re.of [(0, 0), (1, 1), (2, 2), (3, 3), (4, 4), (5, 5)] [] (by first | exact Nat.zero_le _ | exact Nat.le_refl _ | decide | (dsimp only; decide)) rfl rfl (by (try (conv => cbv)); (repeat' (first | exact trivial | rfl | exact SEq.mk rfl | (exact SEq.mk (by first | assumption | (symm; assumption))) | (simp only [I.val]; done) | (simp only [I.val]; omega) | omega | assumption | (refine And.intro ?_ ?_) | exact Or.inl rfl | exact Or.inr (by assumption) | exact List.Mem.head _ | exact List.Mem.tail _ (List.Mem.head _) | exact ⟨_, rfl⟩ | exact ⟨_, rfl, Or.inl rfl⟩ | (refine ⟨_, rfl, Or.inr ?_⟩; (try (conv => cbv))) | (simp only [I.val] at *; first | omega | (subst_vars; rfl) | simp_all) | (refine Or.inr ?_; (try (conv => cbv)))))) (by (try (conv => cbv)); (repeat' (first | exact trivial | rfl | exact SEq.mk rfl | (exact SEq.mk (by first | assumption | (symm; assumption))) | (simp only [I.val]; done) | (simp only [I.val]; omega) | omega | assumption | (refine And.intro ?_ ?_) | exact Or.inl rfl | exact Or.inr (by assumption) | exact List.Mem.head _ | exact List.Mem.tail _ (List.Mem.head _) | exact ⟨_, rfl⟩ | exact ⟨_, rfl, Or.inl rfl⟩ | (refine ⟨_, rfl, Or.inr ?_⟩; (try (conv => cbv))) | (simp only [I.val] at *; first | omega | (subst_vars; rfl) | simp_all) | (refine Or.inr ?_; (try (conv => cbv))))))) ⟨0, rfl, by omega, by omega, by omega⟩ ?_
            rintro kk5 s ⟨q, rfl, hq0, hq1, hk5⟩
            conv => cbv
            refine Need.mk ⟨by show 0 ≤ i4; omega, gi⟩ ?_
            conv => cbv
            refine Cell.at i4 _ hck (by simp [I.val]) rfl ?_
            conv => cbv
            refine Br.mk (fun gq => ?_) (fun gq => ?_)
            · have gq : q < kx := gq
              obtain ⟨k5', rfl⟩ : ∃ k', kk5 = k' + 1 := ⟨kk5 - 1, by omega⟩
              conv => cbv
              refine Need.mk ⟨by show 0 ≤ i4; omega, gi⟩ ?_
              conv => cbv
              refine Cell.at i4 _ hcx (by simp [I.val]) rfl ?_
              conv => cbv
              refine callF_frame (load_lx q R w3 40 x 1280 L1 D3 hL1 hD3 hn40 hr1000 hP.ok rfl) [(0, 0), (1, 1), (2, 2), (3, 3)] rfl (by simp [hmapOk, nget, hget, renB, okB, renV, renVs, rn, okVs, okV]) rfl rfl (fun r h' n' hrr => ?_)
              obtain ⟨v, el, e1, e2, e3, hLd⟩ := hrr
              subst e1 e2 e3
              conv => cbv
              obtain ⟨hel, hv⟩ := loaded_of hkept ⟨hq0, gq⟩ hLd
              have hv2 : v = 100 * i4 + q := by
                have := hS i4.toNat x kx (by omega) hx hkx q hq0 gq
                rw [hv] at this
                have := Option.some.inj this
                omega
              refine Fit.mk (by show (-9223372036854775808 : Int) ≤ 100 * i4; omega) (by show 100 * i4 ≤ 9223372036854775807; omega) fun y1 hy1 => ?_
              have hy1 : y1 = 100 * i4 := hy1
              conv => cbv
              refine Fit.mk (by show (-9223372036854775808 : Int) ≤ y1 + q; omega) (by show y1 + q ≤ 9223372036854775807; omega) fun y hy => ?_
              have hy : y = y1 + q := hy
              conv => cbv
              refine Br.mk (fun g => ?_) (fun g => ?_)
              case refine_1 =>
                have gf : False := by have g : ¬ v = y := g; omega
                cases gf
              conv => cbv
              refine Br.mk (fun g => ?_) (fun g => ?_)
              case refine_1 =>
                have gf : False := g hel
                cases gf
              conv => cbv
              refine Fit.mk (by show (-9223372036854775808 : Int) ≤ q + 1; omega) (by show q + 1 ≤ 9223372036854775807; omega) fun q2 hq2 => ?_
              have hq2 : q2 = q + 1 := hq2
              conv => cbv
              refine Again.mk k5' _ (Nat.lt_succ_self _) (Re.of [(0, 0), (1, 1), (2, 2), (3, 3), (4, 4), (5, 5)] [] (by first | exact Nat.zero_le _ | exact Nat.le_refl _ | decide | (dsimp only; decide)) rfl rfl (by (try (conv => cbv)); (repeat' (first | exact trivial | rfl | exact SEq.mk rfl | (exact SEq.mk (by first | assumption | (symm; assumption))) | (simp only [I.val]; done) | (simp only [I.val]; omega) | omega | assumption | (refine And.intro ?_ ?_) | exact Or.inl rfl | exact Or.inr (by assumption) | exact List.Mem.head _ | exact List.Mem.tail _ (List.Mem.head _) | exact ⟨_, rfl⟩ | exact ⟨_, rfl, Or.inl rfl⟩ | (refine ⟨_, rfl, Or.inr ?_⟩; (try (conv => cbv))) | (simp only [I.val] at *; first | omega | (subst_vars; rfl) | simp_all) | (refine Or.inr ?_; (try (conv => cbv)))))) (by (try (conv => cbv)); (repeat' (first | exact trivial | rfl | exact SEq.mk rfl | (exact SEq.mk (by first | assumption | (symm; assumption))) | (simp only [I.val]; done) | (simp only [I.val]; omega) | omega | assumption | (refine And.intro ?_ ?_) | exact Or.inl rfl | exact Or.inr (by assumption) | exact List.Mem.head _ | exact List.Mem.tail _ (List.Mem.head _) | exact ⟨_, rfl⟩ | exact ⟨_, rfl, Or.inl rfl⟩ | (refine ⟨_, rfl, Or.inr ?_⟩; (try (conv => cbv))) | (simp only [I.val] at *; first | omega | (subst_vars; rfl) | simp_all) | (refine Or.inr ?_; (try (conv => cbv))))))) ⟨q2, rfl, by omega, by omega, by omega⟩
            · have gq : ¬ q < kx := gq
              conv => cbv
              refine Fit.mk (by show (-9223372036854775808 : Int) ≤ i4 + 1; omega) (by show i4 + 1 ≤ 9223372036854775807; omega) fun i5 hi5 => ?_
              have hi5 : i5 = i4 + 1 := hi5
              conv => cbv
              refine Again.mk k4' _ (Nat.lt_succ_self _) (Re.of [(0, 0), (1, 1), (2, 2), (3, 3), (4, 4), (5, 5)] [] (by first | exact Nat.zero_le _ | exact Nat.le_refl _ | decide | (dsimp only; decide)) rfl rfl (by (try (conv => cbv)); (repeat' (first | exact trivial | rfl | exact SEq.mk rfl | (exact SEq.mk (by first | assumption | (symm; assumption))) | (simp only [I.val]; done) | (simp only [I.val]; omega) | omega | assumption | (refine And.intro ?_ ?_) | exact Or.inl rfl | exact Or.inr (by assumption) | exact List.Mem.head _ | exact List.Mem.tail _ (List.Mem.head _) | exact ⟨_, rfl⟩ | exact ⟨_, rfl, Or.inl rfl⟩ | (refine ⟨_, rfl, Or.inr ?_⟩; (try (conv => cbv))) | (simp only [I.val] at *; first | omega | (subst_vars; rfl) | simp_all) | (refine Or.inr ?_; (try (conv => cbv)))))) (by (try (conv => cbv)); (repeat' (first | exact trivial | rfl | exact SEq.mk rfl | (exact SEq.mk (by first | assumption | (symm; assumption))) | (simp only [I.val]; done) | (simp only [I.val]; omega) | omega | assumption | (refine And.intro ?_ ?_) | exact Or.inl rfl | exact Or.inr (by assumption) | exact List.Mem.head _ | exact List.Mem.tail _ (List.Mem.head _) | exact ⟨_, rfl⟩ | exact ⟨_, rfl, Or.inl rfl⟩ | (refine ⟨_, rfl, Or.inr ?_⟩; (try (conv => cbv))) | (simp only [I.val] at *; first | omega | (subst_vars; rfl) | simp_all) | (refine Or.inr ?_; (try (conv => cbv))))))) ⟨i5, rfl, by omega, by omega, by omega⟩
          · have gi : ¬ i4 < j := gi
            conv => cbv
            refine Br.mk (fun gz => ?_) (fun gz => ?_)
            · conv => cbv
              refine RetF.mk [.p (.bool true)] [] 0 (Re.of [] [] (by first | exact Nat.zero_le _ | exact Nat.le_refl _ | decide | (dsimp only; decide)) rfl rfl (by (try (conv => cbv)); (repeat' (first | exact trivial | rfl | exact SEq.mk rfl | (exact SEq.mk (by first | assumption | (symm; assumption))) | (simp only [I.val]; done) | (simp only [I.val]; omega) | omega | assumption | (refine And.intro ?_ ?_) | exact Or.inl rfl | exact Or.inr (by assumption) | exact List.Mem.head _ | exact List.Mem.tail _ (List.Mem.head _) | exact ⟨_, rfl⟩ | exact ⟨_, rfl, Or.inl rfl⟩ | (refine ⟨_, rfl, Or.inr ?_⟩; (try (conv => cbv))) | (simp only [I.val] at *; first | omega | (subst_vars; rfl) | simp_all) | (refine Or.inr ?_; (try (conv => cbv)))))) (by (try (conv => cbv)); (repeat' (first | exact trivial | rfl | exact SEq.mk rfl | (exact SEq.mk (by first | assumption | (symm; assumption))) | (simp only [I.val]; done) | (simp only [I.val]; omega) | omega | assumption | (refine And.intro ?_ ?_) | exact Or.inl rfl | exact Or.inr (by assumption) | exact List.Mem.head _ | exact List.Mem.tail _ (List.Mem.head _) | exact ⟨_, rfl⟩ | exact ⟨_, rfl, Or.inl rfl⟩ | (refine ⟨_, rfl, Or.inr ?_⟩; (try (conv => cbv))) | (simp only [I.val] at *; first | omega | (subst_vars; rfl) | simp_all) | (refine Or.inr ?_; (try (conv => cbv))))))) rfl rfl
            · have gz : ¬ j = 0 := gz
              conv => cbv
              refine Fit.wrap fun xg hxg => ?_
              have hxg : xg = IntKind.u64.wrap gone := hxg
              have hxg0 : 0 ≤ xg := by rw [hxg]; simp [IntKind.wrap, IntKind.bits, IntKind.signed]; omega
              clear hxg
              conv => cbv
              refine Fit.mk (by show (0 : Int) ≤ j; omega) (by show j ≤ 18446744073709551615; omega) fun ju hju => ?_
              have hju : ju = j := hju
              conv => cbv
              refine Need.mk (show ju ≠ 0 by omega) ?_
              conv => cbv
              refine Sum.mk fun yg hyg => ?_
              have hyg : yg = xg % ju := (show yg = xg.tmod ju from hyg).trans (Int.tmod_eq_emod_of_nonneg hxg0)
              have hyg0 : 0 ≤ yg := by rw [hyg]; exact Int.emod_nonneg _ (by omega)
              have hyg1 : yg < j := by rw [← hju, hyg]; exact Int.emod_lt_of_pos _ (by omega)
              clear hyg
              conv => cbv
              refine Fit.mk (by show (-9223372036854775808 : Int) ≤ yg; omega) (by show yg ≤ 9223372036854775807; omega) fun go hgo => ?_
              have hgo : go = yg := hgo
              have hgo0 : 0 ≤ go := by omega
              have hgo1 : go < j := by omega
              clear hgo hyg1 hyg0
              obtain ⟨x, kx, d, hx, hkx, hkept⟩ := hP.get (i := go.toNat) (by omega)
              have hcx : O[go.toNat]? = some (.int .i64 (.sym x)) := by rw [hO]; exact ipv_get hx
              have hck : N[go.toNat]? = some (.int .i64 (.sym kx)) := by rw [hN]; exact ipv_get hkx
              have hkb := hkept.bounds hP.ok
              conv => cbv
              refine Need.mk ⟨hgo0, hgo1⟩ ?_
              conv => cbv
              refine Cell.at go _ hcx (by simp [I.val]) rfl ?_
              conv => cbv
              refine callF_frame (freeA_lx x R w3 40 1280 L1 D3 hL1 hD3 hn40 hr1000 hP.ok rfl) [(0, 0), (1, 1), (2, 2), (3, 3)] rfl (by simp [hmapOk, nget, hget, renB, okB, renV, renVs, rn, okVs, okV]) rfl rfl (fun r h' n' hrr => ?_)
              obtain ⟨ef, R5, L5, e1, e2, e3, hL5, hFr⟩ := hrr
              subst e1 e2 e3
              conv => cbv
              obtain ⟨hef, hA5, hl5, hc5, hobj5⟩ := hP.free hkept hFr
              have hfew := hP.few
              have hn405 : (40 : Int) = R5.length := by rw [hl5]; rfl
              refine Need.mk ⟨hgo0, hgo1⟩ ?_
              conv => cbv
              refine Cell.at go _ hck (by simp [I.val]) rfl ?_
              conv => cbv
              refine CallF.le (args0 := [.ptr 0 (.lit 0), .p (.int .i64 (.sym 5)), .p (.int .i64 (.sym kx))]) (callF_frame (allocA_lx 5 kx R5 w3 40 1280 L5 D3 hL5 hD3 hn405 (by omega) hA5 rfl) [(0, 0), (1, 1), (2, 2), (3, 3)] rfl (by simp [hmapOk, nget, hget, renB, okB, renV, renVs, rn, okVs, okV]) rfl rfl (fun r h' n' hrr => ?_)) (by simp [ales, ale, pvle, I.val])
              obtain ⟨a6, e6, R6, w6, L6, D6, e1, e2, e3, hL6, hD6, hAl⟩ := hrr
              subst e1 e2 e3
              conv => cbv
              have he6 : e6 = 0 := by have := alloct_err hA5 hAl (by omega); rw [if_pos ⟨hkb.2.1, by omega, by decide, by decide⟩] at this; exact this
              obtain ⟨hA6, hl6⟩ := hA5.alloct hAl
              obtain ⟨hk6, hno6, hc6, _⟩ := alloct_ok hA5 hAl he6
              have hn406 : (40 : Int) = R6.length := by rw [hl6, hl5]; rfl
              have hcnt : j = objCount R6 := by omega
              have hxa : a6 = x ∨ a6 ∉ ats := by
                by_cases e : a6 = x
                · exact .inl e
                · exact .inr fun h => hno6 (hobj5 a6 h e)
              clear hAl hFr
              refine Br.mk (fun g => ?_) (fun g => ?_)
              case refine_2 =>
                have gf : False := g hef
                cases gf
              conv => cbv
              refine Br.mk (fun g => ?_) (fun g => ?_)
              case refine_2 =>
                have gf : False := g he6
                cases gf
              conv => cbv
              refine Need.mk ⟨hgo0, hgo1⟩ ?_
              conv => cbv
              refine Cell.at go _ hcx (by simp [I.val]) rfl ?_
              conv => cbv
              refine Br.mk (fun gx => ?_) (fun gx => ?_)
              · conv => cbv
                refine callF_frame (objects_lx j R6 40 1280 L6 D6 hL6 hn406 (by omega) hA6.rows rfl hcnt) [(0, 0), (1, 1), (2, 2), (3, 3)] rfl (by simp [hmapOk, nget, hget, renB, okB, renV, renVs, rn, okVs, okV]) rfl rfl (fun r h' n' hrr => ?_)
                obtain ⟨OO, e1, e2, e3, hOO⟩ := hrr
                subst e1 e2 e3
                conv => cbv
                refine Br.mk (fun g => ?_) (fun g => ?_)
                case refine_2 =>
                  have gf : False := g rfl
                  cases gf
                conv => cbv
                refine RetF.mk [.p (.bool true)] [] 0 (Re.of [] [] (by first | exact Nat.zero_le _ | exact Nat.le_refl _ | decide | (dsimp only; decide)) rfl rfl (by (try (conv => cbv)); (repeat' (first | exact trivial | rfl | exact SEq.mk rfl | (exact SEq.mk (by first | assumption | (symm; assumption))) | (simp only [I.val]; done) | (simp only [I.val]; omega) | omega | assumption | (refine And.intro ?_ ?_) | exact Or.inl rfl | exact Or.inr (by assumption) | exact List.Mem.head _ | exact List.Mem.tail _ (List.Mem.head _) | exact ⟨_, rfl⟩ | exact ⟨_, rfl, Or.inl rfl⟩ | (refine ⟨_, rfl, Or.inr ?_⟩; (try (conv => cbv))) | (simp only [I.val] at *; first | omega | (subst_vars; rfl) | simp_all) | (refine Or.inr ?_; (try (conv => cbv)))))) (by (try (conv => cbv)); (repeat' (first | exact trivial | rfl | exact SEq.mk rfl | (exact SEq.mk (by first | assumption | (symm; assumption))) | (simp only [I.val]; done) | (simp only [I.val]; omega) | omega | assumption | (refine And.intro ?_ ?_) | exact Or.inl rfl | exact Or.inr (by assumption) | exact List.Mem.head _ | exact List.Mem.tail _ (List.Mem.head _) | exact ⟨_, rfl⟩ | exact ⟨_, rfl, Or.inl rfl⟩ | (refine ⟨_, rfl, Or.inr ?_⟩; (try (conv => cbv))) | (simp only [I.val] at *; first | omega | (subst_vars; rfl) | simp_all) | (refine Or.inr ?_; (try (conv => cbv))))))) rfl rfl
              · have gx : ¬ a6 = x := gx
                have hnot6 : a6 ∉ ats := hxa.resolve_left gx
                conv => cbv
                refine callF_lend (in_lx ats a6 j O false hal hO (by omega) (decide_eq_false hnot6).symm) (by simp [lends, lendV, hget, I.val, pvle]) (fun r h' n' ⟨e1, e2, e3⟩ => by subst e1 e2; exact ⟨trivial, trivial⟩) (fun r h' n' ⟨e1, e2, e3⟩ => ?_)
                subst e1 e2 e3
                conv => cbv
                refine callF_frame (objects_lx j R6 40 1280 L6 D6 hL6 hn406 (by omega) hA6.rows rfl hcnt) [(0, 0), (1, 1), (2, 2), (3, 3)] rfl (by simp [hmapOk, nget, hget, renB, okB, renV, renVs, rn, okVs, okV]) rfl rfl (fun r h' n' hrr => ?_)
                obtain ⟨OO, e1, e2, e3, hOO⟩ := hrr
                subst e1 e2 e3
                conv => cbv
                refine Br.mk (fun g => ?_) (fun g => ?_)
                case refine_2 =>
                  have gf : False := g rfl
                  cases gf
                conv => cbv
                refine RetF.mk [.p (.bool true)] [] 0 (Re.of [] [] (by first | exact Nat.zero_le _ | exact Nat.le_refl _ | decide | (dsimp only; decide)) rfl rfl (by (try (conv => cbv)); (repeat' (first | exact trivial | rfl | exact SEq.mk rfl | (exact SEq.mk (by first | assumption | (symm; assumption))) | (simp only [I.val]; done) | (simp only [I.val]; omega) | omega | assumption | (refine And.intro ?_ ?_) | exact Or.inl rfl | exact Or.inr (by assumption) | exact List.Mem.head _ | exact List.Mem.tail _ (List.Mem.head _) | exact ⟨_, rfl⟩ | exact ⟨_, rfl, Or.inl rfl⟩ | (refine ⟨_, rfl, Or.inr ?_⟩; (try (conv => cbv))) | (simp only [I.val] at *; first | omega | (subst_vars; rfl) | simp_all) | (refine Or.inr ?_; (try (conv => cbv)))))) (by (try (conv => cbv)); (repeat' (first | exact trivial | rfl | exact SEq.mk rfl | (exact SEq.mk (by first | assumption | (symm; assumption))) | (simp only [I.val]; done) | (simp only [I.val]; omega) | omega | assumption | (refine And.intro ?_ ?_) | exact Or.inl rfl | exact Or.inr (by assumption) | exact List.Mem.head _ | exact List.Mem.tail _ (List.Mem.head _) | exact ⟨_, rfl⟩ | exact ⟨_, rfl, Or.inl rfl⟩ | (refine ⟨_, rfl, Or.inr ?_⟩; (try (conv => cbv))) | (simp only [I.val] at *; first | omega | (subst_vars; rfl) | simp_all) | (refine Or.inr ?_; (try (conv => cbv))))))) rfl rfl
      · have gi : ¬ i2 < mu := gi
        conv => cbv
        refine LoopF.mk (fun kk s => ∃ (i4 : Int), s = ⟨.undef :: .undef :: .p (.int .i64 (.sym gone)) :: (undefs 4 ++ .ptr 0 (.lit 0) :: .undef :: .sl 4 3 1 (.lit 0) (.sym j) :: .sl 5 3 1 (.lit 0) (.sym j) :: (undefs 8 ++ .p (.int .i64 (.sym i4)) :: undefs 202)), [(0, .mix [.ptr 1 (.lit 0), .sl 3 3 1 (.lit 0) (.sym 1280)]), (1, .mix [.sl 2 79 2 (.lit 0) (.sym 40)]), (2, .pure true L1), (3, .pure true D3), (4, .pure true O), (5, .pure true N)], 6⟩ ∧ 1 ≤ i4 ∧ (i4 ≤ j ∨ i4 = 1) ∧ kk = (j - i4).toNat) (j - 1).toNat _
          (Re.of [(0, 0), (1, 1), (2, 2), (3, 3), (4, 4), (5, 5)] [] (by first | exact Nat.zero_le _ | exact Nat.le_refl _ | decide | (dsimp only; decide)) rfl rfl (by (try (conv => cbv)); (repeat' (first | exact trivial | rfl | exact SEq.mk rfl | (exact SEq.mk (by first | assumption | (symm; assumption))) | (simp only [I.val]; done) | (simp only [I.val]; omega) | omega | assumption | (refine And.intro ?_ ?_) | exact Or.inl rfl | exact Or.inr (by assumption) | exact List.Mem.head _ | exact List.Mem.tail _ (List.Mem.head _) | exact ⟨_, rfl⟩ | exact ⟨_, rfl, Or.inl rfl⟩ | (refine ⟨_, rfl, Or.inr ?_⟩; (try (conv => cbv))) | (simp only [I.val] at *; first | omega | (subst_vars; rfl) | simp_all) | (refine Or.inr ?_; (try (conv => cbv)))))) (by (try (conv => cbv)); (repeat' (first | exact trivial | rfl | exact SEq.mk rfl | (exact SEq.mk (by first | assumption | (symm; assumption))) | (simp only [I.val]; done) | (simp only [I.val]; omega) | omega | assumption | (refine And.intro ?_ ?_) | exact Or.inl rfl | exact Or.inr (by assumption) | exact List.Mem.head _ | exact List.Mem.tail _ (List.Mem.head _) | exact ⟨_, rfl⟩ | exact ⟨_, rfl, Or.inl rfl⟩ | (refine ⟨_, rfl, Or.inr ?_⟩; (try (conv => cbv))) | (simp only [I.val] at *; first | omega | (subst_vars; rfl) | simp_all) | (refine Or.inr ?_; (try (conv => cbv))))))) ⟨1, rfl, by omega, by omega, by omega⟩ ?_
        rintro kk3 s ⟨i4, rfl, hi40, hi41, hk4⟩
        conv => cbv
        refine Br.mk (fun gi => ?_) (fun gi => ?_)
        · have gi : i4 < j := gi
          obtain ⟨k4', rfl⟩ : ∃ k', kk3 = k' + 1 := ⟨kk3 - 1, by omega⟩
          obtain ⟨x, kx, d, hx, hkx, hkept⟩ := hP.get (i := i4.toNat) (by omega)
          have hcx : O[i4.toNat]? = some (.int .i64 (.sym x)) := by rw [hO]; exact ipv_get hx
          have hck : N[i4.toNat]? = some (.int .i64 (.sym kx)) := by rw [hN]; exact ipv_get hkx
          have hkb := hkept.bounds hP.ok
          conv => cbv
          refine LoopF.mk (fun kk s => ∃ (q : Int), s = ⟨.undef :: .undef :: .p (.int .i64 (.sym gone)) :: (undefs 4 ++ .ptr 0 (.lit 0) :: .undef :: .sl 4 3 1 (.lit 0) (.sym j) :: .sl 5 3 1 (.lit 0) (.sym j) :: (undefs 8 ++ .p (.int .i64 (.sym i4)) :: .p (.int .i64 (.sym q)) :: undefs 201)), [(0, .mix [.ptr 1 (.lit 0), .sl 3 3 1 (.lit 0) (.sym 1280)]), (1, .mix [.sl 2 79 2 (.lit 0) (.sym 40)]), (2, .pure true L1), (3, .pure true D3), (4, .pure true O), (5, .pure true N)], 6⟩ ∧ 0 ≤ q ∧ q ≤ kx ∧ kk = (kx - q).toNat) kx.toNat _
            (Re.of [(0, 0), (1, 1), (2, 2), (3, 3), (4, 4), (5, 5)] [] (by first | exact Nat.zero_le _ | exact Nat.le_refl _ | decide | (dsimp only; decide)) rfl rfl (by (try (conv => cbv)); (repeat' (first | exact trivial | rfl | exact SEq.mk rfl | (exact SEq.mk (by first | assumption | (symm; assumption))) | (simp only [I.val]; done) | (simp only [I.val]; omega) | omega | assumption | (refine And.intro ?_ ?_) | exact Or.inl rfl | exact Or.inr (by assumption) | exact List.Mem.head _ | exact List.Mem.tail _ (List.Mem.head _) | exact ⟨_, rfl⟩ | exact ⟨_, rfl, Or.inl rfl⟩ | (refine ⟨_, rfl, Or.inr ?_⟩; (try (conv => cbv))) | (simp only [I.val] at *; first | omega | (subst_vars; rfl) | simp_all) | (refine Or.inr ?_; (try (conv => cbv)))))) (by (try (conv => cbv)); (repeat' (first | exact trivial | rfl | exact SEq.mk rfl | (exact SEq.mk (by first | assumption | (symm; assumption))) | (simp only [I.val]; done) | (simp only [I.val]; omega) | omega | assumption | (refine And.intro ?_ ?_) | exact Or.inl rfl | exact Or.inr (by assumption) | exact List.Mem.head _ | exact List.Mem.tail _ (List.Mem.head _) | exact ⟨_, rfl⟩ | exact ⟨_, rfl, Or.inl rfl⟩ | (refine ⟨_, rfl, Or.inr ?_⟩; (try (conv => cbv))) | (simp only [I.val] at *; first | omega | (subst_vars; rfl) | simp_all) | (refine Or.inr ?_; (try (conv => cbv))))))) ⟨0, rfl, by omega, by omega, by omega⟩ ?_
          rintro kk5 s ⟨q, rfl, hq0, hq1, hk5⟩
          conv => cbv
          refine Need.mk ⟨by show 0 ≤ i4; omega, gi⟩ ?_
          conv => cbv
          refine Cell.at i4 _ hck (by simp [I.val]) rfl ?_
          conv => cbv
          refine Br.mk (fun gq => ?_) (fun gq => ?_)
          · have gq : q < kx := gq
            obtain ⟨k5', rfl⟩ : ∃ k', kk5 = k' + 1 := ⟨kk5 - 1, by omega⟩
            conv => cbv
            refine Need.mk ⟨by show 0 ≤ i4; omega, gi⟩ ?_
            conv => cbv
            refine Cell.at i4 _ hcx (by simp [I.val]) rfl ?_
            conv => cbv
            refine callF_frame (load_lx q R w3 40 x 1280 L1 D3 hL1 hD3 hn40 hr1000 hP.ok rfl) [(0, 0), (1, 1), (2, 2), (3, 3)] rfl (by simp [hmapOk, nget, hget, renB, okB, renV, renVs, rn, okVs, okV]) rfl rfl (fun r h' n' hrr => ?_)
            obtain ⟨v, el, e1, e2, e3, hLd⟩ := hrr
            subst e1 e2 e3
            conv => cbv
            obtain ⟨hel, hv⟩ := loaded_of hkept ⟨hq0, gq⟩ hLd
            have hv2 : v = 100 * i4 + q := by
              have := hS i4.toNat x kx (by omega) hx hkx q hq0 gq
              rw [hv] at this
              have := Option.some.inj this
              omega
            refine Fit.mk (by show (-9223372036854775808 : Int) ≤ 100 * i4; omega) (by show 100 * i4 ≤ 9223372036854775807; omega) fun y1 hy1 => ?_
            have hy1 : y1 = 100 * i4 := hy1
            conv => cbv
            refine Fit.mk (by show (-9223372036854775808 : Int) ≤ y1 + q; omega) (by show y1 + q ≤ 9223372036854775807; omega) fun y hy => ?_
            have hy : y = y1 + q := hy
            conv => cbv
            refine Br.mk (fun g => ?_) (fun g => ?_)
            case refine_1 =>
              have gf : False := by have g : ¬ v = y := g; omega
              cases gf
            conv => cbv
            refine Br.mk (fun g => ?_) (fun g => ?_)
            case refine_1 =>
              have gf : False := g hel
              cases gf
            conv => cbv
            refine Fit.mk (by show (-9223372036854775808 : Int) ≤ q + 1; omega) (by show q + 1 ≤ 9223372036854775807; omega) fun q2 hq2 => ?_
            have hq2 : q2 = q + 1 := hq2
            conv => cbv
            refine Again.mk k5' _ (Nat.lt_succ_self _) (Re.of [(0, 0), (1, 1), (2, 2), (3, 3), (4, 4), (5, 5)] [] (by first | exact Nat.zero_le _ | exact Nat.le_refl _ | decide | (dsimp only; decide)) rfl rfl (by (try (conv => cbv)); (repeat' (first | exact trivial | rfl | exact SEq.mk rfl | (exact SEq.mk (by first | assumption | (symm; assumption))) | (simp only [I.val]; done) | (simp only [I.val]; omega) | omega | assumption | (refine And.intro ?_ ?_) | exact Or.inl rfl | exact Or.inr (by assumption) | exact List.Mem.head _ | exact List.Mem.tail _ (List.Mem.head _) | exact ⟨_, rfl⟩ | exact ⟨_, rfl, Or.inl rfl⟩ | (refine ⟨_, rfl, Or.inr ?_⟩; (try (conv => cbv))) | (simp only [I.val] at *; first | omega | (subst_vars; rfl) | simp_all) | (refine Or.inr ?_; (try (conv => cbv)))))) (by (try (conv => cbv)); (repeat' (first | exact trivial | rfl | exact SEq.mk rfl | (exact SEq.mk (by first | assumption | (symm; assumption))) | (simp only [I.val]; done) | (simp only [I.val]; omega) | omega | assumption | (refine And.intro ?_ ?_) | exact Or.inl rfl | exact Or.inr (by assumption) | exact List.Mem.head _ | exact List.Mem.tail _ (List.Mem.head _) | exact ⟨_, rfl⟩ | exact ⟨_, rfl, Or.inl rfl⟩ | (refine ⟨_, rfl, Or.inr ?_⟩; (try (conv => cbv))) | (simp only [I.val] at *; first | omega | (subst_vars; rfl) | simp_all) | (refine Or.inr ?_; (try (conv => cbv))))))) ⟨q2, rfl, by omega, by omega, by omega⟩
          · have gq : ¬ q < kx := gq
            conv => cbv
            refine Fit.mk (by show (-9223372036854775808 : Int) ≤ i4 + 1; omega) (by show i4 + 1 ≤ 9223372036854775807; omega) fun i5 hi5 => ?_
            have hi5 : i5 = i4 + 1 := hi5
            conv => cbv
            refine Again.mk k4' _ (Nat.lt_succ_self _) (Re.of [(0, 0), (1, 1), (2, 2), (3, 3), (4, 4), (5, 5)] [] (by first | exact Nat.zero_le _ | exact Nat.le_refl _ | decide | (dsimp only; decide)) rfl rfl (by (try (conv => cbv)); (repeat' (first | exact trivial | rfl | exact SEq.mk rfl | (exact SEq.mk (by first | assumption | (symm; assumption))) | (simp only [I.val]; done) | (simp only [I.val]; omega) | omega | assumption | (refine And.intro ?_ ?_) | exact Or.inl rfl | exact Or.inr (by assumption) | exact List.Mem.head _ | exact List.Mem.tail _ (List.Mem.head _) | exact ⟨_, rfl⟩ | exact ⟨_, rfl, Or.inl rfl⟩ | (refine ⟨_, rfl, Or.inr ?_⟩; (try (conv => cbv))) | (simp only [I.val] at *; first | omega | (subst_vars; rfl) | simp_all) | (refine Or.inr ?_; (try (conv => cbv)))))) (by (try (conv => cbv)); (repeat' (first | exact trivial | rfl | exact SEq.mk rfl | (exact SEq.mk (by first | assumption | (symm; assumption))) | (simp only [I.val]; done) | (simp only [I.val]; omega) | omega | assumption | (refine And.intro ?_ ?_) | exact Or.inl rfl | exact Or.inr (by assumption) | exact List.Mem.head _ | exact List.Mem.tail _ (List.Mem.head _) | exact ⟨_, rfl⟩ | exact ⟨_, rfl, Or.inl rfl⟩ | (refine ⟨_, rfl, Or.inr ?_⟩; (try (conv => cbv))) | (simp only [I.val] at *; first | omega | (subst_vars; rfl) | simp_all) | (refine Or.inr ?_; (try (conv => cbv))))))) ⟨i5, rfl, by omega, by omega, by omega⟩
        · have gi : ¬ i4 < j := gi
          conv => cbv
          refine Br.mk (fun gz => ?_) (fun gz => ?_)
          · conv => cbv
            refine RetF.mk [.p (.bool true)] [] 0 (Re.of [] [] (by first | exact Nat.zero_le _ | exact Nat.le_refl _ | decide | (dsimp only; decide)) rfl rfl (by (try (conv => cbv)); (repeat' (first | exact trivial | rfl | exact SEq.mk rfl | (exact SEq.mk (by first | assumption | (symm; assumption))) | (simp only [I.val]; done) | (simp only [I.val]; omega) | omega | assumption | (refine And.intro ?_ ?_) | exact Or.inl rfl | exact Or.inr (by assumption) | exact List.Mem.head _ | exact List.Mem.tail _ (List.Mem.head _) | exact ⟨_, rfl⟩ | exact ⟨_, rfl, Or.inl rfl⟩ | (refine ⟨_, rfl, Or.inr ?_⟩; (try (conv => cbv))) | (simp only [I.val] at *; first | omega | (subst_vars; rfl) | simp_all) | (refine Or.inr ?_; (try (conv => cbv)))))) (by (try (conv => cbv)); (repeat' (first | exact trivial | rfl | exact SEq.mk rfl | (exact SEq.mk (by first | assumption | (symm; assumption))) | (simp only [I.val]; done) | (simp only [I.val]; omega) | omega | assumption | (refine And.intro ?_ ?_) | exact Or.inl rfl | exact Or.inr (by assumption) | exact List.Mem.head _ | exact List.Mem.tail _ (List.Mem.head _) | exact ⟨_, rfl⟩ | exact ⟨_, rfl, Or.inl rfl⟩ | (refine ⟨_, rfl, Or.inr ?_⟩; (try (conv => cbv))) | (simp only [I.val] at *; first | omega | (subst_vars; rfl) | simp_all) | (refine Or.inr ?_; (try (conv => cbv))))))) rfl rfl
          · have gz : ¬ j = 0 := gz
            conv => cbv
            refine Fit.wrap fun xg hxg => ?_
            have hxg : xg = IntKind.u64.wrap gone := hxg
            have hxg0 : 0 ≤ xg := by rw [hxg]; simp [IntKind.wrap, IntKind.bits, IntKind.signed]; omega
            clear hxg
            conv => cbv
            refine Fit.mk (by show (0 : Int) ≤ j; omega) (by show j ≤ 18446744073709551615; omega) fun ju hju => ?_
            have hju : ju = j := hju
            conv => cbv
            refine Need.mk (show ju ≠ 0 by omega) ?_
            conv => cbv
            refine Sum.mk fun yg hyg => ?_
            have hyg : yg = xg % ju := (show yg = xg.tmod ju from hyg).trans (Int.tmod_eq_emod_of_nonneg hxg0)
            have hyg0 : 0 ≤ yg := by rw [hyg]; exact Int.emod_nonneg _ (by omega)
            have hyg1 : yg < j := by rw [← hju, hyg]; exact Int.emod_lt_of_pos _ (by omega)
            clear hyg
            conv => cbv
            refine Fit.mk (by show (-9223372036854775808 : Int) ≤ yg; omega) (by show yg ≤ 9223372036854775807; omega) fun go hgo => ?_
            have hgo : go = yg := hgo
            have hgo0 : 0 ≤ go := by omega
            have hgo1 : go < j := by omega
            clear hgo hyg1 hyg0
            obtain ⟨x, kx, d, hx, hkx, hkept⟩ := hP.get (i := go.toNat) (by omega)
            have hcx : O[go.toNat]? = some (.int .i64 (.sym x)) := by rw [hO]; exact ipv_get hx
            have hck : N[go.toNat]? = some (.int .i64 (.sym kx)) := by rw [hN]; exact ipv_get hkx
            have hkb := hkept.bounds hP.ok
            conv => cbv
            refine Need.mk ⟨hgo0, hgo1⟩ ?_
            conv => cbv
            refine Cell.at go _ hcx (by simp [I.val]) rfl ?_
            conv => cbv
            refine callF_frame (freeA_lx x R w3 40 1280 L1 D3 hL1 hD3 hn40 hr1000 hP.ok rfl) [(0, 0), (1, 1), (2, 2), (3, 3)] rfl (by simp [hmapOk, nget, hget, renB, okB, renV, renVs, rn, okVs, okV]) rfl rfl (fun r h' n' hrr => ?_)
            obtain ⟨ef, R5, L5, e1, e2, e3, hL5, hFr⟩ := hrr
            subst e1 e2 e3
            conv => cbv
            obtain ⟨hef, hA5, hl5, hc5, hobj5⟩ := hP.free hkept hFr
            have hfew := hP.few
            have hn405 : (40 : Int) = R5.length := by rw [hl5]; rfl
            refine Need.mk ⟨hgo0, hgo1⟩ ?_
            conv => cbv
            refine Cell.at go _ hck (by simp [I.val]) rfl ?_
            conv => cbv
            refine CallF.le (args0 := [.ptr 0 (.lit 0), .p (.int .i64 (.sym 5)), .p (.int .i64 (.sym kx))]) (callF_frame (allocA_lx 5 kx R5 w3 40 1280 L5 D3 hL5 hD3 hn405 (by omega) hA5 rfl) [(0, 0), (1, 1), (2, 2), (3, 3)] rfl (by simp [hmapOk, nget, hget, renB, okB, renV, renVs, rn, okVs, okV]) rfl rfl (fun r h' n' hrr => ?_)) (by simp [ales, ale, pvle, I.val])
            obtain ⟨a6, e6, R6, w6, L6, D6, e1, e2, e3, hL6, hD6, hAl⟩ := hrr
            subst e1 e2 e3
            conv => cbv
            have he6 : e6 = 0 := by have := alloct_err hA5 hAl (by omega); rw [if_pos ⟨hkb.2.1, by omega, by decide, by decide⟩] at this; exact this
            obtain ⟨hA6, hl6⟩ := hA5.alloct hAl
            obtain ⟨hk6, hno6, hc6, _⟩ := alloct_ok hA5 hAl he6
            have hn406 : (40 : Int) = R6.length := by rw [hl6, hl5]; rfl
            have hcnt : j = objCount R6 := by omega
            have hxa : a6 = x ∨ a6 ∉ ats := by
              by_cases e : a6 = x
              · exact .inl e
              · exact .inr fun h => hno6 (hobj5 a6 h e)
            clear hAl hFr
            refine Br.mk (fun g => ?_) (fun g => ?_)
            case refine_2 =>
              have gf : False := g hef
              cases gf
            conv => cbv
            refine Br.mk (fun g => ?_) (fun g => ?_)
            case refine_2 =>
              have gf : False := g he6
              cases gf
            conv => cbv
            refine Need.mk ⟨hgo0, hgo1⟩ ?_
            conv => cbv
            refine Cell.at go _ hcx (by simp [I.val]) rfl ?_
            conv => cbv
            refine Br.mk (fun gx => ?_) (fun gx => ?_)
            · conv => cbv
              refine callF_frame (objects_lx j R6 40 1280 L6 D6 hL6 hn406 (by omega) hA6.rows rfl hcnt) [(0, 0), (1, 1), (2, 2), (3, 3)] rfl (by simp [hmapOk, nget, hget, renB, okB, renV, renVs, rn, okVs, okV]) rfl rfl (fun r h' n' hrr => ?_)
              obtain ⟨OO, e1, e2, e3, hOO⟩ := hrr
              subst e1 e2 e3
              conv => cbv
              refine Br.mk (fun g => ?_) (fun g => ?_)
              case refine_2 =>
                have gf : False := g rfl
                cases gf
              conv => cbv
              refine RetF.mk [.p (.bool true)] [] 0 (Re.of [] [] (by first | exact Nat.zero_le _ | exact Nat.le_refl _ | decide | (dsimp only; decide)) rfl rfl (by (try (conv => cbv)); (repeat' (first | exact trivial | rfl | exact SEq.mk rfl | (exact SEq.mk (by first | assumption | (symm; assumption))) | (simp only [I.val]; done) | (simp only [I.val]; omega) | omega | assumption | (refine And.intro ?_ ?_) | exact Or.inl rfl | exact Or.inr (by assumption) | exact List.Mem.head _ | exact List.Mem.tail _ (List.Mem.head _) | exact ⟨_, rfl⟩ | exact ⟨_, rfl, Or.inl rfl⟩ | (refine ⟨_, rfl, Or.inr ?_⟩; (try (conv => cbv))) | (simp only [I.val] at *; first | omega | (subst_vars; rfl) | simp_all) | (refine Or.inr ?_; (try (conv => cbv)))))) (by (try (conv => cbv)); (repeat' (first | exact trivial | rfl | exact SEq.mk rfl | (exact SEq.mk (by first | assumption | (symm; assumption))) | (simp only [I.val]; done) | (simp only [I.val]; omega) | omega | assumption | (refine And.intro ?_ ?_) | exact Or.inl rfl | exact Or.inr (by assumption) | exact List.Mem.head _ | exact List.Mem.tail _ (List.Mem.head _) | exact ⟨_, rfl⟩ | exact ⟨_, rfl, Or.inl rfl⟩ | (refine ⟨_, rfl, Or.inr ?_⟩; (try (conv => cbv))) | (simp only [I.val] at *; first | omega | (subst_vars; rfl) | simp_all) | (refine Or.inr ?_; (try (conv => cbv))))))) rfl rfl
            · have gx : ¬ a6 = x := gx
              have hnot6 : a6 ∉ ats := hxa.resolve_left gx
              conv => cbv
              refine callF_lend (in_lx ats a6 j O false hal hO (by omega) (decide_eq_false hnot6).symm) (by simp [lends, lendV, hget, I.val, pvle]) (fun r h' n' ⟨e1, e2, e3⟩ => by subst e1 e2; exact ⟨trivial, trivial⟩) (fun r h' n' ⟨e1, e2, e3⟩ => ?_)
              subst e1 e2 e3
              conv => cbv
              refine callF_frame (objects_lx j R6 40 1280 L6 D6 hL6 hn406 (by omega) hA6.rows rfl hcnt) [(0, 0), (1, 1), (2, 2), (3, 3)] rfl (by simp [hmapOk, nget, hget, renB, okB, renV, renVs, rn, okVs, okV]) rfl rfl (fun r h' n' hrr => ?_)
              obtain ⟨OO, e1, e2, e3, hOO⟩ := hrr
              subst e1 e2 e3
              conv => cbv
              refine Br.mk (fun g => ?_) (fun g => ?_)
              case refine_2 =>
                have gf : False := g rfl
                cases gf
              conv => cbv
              refine RetF.mk [.p (.bool true)] [] 0 (Re.of [] [] (by first | exact Nat.zero_le _ | exact Nat.le_refl _ | decide | (dsimp only; decide)) rfl rfl (by (try (conv => cbv)); (repeat' (first | exact trivial | rfl | exact SEq.mk rfl | (exact SEq.mk (by first | assumption | (symm; assumption))) | (simp only [I.val]; done) | (simp only [I.val]; omega) | omega | assumption | (refine And.intro ?_ ?_) | exact Or.inl rfl | exact Or.inr (by assumption) | exact List.Mem.head _ | exact List.Mem.tail _ (List.Mem.head _) | exact ⟨_, rfl⟩ | exact ⟨_, rfl, Or.inl rfl⟩ | (refine ⟨_, rfl, Or.inr ?_⟩; (try (conv => cbv))) | (simp only [I.val] at *; first | omega | (subst_vars; rfl) | simp_all) | (refine Or.inr ?_; (try (conv => cbv)))))) (by (try (conv => cbv)); (repeat' (first | exact trivial | rfl | exact SEq.mk rfl | (exact SEq.mk (by first | assumption | (symm; assumption))) | (simp only [I.val]; done) | (simp only [I.val]; omega) | omega | assumption | (refine And.intro ?_ ?_) | exact Or.inl rfl | exact Or.inr (by assumption) | exact List.Mem.head _ | exact List.Mem.tail _ (List.Mem.head _) | exact ⟨_, rfl⟩ | exact ⟨_, rfl, Or.inl rfl⟩ | (refine ⟨_, rfl, Or.inr ?_⟩; (try (conv => cbv))) | (simp only [I.val] at *; first | omega | (subst_vars; rfl) | simp_all) | (refine Or.inr ?_; (try (conv => cbv))))))) rfl rfl
  · have gi : ¬ i < m := gi
    have hPl := hP.len
    have hn40 : (40 : Int) = R.length := by rw [hPl]; rfl
    have hr1000 : R.length ≤ 1000 := by omega
    have hal : j = ats.length := by rw [hj, hg]
    have hS1 := hS.weak (lo' := 1) (by decide)
    conv => cbv
    refine LoopF.mk (fun kk s => ∃ (i2 : Int) (D3 : List PV) (w3 : List Int), s = ⟨.undef :: .p (.vsl (.sym mu) true UL) :: .p (.int .i64 (.sym gone)) :: (undefs 4 ++ .ptr 0 (.lit 0) :: .undef :: .sl 4 3 1 (.lit 0) (.sym j) :: .sl 5 3 1 (.lit 0) (.sym j) :: (undefs 7 ++ .p (.int .i64 (.sym i2)) :: undefs 203)), [(0, .mix [.ptr 1 (.lit 0), .sl 3 3 1 (.lit 0) (.sym 1280)]), (1, .mix [.sl 2 79 2 (.lit 0) (.sym 40)]), (2, .pure true L1), (3, .pure true D3), (4, .pure true O), (5, .pure true N)], 6⟩ ∧ Apart R w3 ats ns ∧ Says w3 ats ns 1 ∧ D3 = ipv w3 ∧ 0 ≤ i2 ∧ i2 ≤ 10 ∧ kk = (10 - i2).toNat) 10 _
      (Re.of [(0, 0), (1, 1), (2, 2), (3, 3), (4, 4), (5, 5)] [] (by first | exact Nat.zero_le _ | exact Nat.le_refl _ | decide | (dsimp only; decide)) rfl rfl (by (try (conv => cbv)); (repeat' (first | exact trivial | rfl | exact SEq.mk rfl | (exact SEq.mk (by first | assumption | (symm; assumption))) | (simp only [I.val]; done) | (simp only [I.val]; omega) | omega | assumption | (refine And.intro ?_ ?_) | exact Or.inl rfl | exact Or.inr (by assumption) | exact List.Mem.head _ | exact List.Mem.tail _ (List.Mem.head _) | exact ⟨_, rfl⟩ | exact ⟨_, rfl, Or.inl rfl⟩ | (refine ⟨_, rfl, Or.inr ?_⟩; (try (conv => cbv))) | (simp only [I.val] at *; first | omega | (subst_vars; rfl) | simp_all) | (refine Or.inr ?_; (try (conv => cbv)))))) (by (try (conv => cbv)); (repeat' (first | exact trivial | rfl | exact SEq.mk rfl | (exact SEq.mk (by first | assumption | (symm; assumption))) | (simp only [I.val]; done) | (simp only [I.val]; omega) | omega | assumption | (refine And.intro ?_ ?_) | exact Or.inl rfl | exact Or.inr (by assumption) | exact List.Mem.head _ | exact List.Mem.tail _ (List.Mem.head _) | exact ⟨_, rfl⟩ | exact ⟨_, rfl, Or.inl rfl⟩ | (refine ⟨_, rfl, Or.inr ?_⟩; (try (conv => cbv))) | (simp only [I.val] at *; first | omega | (subst_vars; rfl) | simp_all) | (refine Or.inr ?_; (try (conv => cbv))))))) ⟨0, D1, ws, rfl, hP, hS1, hD1, by omega, by omega, by omega⟩ ?_
    clear hS1 hS hP hD1
    rintro kk s ⟨i2, D3, w3, rfl, hP, hS, hD3, hi20, hi21, hk2⟩
    conv => cbv
    refine Br.mk (fun gi => ?_) (fun gi => ?_)
    · have gi : i2 < mu := gi
      conv => cbv
      refine Br.mk (fun gi2 => ?_) (fun gi2 => ?_)
      · have gi2 : i2 < 10 := gi2
        conv => cbv
        refine Br.mk (fun gj => ?_) (fun gj => ?_)
        · have gj : 0 < j := gj
          obtain ⟨k', rfl⟩ : ∃ k', kk = k' + 1 := ⟨kk - 1, by omega⟩
          obtain ⟨y, hy⟩ : ∃ y, us[i2.toNat]? = some y := ⟨_, List.getElem?_eq_getElem (by omega)⟩
          have hyb := hub y (List.mem_of_getElem? hy)
          have hcy : UL[i2.toNat]? = some (.int .i64 (.sym y)) := by rw [hUL, List.getElem?_map, hy]; rfl
          obtain ⟨x, hx⟩ : ∃ x, ats[0]? = some x := ⟨_, List.getElem?_eq_getElem (by omega)⟩
          have hcx : O[0]? = some (.int .i64 (.sym x)) := by rw [hO]; exact ipv_get hx
          conv => cbv
          refine drawn_sound tok (by kernel_rfl) [(9, [])] [0, 1, 2, 3, 4, 5, 6, 7, 8, 9] (by kernel_rfl) ?_; conv => cbv
          refine Need.mk ⟨by decide, gj⟩ ?_
          conv => cbv
          refine Cell.at 0 0 hcx rfl rfl ?_
          conv => cbv
          refine Need.mk ⟨hi20, by show i2 < mu; omega⟩ ?_
          conv => cbv
          refine Cell.at i2 _ hcy (by simp [I.val]) rfl ?_
          conv => cbv
          refine callF_frame (store_lx i2 y R w3 40 x 1280 L1 D3 hL1 hD3 hn40 hr1000 hP.ok rfl) [(0, 0), (1, 1), (2, 2), (3, 3)] rfl (by simp [hmapOk, nget, hget, renB, okB, renV, renVs, rn, okVs, okV]) rfl rfl (fun r h' n' hrr => ?_)
          obtain ⟨es, w4, D4, e1, e2, e3, hD4, hSt⟩ := hrr
          subst e1 e2 e3
          conv => cbv
          obtain ⟨hP4, hS4⟩ := hP.stored0 hS hx hyb hSt
          refine Fit.mk (by show (-9223372036854775808 : Int) ≤ i2 + 1; omega) (by show i2 + 1 ≤ 9223372036854775807; omega) fun i3 hi3 => ?_
          have hi3 : i3 = i2 + 1 := hi3
          conv => cbv
          refine Again.mk k' _ (Nat.lt_succ_self _) (Re.of [(0, 0), (1, 1), (2, 2), (3, 3), (4, 4), (5, 5)] [] (by first | exact Nat.zero_le _ | exact Nat.le_refl _ | decide | (dsimp only; decide)) rfl rfl (by (try (conv => cbv)); (repeat' (first | exact trivial | rfl | exact SEq.mk rfl | (exact SEq.mk (by first | assumption | (symm; assumption))) | (simp only [I.val]; done) | (simp only [I.val]; omega) | omega | assumption | (refine And.intro ?_ ?_) | exact Or.inl rfl | exact Or.inr (by assumption) | exact List.Mem.head _ | exact List.Mem.tail _ (List.Mem.head _) | exact ⟨_, rfl⟩ | exact ⟨_, rfl, Or.inl rfl⟩ | (refine ⟨_, rfl, Or.inr ?_⟩; (try (conv => cbv))) | (simp only [I.val] at *; first | omega | (subst_vars; rfl) | simp_all) | (refine Or.inr ?_; (try (conv => cbv)))))) (by (try (conv => cbv)); (repeat' (first | exact trivial | rfl | exact SEq.mk rfl | (exact SEq.mk (by first | assumption | (symm; assumption))) | (simp only [I.val]; done) | (simp only [I.val]; omega) | omega | assumption | (refine And.intro ?_ ?_) | exact Or.inl rfl | exact Or.inr (by assumption) | exact List.Mem.head _ | exact List.Mem.tail _ (List.Mem.head _) | exact ⟨_, rfl⟩ | exact ⟨_, rfl, Or.inl rfl⟩ | (refine ⟨_, rfl, Or.inr ?_⟩; (try (conv => cbv))) | (simp only [I.val] at *; first | omega | (subst_vars; rfl) | simp_all) | (refine Or.inr ?_; (try (conv => cbv))))))) ⟨i3, D4, w4, rfl, hP4, hS4, hD4, by omega, by omega, by omega⟩
        · have gj : ¬ 0 < j := gj
          conv => cbv
          refine LoopF.mk (fun kk s => ∃ (i4 : Int), s = ⟨.undef :: .undef :: .p (.int .i64 (.sym gone)) :: (undefs 4 ++ .ptr 0 (.lit 0) :: .undef :: .sl 4 3 1 (.lit 0) (.sym j) :: .sl 5 3 1 (.lit 0) (.sym j) :: (undefs 8 ++ .p (.int .i64 (.sym i4)) :: undefs 202)), [(0, .mix [.ptr 1 (.lit 0), .sl 3 3 1 (.lit 0) (.sym 1280)]), (1, .mix [.sl 2 79 2 (.lit 0) (.sym 40)]), (2, .pure true L1), (3, .pure true D3), (4, .pure true O), (5, .pure true N)], 6⟩ ∧ 1 ≤ i4 ∧ (i4 ≤ j ∨ i4 = 1) ∧ kk = (j - i4).toNat) (j - 1).toNat _
            (Re.of [(0, 0), (1, 1), (2, 2), (3, 3), (4, 4), (5, 5)] [] (by first | exact Nat.zero_le _ | exact Nat.le_refl _ | decide | (dsimp only; decide)) rfl rfl (by (try (conv => cbv)); (repeat' (first | exact trivial | rfl | exact SEq.mk rfl | (exact SEq.mk (by first | assumption | (symm; assumption))) | (simp only [I.val]; done) | (simp only [I.val]; omega) | omega | assumption | (refine And.intro ?_ ?_) | exact Or.inl rfl | exact Or.inr (by assumption) | exact List.Mem.head _ | exact List.Mem.tail _ (List.Mem.head _) | exact ⟨_, rfl⟩ | exact ⟨_, rfl, Or.inl rfl⟩ | (refine ⟨_, rfl, Or.inr ?_⟩; (try (conv => cbv))) | (simp only [I.val] at *; first | omega | (subst_vars; rfl) | simp_all) | (refine Or.inr ?_; (try (conv => cbv)))))) (by (try (conv => cbv)); (repeat' (first | exact trivial | rfl | exact SEq.mk rfl | (exact SEq.mk (by first | assumption | (symm; assumption))) | (simp only [I.val]; done) | (simp only [I.val]; omega) | omega | assumption | (refine And.intro ?_ ?_) | exact Or.inl rfl | exact Or.inr (by assumption) | exact List.Mem.head _ | exact List.Mem.tail _ (List.Mem.head _) | exact ⟨_, rfl⟩ | exact ⟨_, rfl, Or.inl rfl⟩ | (refine ⟨_, rfl, Or.inr ?_⟩; (try (conv => cbv))) | (simp only [I.val] at *; first | omega | (subst_vars; rfl) | simp_all) | (refine Or.inr ?_; (try (conv => cbv))))))) ⟨1, rfl, by omega, by omega, by omega⟩ ?_
          rintro kk3 s ⟨i4, rfl, hi40, hi41, hk4⟩
          conv => cbv
          refine Br.mk (fun gi => ?_) (fun gi => ?_)
          · have gi : i4 < j := gi
            obtain ⟨k4', rfl⟩ : ∃ k', kk3 = k' + 1 := ⟨kk3 - 1, by omega⟩
            obtain ⟨x, kx, d, hx, hkx, hkept⟩ := hP.get (i := i4.toNat) (by omega)
            have hcx : O[i4.toNat]? = some (.int .i64 (.sym x)) := by rw [hO]; exact ipv_get hx
            have hck : N[i4.toNat]? = some (.int .i64 (.sym kx)) := by rw [hN]; exact ipv_get hkx
            have hkb := hkept.bounds hP.ok
            conv => cbv
            refine LoopF.mk (fun kk s => ∃ (q : Int), s = ⟨.undef :: .undef :: .p (.int .i64 (.sym gone)) :: (undefs 4 ++ .ptr 0 (.lit 0) :: .undef :: .sl 4 3 1 (.lit 0) (.sym j) :: .sl 5 3 1 (.lit 0) (.sym j) :: (undefs 8 ++ .p (.int .i64 (.sym i4)) :: .p (.int .i64 (.sym q)) :: undefs 201)), [(0, .mix [.ptr 1 (.lit 0), .sl 3 3 1 (.lit 0) (.sym 1280)]), (1, .mix [.sl 2 79 2 (.lit 0) (.sym 40)]), (2, .pure true L1), (3, .pure true D3), (4, .pure true O), (5, .pure true N)], 6⟩ ∧ 0 ≤ q ∧ q ≤ kx ∧ kk = (kx - q).toNat) kx.toNat _
              (Re.of [(0, 0), (1, 1), (2, 2), (3, 3), (4, 4), (5, 5)] [] (by first | exact Nat.zero_le _ | exact Nat.le_refl _ | decide | (dsimp only; decide)) rfl rfl (by (try (conv => cbv)); (repeat' (first | exact trivial | rfl | exact SEq.mk rfl | (exact SEq.mk (by first | assumption | (symm; assumption))) | (simp only [I.val]; done) | (simp only [I.val]; omega) | omega | assumption | (refine And.intro ?_ ?_) | exact Or.inl rfl | exact Or.inr (by assumption) | exact List.Mem.head _ | exact List.Mem.tail _ (List.Mem.head _) | exact ⟨_, rfl⟩ | exact ⟨_, rfl, Or.inl rfl⟩ | (refine ⟨_, rfl, Or.inr ?_⟩; (try (conv => cbv))) | (simp only [I.val] at *; first | omega | (subst_vars; rfl) | simp_all) | (refine Or.inr ?_; (try (conv => cbv)))))) (by (try (conv => cbv)); (repeat' (first | exact trivial | rfl | exact SEq.mk rfl | (exact SEq.mk (by first | assumption | (symm; assumption))) | (simp only [I.val]; done) | (simp only [I.val]; omega) | omega | assumption | (refine And.intro ?_ ?_) | exact Or.inl rfl | exact Or.inr (by assumption) | exact List.Mem.head _ | exact List.Mem.tail _ (List.Mem.head _) | exact ⟨_, rfl⟩ | exact ⟨_, rfl, Or.inl rfl⟩ | (refine ⟨_, rfl, Or.inr ?_⟩; (try (conv => cbv))) | (simp only [I.val] at *; first | omega | (subst_vars; rfl) | simp_all) | (refine Or.inr ?_; (try (conv => cbv))))))) ⟨0, rfl, by omega, by omega, by omega⟩ ?_
            rintro kk5 s ⟨q, rfl, hq0, hq1, hk5⟩
            conv => cbv
            refine Need.mk ⟨by show 0 ≤ i4; omega, gi⟩ ?_
            conv => cbv
            refine Cell.at i4 _ hck (by simp [I.val]) rfl ?_
            conv => cbv
            refine Br.mk (fun gq => ?_) (fun gq => ?_)
            · have gq : q < kx := gq
              obtain ⟨k5', rfl⟩ : ∃ k', kk5 = k' + 1 := ⟨kk5 - 1, by omega⟩
              conv => cbv
              refine Need.mk ⟨by show 0 ≤ i4; omega, gi⟩ ?_
              conv => cbv
              refine Cell.at i4 _ hcx (by simp [I.val]) rfl ?_
              conv => cbv
              refine callF_frame (load_lx q R w3 40 x 1280 L1 D3 hL1 hD3 hn40 hr1000 hP.ok rfl) [(0, 0), (1, 1), (2, 2), (3, 3)] rfl (by simp [hmapOk, nget, hget, renB, okB, renV, renVs, rn, okVs, okV]) rfl rfl (fun r h' n' hrr => ?_)
              obtain ⟨v, el, e1, e2, e3, hLd⟩ := hrr
              subst e1 e2 e3
              conv => cbv
              obtain ⟨hel, hv⟩ := loaded_of hkept ⟨hq0, gq⟩ hLd
              have hv2 : v = 100 * i4 + q := by
                have := hS i4.toNat x kx (by omega) hx hkx q hq0 gq
                rw [hv] at this
                have := Option.some.inj this
                omega
              refine Fit.mk (by show (-9223372036854775808 : Int) ≤ 100 * i4; omega) (by show 100 * i4 ≤ 9223372036854775807; omega) fun y1 hy1 => ?_
              have hy1 : y1 = 100 * i4 := hy1
              conv => cbv
              refine Fit.mk (by show (-9223372036854775808 : Int) ≤ y1 + q; omega) (by show y1 + q ≤ 9223372036854775807; omega) fun y hy => ?_
              have hy : y = y1 + q := hy
              conv => cbv
              refine Br.mk (fun g => ?_) (fun g => ?_)
              case refine_1 =>
                have gf : False := by have g : ¬ v = y := g; omega
                cases gf
              conv => cbv
              refine Br.mk (fun g => ?_) (fun g => ?_)
              case refine_1 =>
                have gf : False := g hel
                cases gf
              conv => cbv
              refine Fit.mk (by show (-9223372036854775808 : Int) ≤ q + 1; omega) (by show q + 1 ≤ 9223372036854775807; omega) fun q2 hq2 => ?_
              have hq2 : q2 = q + 1 := hq2
              conv => cbv
              refine Again.mk k5' _ (Nat.lt_succ_self _) (Re.of [(0, 0), (1, 1), (2, 2), (3, 3), (4, 4), (5, 5)] [] (by first | exact Nat.zero_le _ | exact Nat.le_refl _ | decide | (dsimp only; decide)) rfl rfl (by (try (conv => cbv)); (repeat' (first | exact trivial | rfl | exact SEq.mk rfl | (exact SEq.mk (by first | assumption | (symm; assumption))) | (simp only [I.val]; done) | (simp only [I.val]; omega) | omega | assumption | (refine And.intro ?_ ?_) | exact Or.inl rfl | exact Or.inr (by assumption) | exact List.Mem.head _ | exact List.Mem.tail _ (List.Mem.head _) | exact ⟨_, rfl⟩ | exact ⟨_, rfl, Or.inl rfl⟩ | (refine ⟨_, rfl, Or.inr ?_⟩; (try (conv => cbv))) | (simp only [I.val] at *; first | omega | (subst_vars; rfl) | simp_all) | (refine Or.inr ?_; (try (conv => cbv)))))) (by (try (conv => cbv)); (repeat' (first | exact trivial | rfl | exact SEq.mk rfl | (exact SEq.mk (by first | assumption | (symm; assumption))) | (simp only [I.val]; done) | (simp only [I.val]; omega) | omega | assumption | (refine And.intro ?_ ?_) | exact Or.inl rfl | exact Or.inr (by assumption) | exact List.Mem.head _ | exact List.Mem.tail _ (List.Mem.head _) | exact ⟨_, rfl⟩ | exact ⟨_, rfl, Or.inl rfl⟩ | (refine ⟨_, rfl, Or.inr ?_⟩; (try (conv => cbv))) | (simp only [I.val] at *; first | omega | (subst_vars; rfl) | simp_all) | (refine Or.inr ?_; (try (conv => cbv))))))) ⟨q2, rfl, by omega, by omega, by omega⟩
            · have gq : ¬ q < kx := gq
              conv => cbv
              refine Fit.mk (by show (-9223372036854775808 : Int) ≤ i4 + 1; omega) (by show i4 + 1 ≤ 9223372036854775807; omega) fun i5 hi5 => ?_
              have hi5 : i5 = i4 + 1 := hi5
              conv => cbv
              refine Again.mk k4' _ (Nat.lt_succ_self _) (Re.of [(0, 0), (1, 1), (2, 2), (3, 3), (4, 4), (5, 5)] [] (by first | exact Nat.zero_le _ | exact Nat.le_refl _ | decide | (dsimp only; decide)) rfl rfl (by (try (conv => cbv)); (repeat' (first | exact trivial | rfl | exact SEq.mk rfl | (exact SEq.mk (by first | assumption | (symm; assumption))) | (simp only [I.val]; done) | (simp only [I.val]; omega) | omega | assumption | (refine And.intro ?_ ?_) | exact Or.inl rfl | exact Or.inr (by assumption) | exact List.Mem.head _ | exact List.Mem.tail _ (List.Mem.head _) | exact ⟨_, rfl⟩ | exact ⟨_, rfl, Or.inl rfl⟩ | (refine ⟨_, rfl, Or.inr ?_⟩; (try (conv => cbv))) | (simp only [I.val] at *; first | omega | (subst_vars; rfl) | simp_all) | (refine Or.inr ?_; (try (conv => cbv)))))) (by (try (conv => cbv)); (repeat' (first | exact trivial | rfl | exact SEq.mk rfl | (exact SEq.mk (by first | assumption | (symm; assumption))) | (simp only [I.val]; done) | (simp only [I.val]; omega) | omega | assumption | (refine And.intro ?_ ?_) | exact Or.inl rfl | exact Or.inr (by assumption) | exact List.Mem.head _ | exact List.Mem.tail _ (List.Mem.head _) | exact ⟨_, rfl⟩ | exact ⟨_, rfl, Or.inl rfl⟩ | (refine ⟨_, rfl, Or.inr ?_⟩; (try (conv => cbv))) | (simp only [I.val] at *; first | omega | (subst_vars; rfl) | simp_all) | (refine Or.inr ?_; (try (conv => cbv))))))) ⟨i5, rfl, by omega, by omega, by omega⟩
          · have gi : ¬ i4 < j := gi
            conv => cbv
            refine Br.mk (fun gz => ?_) (fun gz => ?_)
            · conv => cbv
              refine RetF.mk [.p (.bool true)] [] 0 (Re.of [] [] (by first | exact Nat.zero_le _ | exact Nat.le_refl _ | decide | (dsimp only; decide)) rfl rfl (by (try (conv => cbv)); (repeat' (first | exact trivial | rfl | exact SEq.mk rfl | (exact SEq.mk (by first | assumption | (symm; assumption))) | (simp only [I.val]; done) | (simp only [I.val]; omega) | omega | assumption | (refine And.intro ?_ ?_) | exact Or.inl rfl | exact Or.inr (by assumption) | exact List.Mem.head _ | exact List.Mem.tail _ (List.Mem.head _) | exact ⟨_, rfl⟩ | exact ⟨_, rfl, Or.inl rfl⟩ | (refine ⟨_, rfl, Or.inr ?_⟩; (try (conv => cbv))) | (simp only [I.val] at *; first | omega | (subst_vars; rfl) | simp_all) | (refine Or.inr ?_; (try (conv => cbv)))))) (by (try (conv => cbv)); (repeat' (first | exact trivial | rfl | exact SEq.mk rfl | (exact SEq.mk (by first | assumption | (symm; assumption))) | (simp only [I.val]; done) | (simp only [I.val]; omega) | omega | assumption | (refine And.intro ?_ ?_) | exact Or.inl rfl | exact Or.inr (by assumption) | exact List.Mem.head _ | exact List.Mem.tail _ (List.Mem.head _) | exact ⟨_, rfl⟩ | exact ⟨_, rfl, Or.inl rfl⟩ | (refine ⟨_, rfl, Or.inr ?_⟩; (try (conv => cbv))) | (simp only [I.val] at *; first | omega | (subst_vars; rfl) | simp_all) | (refine Or.inr ?_; (try (conv => cbv))))))) rfl rfl
            · have gz : ¬ j = 0 := gz
              conv => cbv
              refine Fit.wrap fun xg hxg => ?_
              have hxg : xg = IntKind.u64.wrap gone := hxg
              have hxg0 : 0 ≤ xg := by rw [hxg]; simp [IntKind.wrap, IntKind.bits, IntKind.signed]; omega
              clear hxg
              conv => cbv
              refine Fit.mk (by show (0 : Int) ≤ j; omega) (by show j ≤ 18446744073709551615; omega) fun ju hju => ?_
              have hju : ju = j := hju
              conv => cbv
              refine Need.mk (show ju ≠ 0 by omega) ?_
              conv => cbv
              refine Sum.mk fun yg hyg => ?_
              have hyg : yg = xg % ju := (show yg = xg.tmod ju from hyg).trans (Int.tmod_eq_emod_of_nonneg hxg0)
              have hyg0 : 0 ≤ yg := by rw [hyg]; exact Int.emod_nonneg _ (by omega)
              have hyg1 : yg < j := by rw [← hju, hyg]; exact Int.emod_lt_of_pos _ (by omega)
              clear hyg
              conv => cbv
              refine Fit.mk (by show (-9223372036854775808 : Int) ≤ yg; omega) (by show yg ≤ 9223372036854775807; omega) fun go hgo => ?_
              have hgo : go = yg := hgo
              have hgo0 : 0 ≤ go := by omega
              have hgo1 : go < j := by omega
              clear hgo hyg1 hyg0
              obtain ⟨x, kx, d, hx, hkx, hkept⟩ := hP.get (i := go.toNat) (by omega)
              have hcx : O[go.toNat]? = some (.int .i64 (.sym x)) := by rw [hO]; exact ipv_get hx
              have hck : N[go.toNat]? = some (.int .i64 (.sym kx)) := by rw [hN]; exact ipv_get hkx
              have hkb := hkept.bounds hP.ok
              conv => cbv
              refine Need.mk ⟨hgo0, hgo1⟩ ?_
              conv => cbv
              refine Cell.at go _ hcx (by simp [I.val]) rfl ?_
              conv => cbv
              refine callF_frame (freeA_lx x R w3 40 1280 L1 D3 hL1 hD3 hn40 hr1000 hP.ok rfl) [(0, 0), (1, 1), (2, 2), (3, 3)] rfl (by simp [hmapOk, nget, hget, renB, okB, renV, renVs, rn, okVs, okV]) rfl rfl (fun r h' n' hrr => ?_)
              obtain ⟨ef, R5, L5, e1, e2, e3, hL5, hFr⟩ := hrr
              subst e1 e2 e3
              conv => cbv
              obtain ⟨hef, hA5, hl5, hc5, hobj5⟩ := hP.free hkept hFr
              have hfew := hP.few
              have hn405 : (40 : Int) = R5.length := by rw [hl5]; rfl
              refine Need.mk ⟨hgo0, hgo1⟩ ?_
              conv => cbv
              refine Cell.at go _ hck (by simp [I.val]) rfl ?_
              conv => cbv
              refine CallF.le (args0 := [.ptr 0 (.lit 0), .p (.int .i64 (.sym 5)), .p (.int .i64 (.sym kx))]) (callF_frame (allocA_lx 5 kx R5 w3 40 1280 L5 D3 hL5 hD3 hn405 (by omega) hA5 rfl) [(0, 0), (1, 1), (2, 2), (3, 3)] rfl (by simp [hmapOk, nget, hget, renB, okB, renV, renVs, rn, okVs, okV]) rfl rfl (fun r h' n' hrr => ?_)) (by simp [ales, ale, pvle, I.val])
              obtain ⟨a6, e6, R6, w6, L6, D6, e1, e2, e3, hL6, hD6, hAl⟩ := hrr
              subst e1 e2 e3
              conv => cbv
              have he6 : e6 = 0 := by have := alloct_err hA5 hAl (by omega); rw [if_pos ⟨hkb.2.1, by omega, by decide, by decide⟩] at this; exact this
              obtain ⟨hA6, hl6⟩ := hA5.alloct hAl
              obtain ⟨hk6, hno6, hc6, _⟩ := alloct_ok hA5 hAl he6
              have hn406 : (40 : Int) = R6.length := by rw [hl6, hl5]; rfl
              have hcnt : j = objCount R6 := by omega
              have hxa : a6 = x ∨ a6 ∉ ats := by
                by_cases e : a6 = x
                · exact .inl e
                · exact .inr fun h => hno6 (hobj5 a6 h e)
              clear hAl hFr
              refine Br.mk (fun g => ?_) (fun g => ?_)
              case refine_2 =>
                have gf : False := g hef
                cases gf
              conv => cbv
              refine Br.mk (fun g => ?_) (fun g => ?_)
              case refine_2 =>
                have gf : False := g he6
                cases gf
              conv => cbv
              refine Need.mk ⟨hgo0, hgo1⟩ ?_
              conv => cbv
              refine Cell.at go _ hcx (by simp [I.val]) rfl ?_
              conv => cbv
              refine Br.mk (fun gx => ?_) (fun gx => ?_)
              · conv => cbv
                refine callF_frame (objects_lx j R6 40 1280 L6 D6 hL6 hn406 (by omega) hA6.rows rfl hcnt) [(0, 0), (1, 1), (2, 2), (3, 3)] rfl (by simp [hmapOk, nget, hget, renB, okB, renV, renVs, rn, okVs, okV]) rfl rfl (fun r h' n' hrr => ?_)
                obtain ⟨OO, e1, e2, e3, hOO⟩ := hrr
                subst e1 e2 e3
                conv => cbv
                refine Br.mk (fun g => ?_) (fun g => ?_)
                case refine_2 =>
                  have gf : False := g rfl
                  cases gf
                conv => cbv
                refine RetF.mk [.p (.bool true)] [] 0 (Re.of [] [] (by first | exact Nat.zero_le _ | exact Nat.le_refl _ | decide | (dsimp only; decide)) rfl rfl (by (try (conv => cbv)); (repeat' (first | exact trivial | rfl | exact SEq.mk rfl | (exact SEq.mk (by first | assumption | (symm; assumption))) | (simp only [I.val]; done) | (simp only [I.val]; omega) | omega | assumption | (refine And.intro ?_ ?_) | exact Or.inl rfl | exact Or.inr (by assumption) | exact List.Mem.head _ | exact List.Mem.tail _ (List.Mem.head _) | exact ⟨_, rfl⟩ | exact ⟨_, rfl, Or.inl rfl⟩ | (refine ⟨_, rfl, Or.inr ?_⟩; (try (conv => cbv))) | (simp only [I.val] at *; first | omega | (subst_vars; rfl) | simp_all) | (refine Or.inr ?_; (try (conv => cbv)))))) (by (try (conv => cbv)); (repeat' (first | exact trivial | rfl | exact SEq.mk rfl | (exact SEq.mk (by first | assumption | (symm; assumption))) | (simp only [I.val]; done) | (simp only [I.val]; omega) | omega | assumption | (refine And.intro ?_ ?_) | exact Or.inl rfl | exact Or.inr (by assumption) | exact List.Mem.head _ | exact List.Mem.tail _ (List.Mem.head _) | exact ⟨_, rfl⟩ | exact ⟨_, rfl, Or.inl rfl⟩ | (refine ⟨_, rfl, Or.inr ?_⟩; (try (conv => cbv))) | (simp only [I.val] at *; first | omega | (subst_vars; rfl) | simp_all) | (refine Or.inr ?_; (try (conv => cbv))))))) rfl rfl
              · have gx : ¬ a6 = x := gx
                have hnot6 : a6 ∉ ats := hxa.resolve_left gx
                conv => cbv
                refine callF_lend (in_lx ats a6 j O false hal hO (by omega) (decide_eq_false hnot6).symm) (by simp [lends, lendV, hget, I.val, pvle]) (fun r h' n' ⟨e1, e2, e3⟩ => by subst e1 e2; exact ⟨trivial, trivial⟩) (fun r h' n' ⟨e1, e2, e3⟩ => ?_)
                subst e1 e2 e3
                conv => cbv
                refine callF_frame (objects_lx j R6 40 1280 L6 D6 hL6 hn406 (by omega) hA6.rows rfl hcnt) [(0, 0), (1, 1), (2, 2), (3, 3)] rfl (by simp [hmapOk, nget, hget, renB, okB, renV, renVs, rn, okVs, okV]) rfl rfl (fun r h' n' hrr => ?_)
                obtain ⟨OO, e1, e2, e3, hOO⟩ := hrr
                subst e1 e2 e3
                conv => cbv
                refine Br.mk (fun g => ?_) (fun g => ?_)
                case refine_2 =>
                  have gf : False := g rfl
                  cases gf
                conv => cbv
                refine RetF.mk [.p (.bool true)] [] 0 (Re.of [] [] (by first | exact Nat.zero_le _ | exact Nat.le_refl _ | decide | (dsimp only; decide)) rfl rfl (by (try (conv => cbv)); (repeat' (first | exact trivial | rfl | exact SEq.mk rfl | (exact SEq.mk (by first | assumption | (symm; assumption))) | (simp only [I.val]; done) | (simp only [I.val]; omega) | omega | assumption | (refine And.intro ?_ ?_) | exact Or.inl rfl | exact Or.inr (by assumption) | exact List.Mem.head _ | exact List.Mem.tail _ (List.Mem.head _) | exact ⟨_, rfl⟩ | exact ⟨_, rfl, Or.inl rfl⟩ | (refine ⟨_, rfl, Or.inr ?_⟩; (try (conv => cbv))) | (simp only [I.val] at *; first | omega | (subst_vars; rfl) | simp_all) | (refine Or.inr ?_; (try (conv => cbv)))))) (by (try (conv => cbv)); (repeat' (first | exact trivial | rfl | exact SEq.mk rfl | (exact SEq.mk (by first | assumption | (symm; assumption))) | (simp only [I.val]; done) | (simp only [I.val]; omega) | omega | assumption | (refine And.intro ?_ ?_) | exact Or.inl rfl | exact Or.inr (by assumption) | exact List.Mem.head _ | exact List.Mem.tail _ (List.Mem.head _) | exact ⟨_, rfl⟩ | exact ⟨_, rfl, Or.inl rfl⟩ | (refine ⟨_, rfl, Or.inr ?_⟩; (try (conv => cbv))) | (simp only [I.val] at *; first | omega | (subst_vars; rfl) | simp_all) | (refine Or.inr ?_; (try (conv => cbv))))))) rfl rfl
      · have gi2 : ¬ i2 < 10 := gi2
        conv => cbv
        refine LoopF.mk (fun kk s => ∃ (i4 : Int), s = ⟨.undef :: .undef :: .p (.int .i64 (.sym gone)) :: (undefs 4 ++ .ptr 0 (.lit 0) :: .undef :: .sl 4 3 1 (.lit 0) (.sym j) :: .sl 5 3 1 (.lit 0) (.sym j) :: (undefs 8 ++ .p (.int .i64 (.sym i4)) :: undefs 202)), [(0, .mix [.ptr 1 (.lit 0), .sl 3 3 1 (.lit 0) (.sym 1280)]), (1, .mix [.sl 2 79 2 (.lit 0) (.sym 40)]), (2, .pure true L1), (3, .pure true D3), (4, .pure true O), (5, .pure true N)], 6⟩ ∧ 1 ≤ i4 ∧ (i4 ≤ j ∨ i4 = 1) ∧ kk = (j - i4).toNat) (j - 1).toNat _
          (Re.of [(0, 0), (1, 1), (2, 2), (3, 3), (4, 4), (5, 5)] [] (by first | exact Nat.zero_le _ | exact Nat.le_refl _ | decide | (dsimp only; decide)) rfl rfl (by (try (conv => cbv)); (repeat' (first | exact trivial | rfl | exact SEq.mk rfl | (exact SEq.mk (by first | assumption | (symm; assumption))) | (simp only [I.val]; done) | (simp only [I.val]; omega) | omega | assumption | (refine And.intro ?_ ?_) | exact Or.inl rfl | exact Or.inr (by assumption) | exact List.Mem.head _ | exact List.Mem.tail _ (List.Mem.head _) | exact ⟨_, rfl⟩ | exact ⟨_, rfl, Or.inl rfl⟩ | (refine ⟨_, rfl, Or.inr ?_⟩; (try (conv => cbv))) | (simp only [I.val] at *; first | omega | (subst_vars; rfl) | simp_all) | (refine Or.inr ?_; (try (conv => cbv)))))) (by (try (conv => cbv)); (repeat' (first | exact trivial | rfl | exact SEq.mk rfl | (exact SEq.mk (by first | assumption | (symm; assumption))) | (simp only [I.val]; done) | (simp only [I.val]; omega) | omega | assumption | (refine And.intro ?_ ?_) | exact Or.inl rfl | exact Or.inr (by assumption) | exact List.Mem.head _ | exact List.Mem.tail _ (List.Mem.head _) | exact ⟨_, rfl⟩ | exact ⟨_, rfl, Or.inl rfl⟩ | (refine ⟨_, rfl, Or.inr ?_⟩; (try (conv => cbv))) | (simp only [I.val] at *; first | omega | (subst_vars; rfl) | simp_all) | (refine Or.inr ?_; (try (conv => cbv))))))) ⟨1, rfl, by omega, by omega, by omega⟩ ?_
        rintro kk3 s ⟨i4, rfl, hi40, hi41, hk4⟩
        conv => cbv
        refine Br.mk (fun gi => ?_) (fun gi => ?_)
        · have gi : i4 < j := gi
          obtain ⟨k4', rfl⟩ : ∃ k', kk3 = k' + 1 := ⟨kk3 - 1, by omega⟩
          obtain ⟨x, kx, d, hx, hkx, hkept⟩ := hP.get (i := i4.toNat) (by omega)
          have hcx : O[i4.toNat]? = some (.int .i64 (.sym x)) := by rw [hO]; exact ipv_get hx
          have hck : N[i4.toNat]? = some (.int .i64 (.sym kx)) := by rw [hN]; exact ipv_get hkx
          have hkb := hkept.bounds hP.ok
          conv => cbv
          refine LoopF.mk (fun kk s => ∃ (q : Int), s = ⟨.undef :: .undef :: .p (.int .i64 (.sym gone)) :: (undefs 4 ++ .ptr 0 (.lit 0) :: .undef :: .sl 4 3 1 (.lit 0) (.sym j) :: .sl 5 3 1 (.lit 0) (.sym j) :: (undefs 8 ++ .p (.int .i64 (.sym i4)) :: .p (.int .i64 (.sym q)) :: undefs 201)), [(0, .mix [.ptr 1 (.lit 0), .sl 3 3 1 (.lit 0) (.sym 1280)]), (1, .mix [.sl 2 79 2 (.lit 0) (.sym 40)]), (2, .pure true L1), (3, .pure true D3), (4, .pure true O), (5, .pure true N)], 6⟩ ∧ 0 ≤ q ∧ q ≤ kx ∧ kk = (kx - q).toNat) kx.toNat _
            (Re.of [(0, 0), (1, 1), (2, 2), (3, 3), (4, 4), (5, 5)] [] (by first | exact Nat.zero_le _ | exact Nat.le_refl _ | decide | (dsimp only; decide)) rfl rfl (by (try (conv => cbv)); (repeat' (first | exact trivial | rfl | exact SEq.mk rfl | (exact SEq.mk (by first | assumption | (symm; assumption))) | (simp only [I.val]; done) | (simp only [I.val]; omega) | omega | assumption | (refine And.intro ?_ ?_) | exact Or.inl rfl | exact Or.inr (by assumption) | exact List.Mem.head _ | exact List.Mem.tail _ (List.Mem.head _) | exact ⟨_, rfl⟩ | exact ⟨_, rfl, Or.inl rfl⟩ | (refine ⟨_, rfl, Or.inr ?_⟩; (try (conv => cbv))) | (simp only [I.val] at *; first | omega | (subst_vars; rfl) | simp_all) | (refine Or.inr ?_; (try (conv => cbv)))))) (by (try (conv => cbv)); (repeat' (first | exact trivial | rfl | exact SEq.mk rfl | (exact SEq.mk (by first | assumption | (symm; assumption))) | (simp only [I.val]; done) | (simp only [I.val]; omega) | omega | assumption | (refine And.intro ?_ ?_) | exact Or.inl rfl | exact Or.inr (by assumption) | exact List.Mem.head _ | exact List.Mem.tail _ (List.Mem.head _) | exact ⟨_, rfl⟩ | exact ⟨_, rfl, Or.inl rfl⟩ | (refine ⟨_, rfl, Or.inr ?_⟩; (try (conv => cbv))) | (simp only [I.val] at *; first | omega | (subst_vars; rfl) | simp_all) | (refine Or.inr ?_; (try (conv => cbv))))))) ⟨0, rfl, by omega, by omega, by omega⟩ ?_
          rintro kk5 s ⟨q, rfl, hq0, hq1, hk5⟩
          conv => cbv
          refine Need.mk ⟨by show 0 ≤ i4; omega, gi⟩ ?_
          conv => cbv
          refine Cell.at i4 _ hck (by simp [I.val]) rfl ?_
          conv => cbv
          refine Br.mk (fun gq => ?_) (fun gq => ?_)
          · have gq : q < kx := gq
            obtain ⟨k5', rfl⟩ : ∃ k', kk5 = k' + 1 := ⟨kk5 - 1, by omega⟩
            conv => cbv
            refine Need.mk ⟨by show 0 ≤ i4; omega, gi⟩ ?_
            conv => cbv
            refine Cell.at i4 _ hcx (by simp [I.val]) rfl ?_
            conv => cbv
            refine callF_frame (load_lx q R w3 40 x 1280 L1 D3 hL1 hD3 hn40 hr1000 hP.ok rfl) [(0, 0), (1, 1), (2, 2), (3, 3)] rfl (by simp [hmapOk, nget, hget, renB, okB, renV, renVs, rn, okVs, okV]) rfl rfl (fun r h' n' hrr => ?_)
            obtain ⟨v, el, e1, e2, e3, hLd⟩ := hrr
            subst e1 e2 e3
            conv => cbv
            obtain ⟨hel, hv⟩ := loaded_of hkept ⟨hq0, gq⟩ hLd
            have hv2 : v = 100 * i4 + q := by
              have := hS i4.toNat x kx (by omega) hx hkx q hq0 gq
              rw [hv] at this
              have := Option.some.inj this
              omega
            refine Fit.mk (by show (-9223372036854775808 : Int) ≤ 100 * i4; omega) (by show 100 * i4 ≤ 9223372036854775807; omega) fun y1 hy1 => ?_
            have hy1 : y1 = 100 * i4 := hy1
            conv => cbv
            refine Fit.mk (by show (-9223372036854775808 : Int) ≤ y1 + q; omega) (by show y1 + q ≤ 9223372036854775807; omega) fun y hy => ?_
            have hy : y = y1 + q := hy
            conv => cbv
            refine Br.mk (fun g => ?_) (fun g => ?_)
            case refine_1 =>
              have gf : False := by have g : ¬ v = y := g; omega
              cases gf
            conv => cbv
            refine Br.mk (fun g => ?_) (fun g => ?_)
            case refine_1 =>
              have gf : False := g hel
              cases gf
            conv => cbv
            refine Fit.mk (by show (-9223372036854775808 : Int) ≤ q + 1; omega) (by show q + 1 ≤ 9223372036854775807; omega) fun q2 hq2 => ?_
            have hq2 : q2 = q + 1 := hq2
            conv => cbv
            refine Again.mk k5' _ (Nat.lt_succ_self _) (Re.of [(0, 0), (1, 1), (2, 2), (3, 3), (4, 4), (5, 5)] [] (by first | exact Nat.zero_le _ | exact Nat.le_refl _ | decide | (dsimp only; decide)) rfl rfl (by (try (conv => cbv)); (repeat' (first | exact trivial | rfl | exact SEq.mk rfl | (exact SEq.mk (by first | assumption | (symm; assumption))) | (simp only [I.val]; done) | (simp only [I.val]; omega) | omega | assumption | (refine And.intro ?_ ?_) | exact Or.inl rfl | exact Or.inr (by assumption) | exact List.Mem.head _ | exact List.Mem.tail _ (List.Mem.head _) | exact ⟨_, rfl⟩ | exact ⟨_, rfl, Or.inl rfl⟩ | (refine ⟨_, rfl, Or.inr ?_⟩; (try (conv => cbv))) | (simp only [I.val] at *; first | omega | (subst_vars; rfl) | simp_all) | (refine Or.inr ?_; (try (conv => cbv)))))) (by (try (conv => cbv)); (repeat' (first | exact trivial | rfl | exact SEq.mk rfl | (exact SEq.mk (by first | assumption | (symm; assumption))) | (simp only [I.val]; done) | (simp only [I.val]; omega) | omega | assumption | (refine And.intro ?_ ?_) | exact Or.inl rfl | exact Or.inr (by assumption) | exact List.Mem.head _ | exact List.Mem.tail _ (List.Mem.head _) | exact ⟨_, rfl⟩ | exact ⟨_, rfl, Or.inl rfl⟩ | (refine ⟨_, rfl, Or.inr ?_⟩; (try (conv => cbv))) | (simp only [I.val] at *; first | omega | (subst_vars; rfl) | simp_all) | (refine Or.inr ?_; (try (conv => cbv))))))) ⟨q2, rfl, by omega, by omega, by omega⟩
          · have gq : ¬ q < kx := gq
            conv => cbv
            refine Fit.mk (by show (-9223372036854775808 : Int) ≤ i4 + 1; omega) (by show i4 + 1 ≤ 9223372036854775807; omega) fun i5 hi5 => ?_
            have hi5 : i5 = i4 + 1 := hi5
            conv => cbv
            refine Again.mk k4' _ (Nat.lt_succ_self _) (Re.of [(0, 0), (1, 1), (2, 2), (3, 3), (4, 4), (5, 5)] [] (by first | exact Nat.zero_le _ | exact Nat.le_refl _ | decide | (dsimp only; decide)) rfl rfl (by (try (conv => cbv)); (repeat' (first | exact trivial | rfl | exact SEq.mk rfl | (exact SEq.mk (by first | assumption | (symm; assumption))) | (simp only [I.val]; done) | (simp only [I.val]; omega) | omega | assumption | (refine And.intro ?_ ?_) | exact Or.inl rfl | exact Or.inr (by assumption) | exact List.Mem.head _ | exact List.Mem.tail _ (List.Mem.head _) | exact ⟨_, rfl⟩ | exact ⟨_, rfl, Or.inl rfl⟩ | (refine ⟨_, rfl, Or.inr ?_⟩; (try (conv => cbv))) | (simp only [I.val] at *; first | omega | (subst_vars; rfl) | simp_all) | (refine Or.inr ?_; (try (conv => cbv)))))) (by (try (conv => cbv)); (repeat' (first | exact trivial | rfl | exact SEq.mk rfl | (exact SEq.mk (by first | assumption | (symm; assumption))) | (simp only [I.val]; done) | (simp only [I.val]; omega) | omega | assumption | (refine And.intro ?_ ?_) | exact Or.inl rfl | exact Or.inr (by assumption) | exact List.Mem.head _ | exact List.Mem.tail _ (List.Mem.head _) | exact ⟨_, rfl⟩ | exact ⟨_, rfl, Or.inl rfl⟩ | (refine ⟨_, rfl, Or.inr ?_⟩; (try (conv => cbv))) | (simp only [I.val] at *; first | omega | (subst_vars; rfl) | simp_all) | (refine Or.inr ?_; (try (conv => cbv))))))) ⟨i5, rfl, by omega, by omega, by omega⟩
        · have gi : ¬ i4 < j := gi
          conv => cbv
          refine Br.mk (fun gz => ?_) (fun gz => ?_)
          · conv => cbv
            refine RetF.mk [.p (.bool true)] [] 0 (Re.of [] [] (by first | exact Nat.zero_le _ | exact Nat.le_refl _ | decide | (dsimp only; decide)) rfl rfl (by (try (conv => cbv)); (repeat' (first | exact trivial | rfl | exact SEq.mk rfl | (exact SEq.mk (by first | assumption | (symm; assumption))) | (simp only [I.val]; done) | (simp only [I.val]; omega) | omega | assumption | (refine And.intro ?_ ?_) | exact Or.inl rfl | exact Or.inr (by assumption) | exact List.Mem.head _ | exact List.Mem.tail _ (List.Mem.head _) | exact ⟨_, rfl⟩ | exact ⟨_, rfl, Or.inl rfl⟩ | (refine ⟨_, rfl, Or.inr ?_⟩; (try (conv => cbv))) | (simp only [I.val] at *; first | omega | (subst_vars; rfl) | simp_all) | (refine Or.inr ?_; (try (conv => cbv)))))) (by (try (conv => cbv)); (repeat' (first | exact trivial | rfl | exact SEq.mk rfl | (exact SEq.mk (by first | assumption | (symm; assumption))) | (simp only [I.val]; done) | (simp only [I.val]; omega) | omega | assumption | (refine And.intro ?_ ?_) | exact Or.inl rfl | exact Or.inr (by assumption) | exact List.Mem.head _ | exact List.Mem.tail _ (List.Mem.head _) | exact ⟨_, rfl⟩ | exact ⟨_, rfl, Or.inl rfl⟩ | (refine ⟨_, rfl, Or.inr ?_⟩; (try (conv => cbv))) | (simp only [I.val] at *; first | omega | (subst_vars; rfl) | simp_all) | (refine Or.inr ?_; (try (conv => cbv))))))) rfl rfl
          · have gz : ¬ j = 0 := gz
            conv => cbv
            refine Fit.wrap fun xg hxg => ?_
            have hxg : xg = IntKind.u64.wrap gone := hxg
            have hxg0 : 0 ≤ xg := by rw [hxg]; simp [IntKind.wrap, IntKind.bits, IntKind.signed]; omega
            clear hxg
            conv => cbv
            refine Fit.mk (by show (0 : Int) ≤ j; omega) (by show j ≤ 18446744073709551615; omega) fun ju hju => ?_
            have hju : ju = j := hju
            conv => cbv
            refine Need.mk (show ju ≠ 0 by omega) ?_
            conv => cbv
            refine Sum.mk fun yg hyg => ?_
            have hyg : yg = xg % ju := (show yg = xg.tmod ju from hyg).trans (Int.tmod_eq_emod_of_nonneg hxg0)
            have hyg0 : 0 ≤ yg := by rw [hyg]; exact Int.emod_nonneg _ (by omega)
            have hyg1 : yg < j := by rw [← hju, hyg]; exact Int.emod_lt_of_pos _ (by omega)
            clear hyg
            conv => cbv
            refine Fit.mk (by show (-9223372036854775808 : Int) ≤ yg; omega) (by show yg ≤ 9223372036854775807; omega) fun go hgo => ?_
            have hgo : go = yg := hgo
            have hgo0 : 0 ≤ go := by omega
            have hgo1 : go < j := by omega
            clear hgo hyg1 hyg0
            obtain ⟨x, kx, d, hx, hkx, hkept⟩ := hP.get (i := go.toNat) (by omega)
            have hcx : O[go.toNat]? = some (.int .i64 (.sym x)) := by rw [hO]; exact ipv_get hx
            have hck : N[go.toNat]? = some (.int .i64 (.sym kx)) := by rw [hN]; exact ipv_get hkx
            have hkb := hkept.bounds hP.ok
            conv => cbv
            refine Need.mk ⟨hgo0, hgo1⟩ ?_
            conv => cbv
            refine Cell.at go _ hcx (by simp [I.val]) rfl ?_
            conv => cbv
            refine callF_frame (freeA_lx x R w3 40 1280 L1 D3 hL1 hD3 hn40 hr1000 hP.ok rfl) [(0, 0), (1, 1), (2, 2), (3, 3)] rfl (by simp [hmapOk, nget, hget, renB, okB, renV, renVs, rn, okVs, okV]) rfl rfl (fun r h' n' hrr => ?_)
            obtain ⟨ef, R5, L5, e1, e2, e3, hL5, hFr⟩ := hrr
            subst e1 e2 e3
            conv => cbv
            obtain ⟨hef, hA5, hl5, hc5, hobj5⟩ := hP.free hkept hFr
            have hfew := hP.few
            have hn405 : (40 : Int) = R5.length := by rw [hl5]; rfl
            refine Need.mk ⟨hgo0, hgo1⟩ ?_
            conv => cbv
            refine Cell.at go _ hck (by simp [I.val]) rfl ?_
            conv => cbv
            refine CallF.le (args0 := [.ptr 0 (.lit 0), .p (.int .i64 (.sym 5)), .p (.int .i64 (.sym kx))]) (callF_frame (allocA_lx 5 kx R5 w3 40 1280 L5 D3 hL5 hD3 hn405 (by omega) hA5 rfl) [(0, 0), (1, 1), (2, 2), (3, 3)] rfl (by simp [hmapOk, nget, hget, renB, okB, renV, renVs, rn, okVs, okV]) rfl rfl (fun r h' n' hrr => ?_)) (by simp [ales, ale, pvle, I.val])
            obtain ⟨a6, e6, R6, w6, L6, D6, e1, e2, e3, hL6, hD6, hAl⟩ := hrr
            subst e1 e2 e3
            conv => cbv
            have he6 : e6 = 0 := by have := alloct_err hA5 hAl (by omega); rw [if_pos ⟨hkb.2.1, by omega, by decide, by decide⟩] at this; exact this
            obtain ⟨hA6, hl6⟩ := hA5.alloct hAl
            obtain ⟨hk6, hno6, hc6, _⟩ := alloct_ok hA5 hAl he6
            have hn406 : (40 : Int) = R6.length := by rw [hl6, hl5]; rfl
            have hcnt : j = objCount R6 := by omega
            have hxa : a6 = x ∨ a6 ∉ ats := by
              by_cases e : a6 = x
              · exact .inl e
              · exact .inr fun h => hno6 (hobj5 a6 h e)
            clear hAl hFr
            refine Br.mk (fun g => ?_) (fun g => ?_)
            case refine_2 =>
              have gf : False := g hef
              cases gf
            conv => cbv
            refine Br.mk (fun g => ?_) (fun g => ?_)
            case refine_2 =>
              have gf : False := g he6
              cases gf
            conv => cbv
            refine Need.mk ⟨hgo0, hgo1⟩ ?_
            conv => cbv
            refine Cell.at go _ hcx (by simp [I.val]) rfl ?_
            conv => cbv
            refine Br.mk (fun gx => ?_) (fun gx => ?_)
            · conv => cbv
              refine callF_frame (objects_lx j R6 40 1280 L6 D6 hL6 hn406 (by omega) hA6.rows rfl hcnt) [(0, 0), (1, 1), (2, 2), (3, 3)] rfl (by simp [hmapOk, nget, hget, renB, okB, renV, renVs, rn, okVs, okV]) rfl rfl (fun r h' n' hrr => ?_)
              obtain ⟨OO, e1, e2, e3, hOO⟩ := hrr
              subst e1 e2 e3
              conv => cbv
              refine Br.mk (fun g => ?_) (fun g => ?_)
              case refine_2 =>
                have gf : False := g rfl
                cases gf
              conv => cbv
              refine RetF.mk [.p (.bool true)] [] 0 (Re.of [] [] (by first | exact Nat.zero_le _ | exact Nat.le_refl _ | decide | (dsimp only; decide)) rfl rfl (by (try (conv => cbv)); (repeat' (first | exact trivial | rfl | exact SEq.mk rfl | (exact SEq.mk (by first | assumption | (symm; assumption))) | (simp only [I.val]; done) | (simp only [I.val]; omega) | omega | assumption | (refine And.intro ?_ ?_) | exact Or.inl rfl | exact Or.inr (by assumption) | exact List.Mem.head _ | exact List.Mem.tail _ (List.Mem.head _) | exact ⟨_, rfl⟩ | exact ⟨_, rfl, Or.inl rfl⟩ | (refine ⟨_, rfl, Or.inr ?_⟩; (try (conv => cbv))) | (simp only [I.val] at *; first | omega | (subst_vars; rfl) | simp_all) | (refine Or.inr ?_; (try (conv => cbv)))))) (by (try (conv => cbv)); (repeat' (first | exact trivial | rfl | exact SEq.mk rfl | (exact SEq.mk (by first | assumption | (symm; assumption))) | (simp only [I.val]; done) | (simp only [I.val]; omega) | omega | assumption | (refine And.intro ?_ ?_) | exact Or.inl rfl | exact Or.inr (by assumption) | exact List.Mem.head _ | exact List.Mem.tail _ (List.Mem.head _) | exact ⟨_, rfl⟩ | exact ⟨_, rfl, Or.inl rfl⟩ | (refine ⟨_, rfl, Or.inr ?_⟩; (try (conv => cbv))) | (simp only [I.val] at *; first | omega | (subst_vars; rfl) | simp_all) | (refine Or.inr ?_; (try (conv => cbv))))))) rfl rfl
            · have gx : ¬ a6 = x := gx
              have hnot6 : a6 ∉ ats := hxa.resolve_left gx
              conv => cbv
              refine callF_lend (in_lx ats a6 j O false hal hO (by omega) (decide_eq_false hnot6).symm) (by simp [lends, lendV, hget, I.val, pvle]) (fun r h' n' ⟨e1, e2, e3⟩ => by subst e1 e2; exact ⟨trivial, trivial⟩) (fun r h' n' ⟨e1, e2, e3⟩ => ?_)
              subst e1 e2 e3
              conv => cbv
              refine callF_frame (objects_lx j R6 40 1280 L6 D6 hL6 hn406 (by omega) hA6.rows rfl hcnt) [(0, 0), (1, 1), (2, 2), (3, 3)] rfl (by simp [hmapOk, nget, hget, renB, okB, renV, renVs, rn, okVs, okV]) rfl rfl (fun r h' n' hrr => ?_)
              obtain ⟨OO, e1, e2, e3, hOO⟩ := hrr
              subst e1 e2 e3
              conv => cbv
              refine Br.mk (fun g => ?_) (fun g => ?_)
              case refine_2 =>
                have gf : False := g rfl
                cases gf
              conv => cbv
              refine RetF.mk [.p (.bool true)] [] 0 (Re.of [] [] (by first | exact Nat.zero_le _ | exact Nat.le_refl _ | decide | (dsimp only; decide)) rfl rfl (by (try (conv => cbv)); (repeat' (first | exact trivial | rfl | exact SEq.mk rfl | (exact SEq.mk (by first | assumption | (symm; assumption))) | (simp only [I.val]; done) | (simp only [I.val]; omega) | omega | assumption | (refine And.intro ?_ ?_) | exact Or.inl rfl | exact Or.inr (by assumption) | exact List.Mem.head _ | exact List.Mem.tail _ (List.Mem.head _) | exact ⟨_, rfl⟩ | exact ⟨_, rfl, Or.inl rfl⟩ | (refine ⟨_, rfl, Or.inr ?_⟩; (try (conv => cbv))) | (simp only [I.val] at *; first | omega | (subst_vars; rfl) | simp_all) | (refine Or.inr ?_; (try (conv => cbv)))))) (by (try (conv => cbv)); (repeat' (first | exact trivial | rfl | exact SEq.mk rfl | (exact SEq.mk (by first | assumption | (symm; assumption))) | (simp only [I.val]; done) | (simp only [I.val]; omega) | omega | assumption | (refine And.intro ?_ ?_) | exact Or.inl rfl | exact Or.inr (by assumption) | exact List.Mem.head _ | exact List.Mem.tail _ (List.Mem.head _) | exact ⟨_, rfl⟩ | exact ⟨_, rfl, Or.inl rfl⟩ | (refine ⟨_, rfl, Or.inr ?_⟩; (try (conv => cbv))) | (simp only [I.val] at *; first | omega | (subst_vars; rfl) | simp_all) | (refine Or.inr ?_; (try (conv => cbv))))))) rfl rfl
    · have gi : ¬ i2 < mu := gi
      conv => cbv
      refine LoopF.mk (fun kk s => ∃ (i4 : Int), s = ⟨.undef :: .undef :: .p (.int .i64 (.sym gone)) :: (undefs 4 ++ .ptr 0 (.lit 0) :: .undef :: .sl 4 3 1 (.lit 0) (.sym j) :: .sl 5 3 1 (.lit 0) (.sym j) :: (undefs 8 ++ .p (.int .i64 (.sym i4)) :: undefs 202)), [(0, .mix [.ptr 1 (.lit 0), .sl 3 3 1 (.lit 0) (.sym 1280)]), (1, .mix [.sl 2 79 2 (.lit 0) (.sym 40)]), (2, .pure true L1), (3, .pure true D3), (4, .pure true O), (5, .pure true N)], 6⟩ ∧ 1 ≤ i4 ∧ (i4 ≤ j ∨ i4 = 1) ∧ kk = (j - i4).toNat) (j - 1).toNat _
        (Re.of [(0, 0), (1, 1), (2, 2), (3, 3), (4, 4), (5, 5)] [] (by first | exact Nat.zero_le _ | exact Nat.le_refl _ | decide | (dsimp only; decide)) rfl rfl (by (try (conv => cbv)); (repeat' (first | exact trivial | rfl | exact SEq.mk rfl | (exact SEq.mk (by first | assumption | (symm; assumption))) | (simp only [I.val]; done) | (simp only [I.val]; omega) | omega | assumption | (refine And.intro ?_ ?_) | exact Or.inl rfl | exact Or.inr (by assumption) | exact List.Mem.head _ | exact List.Mem.tail _ (List.Mem.head _) | exact ⟨_, rfl⟩ | exact ⟨_, rfl, Or.inl rfl⟩ | (refine ⟨_, rfl, Or.inr ?_⟩; (try (conv => cbv))) | (simp only [I.val] at *; first | omega | (subst_vars; rfl) | simp_all) | (refine Or.inr ?_; (try (conv => cbv)))))) (by (try (conv => cbv)); (repeat' (first | exact trivial | rfl | exact SEq.mk rfl | (exact SEq.mk (by first | assumption | (symm; assumption))) | (simp only [I.val]; done) | (simp only [I.val]; omega) | omega | assumption | (refine And.intro ?_ ?_) | exact Or.inl rfl | exact Or.inr (by assumption) | exact List.Mem.head _ | exact List.Mem.tail _ (List.Mem.head _) | exact ⟨_, rfl⟩ | exact ⟨_, rfl, Or.inl rfl⟩ | (refine ⟨_, rfl, Or.inr ?_⟩; (try (conv => cbv))) | (simp only [I.val] at *; first | omega | (subst_vars; rfl) | simp_all) | (refine Or.inr ?_; (try (conv => cbv))))))) ⟨1, rfl, by omega, by omega, by omega⟩ ?_
      rintro kk3 s ⟨i4, rfl, hi40, hi41, hk4⟩
      conv => cbv
      refine Br.mk (fun gi => ?_) (fun gi => ?_)
      · have gi : i4 < j := gi
        obtain ⟨k4', rfl⟩ : ∃ k', kk3 = k' + 1 := ⟨kk3 - 1, by omega⟩
        obtain ⟨x, kx, d, hx, hkx, hkept⟩ := hP.get (i := i4.toNat) (by omega)
        have hcx : O[i4.toNat]? = some (.int .i64 (.sym x)) := by rw [hO]; exact ipv_get hx
        have hck : N[i4.toNat]? = some (.int .i64 (.sym kx)) := by rw [hN]; exact ipv_get hkx
        have hkb := hkept.bounds hP.ok
        conv => cbv
        refine LoopF.mk (fun kk s => ∃ (q : Int), s = ⟨.undef :: .undef :: .p (.int .i64 (.sym gone)) :: (undefs 4 ++ .ptr 0 (.lit 0) :: .undef :: .sl 4 3 1 (.lit 0) (.sym j) :: .sl 5 3 1 (.lit 0) (.sym j) :: (undefs 8 ++ .p (.int .i64 (.sym i4)) :: .p (.int .i64 (.sym q)) :: undefs 201)), [(0, .mix [.ptr 1 (.lit 0), .sl 3 3 1 (.lit 0) (.sym 1280)]), (1, .mix [.sl 2 79 2 (.lit 0) (.sym 40)]), (2, .pure true L1), (3, .pure true D3), (4, .pure true O), (5, .pure true N)], 6⟩ ∧ 0 ≤ q ∧ q ≤ kx ∧ kk = (kx - q).toNat) kx.toNat _
          (Re.of [(0, 0), (1, 1), (2, 2), (3, 3), (4, 4), (5, 5)] [] (by first | exact Nat.zero_le _ | exact Nat.le_refl _ | decide | (dsimp only; decide)) rfl rfl (by (try (conv => cbv)); (repeat' (first | exact trivial | rfl | exact SEq.mk rfl | (exact SEq.mk (by first | assumption | (symm; assumption))) | (simp only [I.val]; done) | (simp only [I.val]; omega) | omega | assumption | (refine And.intro ?_ ?_) | exact Or.inl rfl | exact Or.inr (by assumption) | exact List.Mem.head _ | exact List.Mem.tail _ (List.Mem.head _) | exact ⟨_, rfl⟩ | exact ⟨_, rfl, Or.inl rfl⟩ | (refine ⟨_, rfl, Or.inr ?_⟩; (try (conv => cbv))) | (simp only [I.val] at *; first | omega | (subst_vars; rfl) | simp_all) | (refine Or.inr ?_; (try (conv => cbv)))))) (by (try (conv => cbv)); (repeat' (first | exact trivial | rfl | exact SEq.mk rfl | (exact SEq.mk (by first | assumption | (symm; assumption))) | (simp only [I.val]; done) | (simp only [I.val]; omega) | omega | assumption | (refine And.intro ?_ ?_) | exact Or.inl rfl | exact Or.inr (by assumption) | exact List.Mem.head _ | exact List.Mem.tail _ (List.Mem.head _) | exact ⟨_, rfl⟩ | exact ⟨_, rfl, Or.inl rfl⟩ | (refine ⟨_, rfl, Or.inr ?_⟩; (try (conv => cbv))) | (simp only [I.val] at *; first | omega | (subst_vars; rfl) | simp_all) | (refine Or.inr ?_; (try (conv => cbv))))))) ⟨0, rfl, by omega, by omega, by omega⟩ ?_
        rintro kk5 s ⟨q, rfl, hq0, hq1, hk5⟩
        conv => cbv
        refine Need.mk ⟨by show 0 ≤ i4; omega, gi⟩ ?_
        conv => cbv
        refine Cell.at i4 _ hck (by simp [I.val]) rfl ?_
        conv => cbv
        refine Br.mk (fun gq => ?_) (fun gq => ?_)
        · have gq : q < kx := gq
          obtain ⟨k5', rfl⟩ : ∃ k', kk5 = k' + 1 := ⟨kk5 - 1, by omega⟩
          conv => cbv
          refine Need.mk ⟨by show 0 ≤ i4; omega, gi⟩ ?_
          conv => cbv
          refine Cell.at i4 _ hcx (by simp [I.val]) rfl ?_
          conv => cbv
          refine callF_frame (load_lx q R w3 40 x 1280 L1 D3 hL1 hD3 hn40 hr1000 hP.ok rfl) [(0, 0), (1, 1), (2, 2), (3, 3)] rfl (by simp [hmapOk, nget, hget, renB, okB, renV, renVs, rn, okVs, okV]) rfl rfl (fun r h' n' hrr => ?_)
          obtain ⟨v, el, e1, e2, e3, hLd⟩ := hrr
          subst e1 e2 e3
          conv => cbv
          obtain ⟨hel, hv⟩ := loaded_of hkept ⟨hq0, gq⟩ hLd
          have hv2 : v = 100 * i4 + q := by
            have := hS i4.toNat x kx (by omega) hx hkx q hq0 gq
            rw [hv] at this
            have := Option.some.inj this
            omega
          refine Fit.mk (by show (-9223372036854775808 : Int) ≤ 100 * i4; omega) (by show 100 * i4 ≤ 9223372036854775807; omega) fun y1 hy1 => ?_
          have hy1 : y1 = 100 * i4 := hy1
          conv => cbv
          refine Fit.mk (by show (-9223372036854775808 : Int) ≤ y1 + q; omega) (by show y1 + q ≤ 9223372036854775807; omega) fun y hy => ?_
          have hy : y = y1 + q := hy
          conv => cbv
          refine Br.mk (fun g => ?_) (fun g => ?_)
          case refine_1 =>
            have gf : False := by have g : ¬ v = y := g; omega
            cases gf
          conv => cbv
          refine Br.mk (fun g => ?_) (fun g => ?_)
          case refine_1 =>
            have gf : False := g hel
            cases gf
          conv => cbv
          refine Fit.mk (by show (-9223372036854775808 : Int) ≤ q + 1; omega) (by show q + 1 ≤ 9223372036854775807; omega) fun q2 hq2 => ?_
          have hq2 : q2 = q + 1 := hq2
          conv => cbv
          refine Again.mk k5' _ (Nat.lt_succ_self _) (Re.of [(0, 0), (1, 1), (2, 2), (3, 3), (4, 4), (5, 5)] [] (by first | exact Nat.zero_le _ | exact Nat.le_refl _ | decide | (dsimp only; decide)) rfl rfl (by (try (conv => cbv)); (repeat' (first | exact trivial | rfl | exact SEq.mk rfl | (exact SEq.mk (by first | assumption | (symm; assumption))) | (simp only [I.val]; done) | (simp only [I.val]; omega) | omega | assumption | (refine And.intro ?_ ?_) | exact Or.inl rfl | exact Or.inr (by assumption) | exact List.Mem.head _ | exact List.Mem.tail _ (List.Mem.head _) | exact ⟨_, rfl⟩ | exact ⟨_, rfl, Or.inl rfl⟩ | (refine ⟨_, rfl, Or.inr ?_⟩; (try (conv => cbv))) | (simp only [I.val] at *; first | omega | (subst_vars; rfl) | simp_all) | (refine Or.inr ?_; (try (conv => cbv)))))) (by (try (conv => cbv)); (repeat' (first | exact trivial | rfl | exact SEq.mk rfl | (exact SEq.mk (by first | assumption | (symm; assumption))) | (simp only [I.val]; done) | (simp only [I.val]; omega) | omega | assumption | (refine And.intro ?_ ?_) | exact Or.inl rfl | exact Or.inr (by assumption) | exact List.Mem.head _ | exact List.Mem.tail _ (List.Mem.head _) | exact ⟨_, rfl⟩ | exact ⟨_, rfl, Or.inl rfl⟩ | (refine ⟨_, rfl, Or.inr ?_⟩; (try (conv => cbv))) | (simp only [I.val] at *; first | omega | (subst_vars; rfl) | simp_all) | (refine Or.inr ?_; (try (conv => cbv))))))) ⟨q2, rfl, by omega, by omega, by omega⟩
        · have gq : ¬ q < kx := gq
          conv => cbv
          refine Fit.mk (by show (-9223372036854775808 : Int) ≤ i4 + 1; omega) (by show i4 + 1 ≤ 9223372036854775807; omega) fun i5 hi5 => ?_
          have hi5 : i5 = i4 + 1 := hi5
          conv => cbv
          refine Again.mk k4' _ (Nat.lt_succ_self _) (Re.of [(0, 0), (1, 1), (2, 2), (3, 3), (4, 4), (5, 5)] [] (by first | exact Nat.zero_le _ | exact Nat.le_refl _ | decide | (dsimp only; decide)) rfl rfl (by (try (conv => cbv)); (repeat' (first | exact trivial | rfl | exact SEq.mk rfl | (exact SEq.mk (by first | assumption | (symm; assumption))) | (simp only [I.val]; done) | (simp only [I.val]; omega) | omega | assumption | (refine And.intro ?_ ?_) | exact Or.inl rfl | exact Or.inr (by assumption) | exact List.Mem.head _ | exact List.Mem.tail _ (List.Mem.head _) | exact ⟨_, rfl⟩ | exact ⟨_, rfl, Or.inl rfl⟩ | (refine ⟨_, rfl, Or.inr ?_⟩; (try (conv => cbv))) | (simp only [I.val] at *; first | omega | (subst_vars; rfl) | simp_all) | (refine Or.inr ?_; (try (conv => cbv)))))) (by (try (conv => cbv)); (repeat' (first | exact trivial | rfl | exact SEq.mk rfl | (exact SEq.mk (by first | assumption | (symm; assumption))) | (simp only [I.val]; done) | (simp only [I.val]; omega) | omega | assumption | (refine And.intro ?_ ?_) | exact Or.inl rfl | exact Or.inr (by assumption) | exact List.Mem.head _ | exact List.Mem.tail _ (List.Mem.head _) | exact ⟨_, rfl⟩ | exact ⟨_, rfl, Or.inl rfl⟩ | (refine ⟨_, rfl, Or.inr ?_⟩; (try (conv => cbv))) | (simp only [I.val] at *; first | omega | (subst_vars; rfl) | simp_all) | (refine Or.inr ?_; (try (conv => cbv))))))) ⟨i5, rfl, by omega, by omega, by omega⟩
      · have gi : ¬ i4 < j := gi
        conv => cbv
        refine Br.mk (fun gz => ?_) (fun gz => ?_)
        · conv => cbv
          refine RetF.mk [.p (.bool true)] [] 0 (Re.of [] [] (by first | exact Nat.zero_le _ | exact Nat.le_refl _ | decide | (dsimp only; decide)) rfl rfl (by (try (conv => cbv)); (repeat' (first | exact trivial | rfl | exact SEq.mk rfl | (exact SEq.mk (by first | assumption | (symm; assumption))) | (simp only [I.val]; done) | (simp only [I.val]; omega) | omega | assumption | (refine And.intro ?_ ?_) | exact Or.inl rfl | exact Or.inr (by assumption) | exact List.Mem.head _ | exact List.Mem.tail _ (List.Mem.head _) | exact ⟨_, rfl⟩ | exact ⟨_, rfl, Or.inl rfl⟩ | (refine ⟨_, rfl, Or.inr ?_⟩; (try (conv => cbv))) | (simp only [I.val] at *; first | omega | (subst_vars; rfl) | simp_all) | (refine Or.inr ?_; (try (conv => cbv)))))) (by (try (conv => cbv)); (repeat' (first | exact trivial | rfl | exact SEq.mk rfl | (exact SEq.mk (by first | assumption | (symm; assumption))) | (simp only [I.val]; done) | (simp only [I.val]; omega) | omega | assumption | (refine And.intro ?_ ?_) | exact Or.inl rfl | exact Or.inr (by assumption) | exact List.Mem.head _ | exact List.Mem.tail _ (List.Mem.head _) | exact ⟨_, rfl⟩ | exact ⟨_, rfl, Or.inl rfl⟩ | (refine ⟨_, rfl, Or.inr ?_⟩; (try (conv => cbv))) | (simp only [I.val] at *; first | omega | (subst_vars; rfl) | simp_all) | (refine Or.inr ?_; (try (conv => cbv))))))) rfl rfl
        · have gz : ¬ j = 0 := gz
          conv => cbv
          refine Fit.wrap fun xg hxg => ?_
          have hxg : xg = IntKind.u64.wrap gone := hxg
          have hxg0 : 0 ≤ xg := by rw [hxg]; simp [IntKind.wrap, IntKind.bits, IntKind.signed]; omega
          clear hxg
          conv => cbv
          refine Fit.mk (by show (0 : Int) ≤ j; omega) (by show j ≤ 18446744073709551615; omega) fun ju hju => ?_
          have hju : ju = j := hju
          conv => cbv
          refine Need.mk (show ju ≠ 0 by omega) ?_
          conv => cbv
          refine Sum.mk fun yg hyg => ?_
          have hyg : yg = xg % ju := (show yg = xg.tmod ju from hyg).trans (Int.tmod_eq_emod_of_nonneg hxg0)
          have hyg0 : 0 ≤ yg := by rw [hyg]; exact Int.emod_nonneg _ (by omega)
          have hyg1 : yg < j := by rw [← hju, hyg]; exact Int.emod_lt_of_pos _ (by omega)
          clear hyg
          conv => cbv
          refine Fit.mk (by show (-9223372036854775808 : Int) ≤ yg; omega) (by show yg ≤ 9223372036854775807; omega) fun go hgo => ?_
          have hgo : go = yg := hgo
          have hgo0 : 0 ≤ go := by omega
          have hgo1 : go < j := by omega
          clear hgo hyg1 hyg0
          obtain ⟨x, kx, d, hx, hkx, hkept⟩ := hP.get (i := go.toNat) (by omega)
          have hcx : O[go.toNat]? = some (.int .i64 (.sym x)) := by rw [hO]; exact ipv_get hx
          have hck : N[go.toNat]? = some (.int .i64 (.sym kx)) := by rw [hN]; exact ipv_get hkx
          have hkb := hkept.bounds hP.ok
          conv => cbv
          refine Need.mk ⟨hgo0, hgo1⟩ ?_
          conv => cbv
          refine Cell.at go _ hcx (by simp [I.val]) rfl ?_
          conv => cbv
          refine callF_frame (freeA_lx x R w3 40 1280 L1 D3 hL1 hD3 hn40 hr1000 hP.ok rfl) [(0, 0), (1, 1), (2, 2), (3, 3)] rfl (by simp [hmapOk, nget, hget, renB, okB, renV, renVs, rn, okVs, okV]) rfl rfl (fun r h' n' hrr => ?_)
          obtain ⟨ef, R5, L5, e1, e2, e3, hL5, hFr⟩ := hrr
          subst e1 e2 e3
          conv => cbv
          obtain ⟨hef, hA5, hl5, hc5, hobj5⟩ := hP.free hkept hFr
          have hfew := hP.few
          have hn405 : (40 : Int) = R5.length := by rw [hl5]; rfl
          refine Need.mk ⟨hgo0, hgo1⟩ ?_
          conv => cbv
          refine Cell.at go _ hck (by simp [I.val]) rfl ?_
          conv => cbv
          refine CallF.le (args0 := [.ptr 0 (.lit 0), .p (.int .i64 (.sym 5)), .p (.int .i64 (.sym kx))]) (callF_frame (allocA_lx 5 kx R5 w3 40 1280 L5 D3 hL5 hD3 hn405 (by omega) hA5 rfl) [(0, 0), (1, 1), (2, 2), (3, 3)] rfl (by simp [hmapOk, nget, hget, renB, okB, renV, renVs, rn, okVs, okV]) rfl rfl (fun r h' n' hrr => ?_)) (by simp [ales, ale, pvle, I.val])
          obtain ⟨a6, e6, R6, w6, L6, D6, e1, e2, e3, hL6, hD6, hAl⟩ := hrr
          subst e1 e2 e3
          conv => cbv
          have he6 : e6 = 0 := by have := alloct_err hA5 hAl (by omega); rw [if_pos ⟨hkb.2.1, by omega, by decide, by decide⟩] at this; exact this
          obtain ⟨hA6, hl6⟩ := hA5.alloct hAl
          obtain ⟨hk6, hno6, hc6, _⟩ := alloct_ok hA5 hAl he6
          have hn406 : (40 : Int) = R6.length := by rw [hl6, hl5]; rfl
          have hcnt : j = objCount R6 := by omega
          have hxa : a6 = x ∨ a6 ∉ ats := by
            by_cases e : a6 = x
            · exact .inl e
            · exact .inr fun h => hno6 (hobj5 a6 h e)
          clear hAl hFr
          refine Br.mk (fun g => ?_) (fun g => ?_)
          case refine_2 =>
            have gf : False := g hef
            cases gf
          conv => cbv
          refine Br.mk (fun g => ?_) (fun g => ?_)
          case refine_2 =>
            have gf : False := g he6
            cases gf
          conv => cbv
          refine Need.mk ⟨hgo0, hgo1⟩ ?_
          conv => cbv
          refine Cell.at go _ hcx (by simp [I.val]) rfl ?_
          conv => cbv
          refine Br.mk (fun gx => ?_) (fun gx => ?_)
          · conv => cbv
            refine callF_frame (objects_lx j R6 40 1280 L6 D6 hL6 hn406 (by omega) hA6.rows rfl hcnt) [(0, 0), (1, 1), (2, 2), (3, 3)] rfl (by simp [hmapOk, nget, hget, renB, okB, renV, renVs, rn, okVs, okV]) rfl rfl (fun r h' n' hrr => ?_)
            obtain ⟨OO, e1, e2, e3, hOO⟩ := hrr
            subst e1 e2 e3
            conv => cbv
            refine Br.mk (fun g => ?_) (fun g => ?_)
            case refine_2 =>
              have gf : False := g rfl
              cases gf
            conv => cbv
            refine RetF.mk [.p (.bool true)] [] 0 (Re.of [] [] (by first | exact Nat.zero_le _ | exact Nat.le_refl _ | decide | (dsimp only; decide)) rfl rfl (by (try (conv => cbv)); (repeat' (first | exact trivial | rfl | exact SEq.mk rfl | (exact SEq.mk (by first | assumption | (symm; assumption))) | (simp only [I.val]; done) | (simp only [I.val]; omega) | omega | assumption | (refine And.intro ?_ ?_) | exact Or.inl rfl | exact Or.inr (by assumption) | exact List.Mem.head _ | exact List.Mem.tail _ (List.Mem.head _) | exact ⟨_, rfl⟩ | exact ⟨_, rfl, Or.inl rfl⟩ | (refine ⟨_, rfl, Or.inr ?_⟩; (try (conv => cbv))) | (simp only [I.val] at *; first | omega | (subst_vars; rfl) | simp_all) | (refine Or.inr ?_; (try (conv => cbv)))))) (by (try (conv => cbv)); (repeat' (first | exact trivial | rfl | exact SEq.mk rfl | (exact SEq.mk (by first | assumption | (symm; assumption))) | (simp only [I.val]; done) | (simp only [I.val]; omega) | omega | assumption | (refine And.intro ?_ ?_) | exact Or.inl rfl | exact Or.inr (by assumption) | exact List.Mem.head _ | exact List.Mem.tail _ (List.Mem.head _) | exact ⟨_, rfl⟩ | exact ⟨_, rfl, Or.inl rfl⟩ | (refine ⟨_, rfl, Or.inr ?_⟩; (try (conv => cbv))) | (simp only [I.val] at *; first | omega | (subst_vars; rfl) | simp_all) | (refine Or.inr ?_; (try (conv => cbv))))))) rfl rfl
          · have gx : ¬ a6 = x := gx
            have hnot6 : a6 ∉ ats := hxa.resolve_left gx
            conv => cbv
            refine callF_lend (in_lx ats a6 j O false hal hO (by omega) (decide_eq_false hnot6).symm) (by simp [lends, lendV, hget, I.val, pvle]) (fun r h' n' ⟨e1, e2, e3⟩ => by subst e1 e2; exact ⟨trivial, trivial⟩) (fun r h' n' ⟨e1, e2, e3⟩ => ?_)
            subst e1 e2 e3
            conv => cbv
            refine callF_frame (objects_lx j R6 40 1280 L6 D6 hL6 hn406 (by omega) hA6.rows rfl hcnt) [(0, 0), (1, 1), (2, 2), (3, 3)] rfl (by simp [hmapOk, nget, hget, renB, okB, renV, renVs, rn, okVs, okV]) rfl rfl (fun r h' n' hrr => ?_)
            obtain ⟨OO, e1, e2, e3, hOO⟩ := hrr
            subst e1 e2 e3
            conv => cbv
            refine Br.mk (fun g => ?_) (fun g => ?_)
            case refine_2 =>
              have gf : False := g rfl
              cases gf
            conv => cbv
            refine RetF.mk [.p (.bool true)] [] 0 (Re.of [] [] (by first | exact Nat.zero_le _ | exact Nat.le_refl _ | decide | (dsimp only; decide)) rfl rfl (by (try (conv => cbv)); (repeat' (first | exact trivial | rfl | exact SEq.mk rfl | (exact SEq.mk (by first | assumption | (symm; assumption))) | (simp only [I.val]; done) | (simp only [I.val]; omega) | omega | assumption | (refine And.intro ?_ ?_) | exact Or.inl rfl | exact Or.inr (by assumption) | exact List.Mem.head _ | exact List.Mem.tail _ (List.Mem.head _) | exact ⟨_, rfl⟩ | exact ⟨_, rfl, Or.inl rfl⟩ | (refine ⟨_, rfl, Or.inr ?_⟩; (try (conv => cbv))) | (simp only [I.val] at *; first | omega | (subst_vars; rfl) | simp_all) | (refine Or.inr ?_; (try (conv => cbv)))))) (by (try (conv => cbv)); (repeat' (first | exact trivial | rfl | exact SEq.mk rfl | (exact SEq.mk (by first | assumption | (symm; assumption))) | (simp only [I.val]; done) | (simp only [I.val]; omega) | omega | assumption | (refine And.intro ?_ ?_) | exact Or.inl rfl | exact Or.inr (by assumption) | exact List.Mem.head _ | exact List.Mem.tail _ (List.Mem.head _) | exact ⟨_, rfl⟩ | exact ⟨_, rfl, Or.inl rfl⟩ | (refine ⟨_, rfl, Or.inr ?_⟩; (try (conv => cbv))) | (simp only [I.val] at *; first | omega | (subst_vars; rfl) | simp_all) | (refine Or.inr ?_; (try (conv => cbv))))))) rfl rfl
end Go.Proofs.Ytlakoemonbadiaa
