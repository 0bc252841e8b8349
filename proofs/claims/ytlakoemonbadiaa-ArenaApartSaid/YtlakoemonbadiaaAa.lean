/-
  Layer 7: what is asked of the spans, and what is told of a place.
-/
import Derived.Test.YtlakoemonbadiaaSd
namespace Go.Proofs.Ytlakoemonbadiaa
open Go Go.LX
set_option maxRecDepth 100000
set_option linter.unusedVariables false
set_option linter.unusedSimpArgs false

def ofN (n : Int) : Int := if n < 4 then 0 else if n < 8 then 1 else if n < 16 then 2 else 3
/-- The least class of n words. -/
inductive OfR (n : Int) : Int → Bool → Prop
  | yes (c : Int) (hc : c = ofN n) (h : 0 ≤ n ∧ n ≤ 31) : OfR n c true
  | no (h : ¬ (0 ≤ n ∧ n ≤ 31)) : OfR n 0 false
set_option maxHeartbeats 2000000 in
theorem of_lx (n : Int) : CallF (fun _ => Try.prog) 37 [.p (.int .i64 (.sym n))] [] 0 (fun r h m => ∃ (c : Int) (b : Bool), r = .tup [.p (.int .i64 (.sym c)), .p (.bool b)] ∧ h = [] ∧ m = 0 ∧ OfR n c b) := by
  refine callF_of_body tok Try.func37 (by kernel_rfl) rfl rfl rfl ?_; conv => cbv
  refine Br.mk (fun g => ?_) (fun g => ?_)
  · have g : n < 0 := g
    have q : OfR n 0 false := .no (by omega)
    conv => cbv
    refine RetF.mk [.p (.int .i64 (.sym 0)), .p (.bool false)] [] 0 (Re.of [] [] (by first | exact Nat.zero_le _ | exact Nat.le_refl _ | decide | (dsimp only; decide)) rfl rfl (by (try (conv => cbv)); (repeat' (first | exact trivial | rfl | exact SEq.mk rfl | (exact SEq.mk (by first | assumption | (symm; assumption))) | (simp only [I.val]; done) | (simp only [I.val]; omega) | omega | assumption | (refine And.intro ?_ ?_) | exact Or.inl rfl | exact Or.inr (by assumption) | exact List.Mem.head _ | exact List.Mem.tail _ (List.Mem.head _) | exact ⟨_, rfl⟩ | exact ⟨_, rfl, Or.inl rfl⟩ | (refine ⟨_, rfl, Or.inr ?_⟩; (try (conv => cbv))) | (simp only [I.val] at *; first | omega | (subst_vars; rfl) | simp_all) | (refine Or.inr ?_; (try (conv => cbv)))))) (by (try (conv => cbv)); (repeat' (first | exact trivial | rfl | exact SEq.mk rfl | (exact SEq.mk (by first | assumption | (symm; assumption))) | (simp only [I.val]; done) | (simp only [I.val]; omega) | omega | assumption | (refine And.intro ?_ ?_) | exact Or.inl rfl | exact Or.inr (by assumption) | exact List.Mem.head _ | exact List.Mem.tail _ (List.Mem.head _) | exact ⟨_, rfl⟩ | exact ⟨_, rfl, Or.inl rfl⟩ | (refine ⟨_, rfl, Or.inr ?_⟩; (try (conv => cbv))) | (simp only [I.val] at *; first | omega | (subst_vars; rfl) | simp_all) | (refine Or.inr ?_; (try (conv => cbv))))))) rfl ⟨0, false, rfl, rfl, rfl, q⟩
  · have g : ¬ n < 0 := g
    conv => cbv
    refine LoopF.mk (fun k s => ∃ pos : Int, s = ⟨.p (.int .i64 (.sym n)) :: (undefs 7 ++ .ptr 0 (.lit 0) :: undefs 9), [(0, .iter (fun _ => ⟨#[4, 8, 16, 32]⟩) (.sym pos))], 1⟩ ∧ 0 ≤ pos ∧ pos ≤ 4 ∧ (1 ≤ pos → 4 ≤ n) ∧ (2 ≤ pos → 8 ≤ n) ∧ (3 ≤ pos → 16 ≤ n) ∧ (4 ≤ pos → 32 ≤ n) ∧ k = (4 - pos).toNat) 4 _
      (Re.of [(0, 0)] [] (by first | exact Nat.zero_le _ | exact Nat.le_refl _ | decide | (dsimp only; decide)) rfl rfl (by (try (conv => cbv)); (repeat' (first | exact trivial | rfl | exact SEq.mk rfl | (exact SEq.mk (by first | assumption | (symm; assumption))) | (simp only [I.val]; done) | (simp only [I.val]; omega) | omega | assumption | (refine And.intro ?_ ?_) | exact Or.inl rfl | exact Or.inr (by assumption) | exact List.Mem.head _ | exact List.Mem.tail _ (List.Mem.head _) | exact ⟨_, rfl⟩ | exact ⟨_, rfl, Or.inl rfl⟩ | (refine ⟨_, rfl, Or.inr ?_⟩; (try (conv => cbv))) | (simp only [I.val] at *; first | omega | (subst_vars; rfl) | simp_all) | (refine Or.inr ?_; (try (conv => cbv)))))) (by (try (conv => cbv)); (repeat' (first | exact trivial | rfl | exact SEq.mk rfl | (exact SEq.mk (by first | assumption | (symm; assumption))) | (simp only [I.val]; done) | (simp only [I.val]; omega) | omega | assumption | (refine And.intro ?_ ?_) | exact Or.inl rfl | exact Or.inr (by assumption) | exact List.Mem.head _ | exact List.Mem.tail _ (List.Mem.head _) | exact ⟨_, rfl⟩ | exact ⟨_, rfl, Or.inl rfl⟩ | (refine ⟨_, rfl, Or.inr ?_⟩; (try (conv => cbv))) | (simp only [I.val] at *; first | omega | (subst_vars; rfl) | simp_all) | (refine Or.inr ?_; (try (conv => cbv))))))) ⟨0, rfl, by omega, by omega, by omega, by omega, by omega, by omega, by omega⟩ ?_
    rintro k s ⟨pos, rfl, h0, h4, q1, q2, q3, q4, hk⟩
    conv => cbv
    by_cases hend : pos = 4
    · have q : OfR n 0 false := .no (by omega)
      refine NextS.over (by show (4 : Int) ≤ pos; omega) ?_
      conv => cbv
      refine RetF.mk [.p (.int .i64 (.sym 0)), .p (.bool false)] [] 0 (Re.of [] [] (by first | exact Nat.zero_le _ | exact Nat.le_refl _ | decide | (dsimp only; decide)) rfl rfl (by (try (conv => cbv)); (repeat' (first | exact trivial | rfl | exact SEq.mk rfl | (exact SEq.mk (by first | assumption | (symm; assumption))) | (simp only [I.val]; done) | (simp only [I.val]; omega) | omega | assumption | (refine And.intro ?_ ?_) | exact Or.inl rfl | exact Or.inr (by assumption) | exact List.Mem.head _ | exact List.Mem.tail _ (List.Mem.head _) | exact ⟨_, rfl⟩ | exact ⟨_, rfl, Or.inl rfl⟩ | (refine ⟨_, rfl, Or.inr ?_⟩; (try (conv => cbv))) | (simp only [I.val] at *; first | omega | (subst_vars; rfl) | simp_all) | (refine Or.inr ?_; (try (conv => cbv)))))) (by (try (conv => cbv)); (repeat' (first | exact trivial | rfl | exact SEq.mk rfl | (exact SEq.mk (by first | assumption | (symm; assumption))) | (simp only [I.val]; done) | (simp only [I.val]; omega) | omega | assumption | (refine And.intro ?_ ?_) | exact Or.inl rfl | exact Or.inr (by assumption) | exact List.Mem.head _ | exact List.Mem.tail _ (List.Mem.head _) | exact ⟨_, rfl⟩ | exact ⟨_, rfl, Or.inl rfl⟩ | (refine ⟨_, rfl, Or.inr ?_⟩; (try (conv => cbv))) | (simp only [I.val] at *; first | omega | (subst_vars; rfl) | simp_all) | (refine Or.inr ?_; (try (conv => cbv))))))) rfl ⟨0, false, rfl, rfl, rfl, q⟩
    · obtain ⟨x, hx⟩ : ∃ x, ([4, 8, 16, 32] : List UInt8)[pos.toNat]? = some x := ⟨_, List.getElem?_eq_getElem (by simp; omega)⟩
      have hd := dec_at [4, 8, 16, 32] (by decide) pos.toNat x hx
      have hx4 : pos = 0 ∧ x.toNat = 4 ∨ pos = 1 ∧ x.toNat = 8 ∨ pos = 2 ∧ x.toNat = 16 ∨ pos = 3 ∧ x.toNat = 32 := by
        have : pos = 0 ∨ pos = 1 ∨ pos = 2 ∨ pos = 3 := by omega
        rcases this with e2 | e2 | e2 | e2 <;> (rw [e2] at hx; have hx := Option.some.inj hx; rw [← hx]; rw [e2]; decide)
      refine NextS.more (by show pos < (4 : Int); omega) ?_
      intro r p' hr hp
      have hr : r = (x.toNat : Int) := by
        have : r = ((Utf8.decode ⟨#[4, 8, 16, 32]⟩ pos.toNat).1 : Int) := hr
        rw [this, hd]
      have hp : p' = pos + 1 := by
        have : p' = pos + ((Utf8.decode ⟨#[4, 8, 16, 32]⟩ pos.toNat).2 : Int) := hp
        rw [this, hd]; rfl
      obtain ⟨k', rfl⟩ : ∃ k', k = k' + 1 := ⟨k - 1, by omega⟩
      conv => cbv
      refine Fit.mk (by show (-9223372036854775808 : Int) ≤ r; omega) (by show r ≤ 9223372036854775807; omega) fun q hq => ?_
      have hq : q = r := hq
      conv => cbv
      refine Br.mk (fun g => ?_) (fun g => ?_)
      · have g : n < q := g
        have hc : pos = ofN n := by
          unfold ofN
          rcases hx4 with ⟨e1, e2⟩ | ⟨e1, e2⟩ | ⟨e1, e2⟩ | ⟨e1, e2⟩
          · rw [if_pos (by omega)]; exact e1
          · rw [if_neg (by omega), if_pos (by omega)]; exact e1
          · rw [if_neg (by omega), if_neg (by omega), if_pos (by omega)]; exact e1
          · rw [if_neg (by omega), if_neg (by omega), if_neg (by omega)]; exact e1
        have qq : OfR n pos true := .yes pos hc (by omega)
        conv => cbv
        refine RetF.mk [.p (.int .i64 (.sym pos)), .p (.bool true)] [] 0 (Re.of [] [] (by first | exact Nat.zero_le _ | exact Nat.le_refl _ | decide | (dsimp only; decide)) rfl rfl (by (try (conv => cbv)); (repeat' (first | exact trivial | rfl | exact SEq.mk rfl | (exact SEq.mk (by first | assumption | (symm; assumption))) | (simp only [I.val]; done) | (simp only [I.val]; omega) | omega | assumption | (refine And.intro ?_ ?_) | exact Or.inl rfl | exact Or.inr (by assumption) | exact List.Mem.head _ | exact List.Mem.tail _ (List.Mem.head _) | exact ⟨_, rfl⟩ | exact ⟨_, rfl, Or.inl rfl⟩ | (refine ⟨_, rfl, Or.inr ?_⟩; (try (conv => cbv))) | (simp only [I.val] at *; first | omega | (subst_vars; rfl) | simp_all) | (refine Or.inr ?_; (try (conv => cbv)))))) (by (try (conv => cbv)); (repeat' (first | exact trivial | rfl | exact SEq.mk rfl | (exact SEq.mk (by first | assumption | (symm; assumption))) | (simp only [I.val]; done) | (simp only [I.val]; omega) | omega | assumption | (refine And.intro ?_ ?_) | exact Or.inl rfl | exact Or.inr (by assumption) | exact List.Mem.head _ | exact List.Mem.tail _ (List.Mem.head _) | exact ⟨_, rfl⟩ | exact ⟨_, rfl, Or.inl rfl⟩ | (refine ⟨_, rfl, Or.inr ?_⟩; (try (conv => cbv))) | (simp only [I.val] at *; first | omega | (subst_vars; rfl) | simp_all) | (refine Or.inr ?_; (try (conv => cbv))))))) rfl ⟨pos, true, rfl, rfl, rfl, qq⟩
      · have g : ¬ n < q := g
        conv => cbv
        refine Again.mk k' _ (Nat.lt_succ_self _) (Re.of [(0, 0)] [] (by first | exact Nat.zero_le _ | exact Nat.le_refl _ | decide | (dsimp only; decide)) rfl rfl (by (try (conv => cbv)); (repeat' (first | exact trivial | rfl | exact SEq.mk rfl | (exact SEq.mk (by first | assumption | (symm; assumption))) | (simp only [I.val]; done) | (simp only [I.val]; omega) | omega | assumption | (refine And.intro ?_ ?_) | exact Or.inl rfl | exact Or.inr (by assumption) | exact List.Mem.head _ | exact List.Mem.tail _ (List.Mem.head _) | exact ⟨_, rfl⟩ | exact ⟨_, rfl, Or.inl rfl⟩ | (refine ⟨_, rfl, Or.inr ?_⟩; (try (conv => cbv))) | (simp only [I.val] at *; first | omega | (subst_vars; rfl) | simp_all) | (refine Or.inr ?_; (try (conv => cbv)))))) (by (try (conv => cbv)); (repeat' (first | exact trivial | rfl | exact SEq.mk rfl | (exact SEq.mk (by first | assumption | (symm; assumption))) | (simp only [I.val]; done) | (simp only [I.val]; omega) | omega | assumption | (refine And.intro ?_ ?_) | exact Or.inl rfl | exact Or.inr (by assumption) | exact List.Mem.head _ | exact List.Mem.tail _ (List.Mem.head _) | exact ⟨_, rfl⟩ | exact ⟨_, rfl, Or.inl rfl⟩ | (refine ⟨_, rfl, Or.inr ?_⟩; (try (conv => cbv))) | (simp only [I.val] at *; first | omega | (subst_vars; rfl) | simp_all) | (refine Or.inr ?_; (try (conv => cbv))))))) ⟨p', rfl, by omega, by omega, by omega, by omega, by omega, by omega, by omega⟩
/-- The class of a row: -1 of one without marks. -/
def clsOf (e : Rw) : Int := if e.2 = [] then -1 else e.1
theorem classA_lx (R : List Rw) (n i v : Int) (e : Rw) (L : List PV) (hL : L = rpv R) (hn : n = R.length) (hi0 : 0 ≤ i) (hi : R[i.toNat]? = some e) (hv : v = clsOf e) : CallF (fun _ => Try.prog) 46 [.ptr 0 (.lit 0), .p (.int .i64 (.sym i))] [(0, .mix [.sl 1 79 2 (.lit 0) (.sym n)]), (1, .pure true L)] 2
    (fun r h n' => r = .p (.int .i64 (.sym v)) ∧ h = [(0, .mix [.sl 1 79 2 (.lit 0) (.sym n)]), (1, .pure true L)] ∧ n' = 2) := by
  obtain ⟨d, m⟩ := e
  unfold clsOf at hv
  by_cases hm : m = []
  · subst hm
    rw [if_pos rfl] at hv
    refine (class_none_lx R n i d L hL hn hi0 hi).mono ?_
    rintro r h n' ⟨⟨v', e1, e2⟩, e3, e4⟩
    exact ⟨by rw [e1, e2, hv], e3, e4⟩
  · rw [if_neg hm] at hv
    rw [hv]
    exact class_lx R n i d m L hL hn hi0 hi hm
/-- The slot whose first word is at a place. -/
inductive SlotAt (R : List Rw) (at_ : Int) : Int → Int → Bool → Prop
  | no (h : ∀ (q s : Nat) (e : Rw), R[q]? = some e → wordsOf (clsOf e) ≠ 0 → (s : Int) * wordsOf (clsOf e) < 32 → at_ ≠ 32 * q + s * wordsOf (clsOf e)) : SlotAt R at_ 0 0 false
  | is (q s : Nat) (e : Rw) (he : R[q]? = some e) (hs : wordsOf (clsOf e) ≠ 0) (hlt : (s : Int) * wordsOf (clsOf e) < 32) (hat : at_ = 32 * q + s * wordsOf (clsOf e)) : SlotAt R at_ q s true
theorem wordsOf_cases (c : Int) : wordsOf c = 0 ∨ wordsOf c = 4 ∨ wordsOf c = 8 ∨ wordsOf c = 16 ∨ wordsOf c = 32 := by
  unfold wordsOf
  split
  · omega
  · split
    · omega
    · split
      · omega
      · split <;> omega
set_option maxHeartbeats 2000000 in
theorem slotAt_lx (R : List Rw) (n at_ W : Int) (L D : List PV) (hL : L = rpv R) (hn : n = R.length) (hR : R.length ≤ 1000) (hW : W = 32 * n) : CallF (fun _ => Try.prog) 32 [.ptr 0 (.lit 0), .p (.int .i64 (.sym at_))] [(0, .mix [.ptr 1 (.lit 0), .sl 3 3 1 (.lit 0) (.sym W)]), (1, .mix [.sl 2 79 2 (.lit 0) (.sym n)]), (2, .pure true L), (3, .pure true D)] 4
    (fun r h n' => ∃ (q s : Int) (b : Bool), r = .tup [.p (.int .i64 (.sym q)), .p (.int .i64 (.sym s)), .p (.bool b)] ∧ h = [(0, .mix [.ptr 1 (.lit 0), .sl 3 3 1 (.lit 0) (.sym W)]), (1, .mix [.sl 2 79 2 (.lit 0) (.sym n)]), (2, .pure true L), (3, .pure true D)] ∧ n' = 4 ∧ SlotAt R at_ q s b) := by
  refine callF_of_body tok Try.func32 (by kernel_rfl) rfl rfl rfl ?_; conv => cbv
  refine Br.mk (fun g => ?_) (fun g => ?_)
  · have g : at_ < 0 := g
    have qq : SlotAt R at_ 0 0 false := .no (fun q s e he hs hlt => by
      have : 0 ≤ (s : Int) * wordsOf (clsOf e) := Int.mul_nonneg (by omega) (wordsOf_bd _).1
      omega)
    conv => cbv
    refine RetF.mk [.p (.int .i64 (.sym 0)), .p (.int .i64 (.sym 0)), .p (.bool false)] [(0, .mix [.ptr 1 (.lit 0), .sl 3 3 1 (.lit 0) (.sym W)]), (1, .mix [.sl 2 79 2 (.lit 0) (.sym n)]), (2, .pure true L), (3, .pure true D)] 4 (Re.of [(0, 0), (1, 1), (2, 2), (3, 3)] [] (by first | exact Nat.zero_le _ | exact Nat.le_refl _ | decide | (dsimp only; decide)) rfl rfl (by (try (conv => cbv)); (repeat' (first | exact trivial | rfl | exact SEq.mk rfl | (exact SEq.mk (by first | assumption | (symm; assumption))) | (simp only [I.val]; done) | (simp only [I.val]; omega) | omega | assumption | (refine And.intro ?_ ?_) | exact Or.inl rfl | exact Or.inr (by assumption) | exact List.Mem.head _ | exact List.Mem.tail _ (List.Mem.head _) | exact ⟨_, rfl⟩ | exact ⟨_, rfl, Or.inl rfl⟩ | (refine ⟨_, rfl, Or.inr ?_⟩; (try (conv => cbv))) | (simp only [I.val] at *; first | omega | (subst_vars; rfl) | simp_all) | (refine Or.inr ?_; (try (conv => cbv)))))) (by (try (conv => cbv)); (repeat' (first | exact trivial | rfl | exact SEq.mk rfl | (exact SEq.mk (by first | assumption | (symm; assumption))) | (simp only [I.val]; done) | (simp only [I.val]; omega) | omega | assumption | (refine And.intro ?_ ?_) | exact Or.inl rfl | exact Or.inr (by assumption) | exact List.Mem.head _ | exact List.Mem.tail _ (List.Mem.head _) | exact ⟨_, rfl⟩ | exact ⟨_, rfl, Or.inl rfl⟩ | (refine ⟨_, rfl, Or.inr ?_⟩; (try (conv => cbv))) | (simp only [I.val] at *; first | omega | (subst_vars; rfl) | simp_all) | (refine Or.inr ?_; (try (conv => cbv))))))) rfl ⟨0, 0, false, rfl, rfl, rfl, qq⟩
  have g : ¬ at_ < 0 := g
  conv => cbv
  refine Br.mk (fun g2 => ?_) (fun g2 => ?_)
  · have g2 : W ≤ at_ := g2
    have qq : SlotAt R at_ 0 0 false := .no (fun q s e he hs hlt => by
      have := (List.getElem?_eq_some_iff.1 he).1
      omega)
    conv => cbv
    refine RetF.mk [.p (.int .i64 (.sym 0)), .p (.int .i64 (.sym 0)), .p (.bool false)] [(0, .mix [.ptr 1 (.lit 0), .sl 3 3 1 (.lit 0) (.sym W)]), (1, .mix [.sl 2 79 2 (.lit 0) (.sym n)]), (2, .pure true L), (3, .pure true D)] 4 (Re.of [(0, 0), (1, 1), (2, 2), (3, 3)] [] (by first | exact Nat.zero_le _ | exact Nat.le_refl _ | decide | (dsimp only; decide)) rfl rfl (by (try (conv => cbv)); (repeat' (first | exact trivial | rfl | exact SEq.mk rfl | (exact SEq.mk (by first | assumption | (symm; assumption))) | (simp only [I.val]; done) | (simp only [I.val]; omega) | omega | assumption | (refine And.intro ?_ ?_) | exact Or.inl rfl | exact Or.inr (by assumption) | exact List.Mem.head _ | exact List.Mem.tail _ (List.Mem.head _) | exact ⟨_, rfl⟩ | exact ⟨_, rfl, Or.inl rfl⟩ | (refine ⟨_, rfl, Or.inr ?_⟩; (try (conv => cbv))) | (simp only [I.val] at *; first | omega | (subst_vars; rfl) | simp_all) | (refine Or.inr ?_; (try (conv => cbv)))))) (by (try (conv => cbv)); (repeat' (first | exact trivial | rfl | exact SEq.mk rfl | (exact SEq.mk (by first | assumption | (symm; assumption))) | (simp only [I.val]; done) | (simp only [I.val]; omega) | omega | assumption | (refine And.intro ?_ ?_) | exact Or.inl rfl | exact Or.inr (by assumption) | exact List.Mem.head _ | exact List.Mem.tail _ (List.Mem.head _) | exact ⟨_, rfl⟩ | exact ⟨_, rfl, Or.inl rfl⟩ | (refine ⟨_, rfl, Or.inr ?_⟩; (try (conv => cbv))) | (simp only [I.val] at *; first | omega | (subst_vars; rfl) | simp_all) | (refine Or.inr ?_; (try (conv => cbv))))))) rfl ⟨0, 0, false, rfl, rfl, rfl, qq⟩
  have g2 : ¬ W ≤ at_ := g2
  conv => cbv
  have ht : Int.tdiv at_ 32 = at_ / 32 := Int.tdiv_eq_ediv_of_nonneg (by omega)
  refine Fit.mk (by show (-9223372036854775808 : Int) ≤ Int.tdiv at_ 32; omega) (by show Int.tdiv at_ 32 ≤ 9223372036854775807; omega) fun q hq => ?_
  have hq : q = at_ / 32 := (show q = Int.tdiv at_ 32 from hq).trans ht
  clear ht
  conv => cbv
  refine Sum.mk fun z hz => ?_
  have hz : z = at_ % 32 := (show z = Int.tmod at_ 32 from hz).trans (Int.tmod_eq_emod_of_nonneg (by omega))
  obtain ⟨e, he⟩ : ∃ e, R[q.toNat]? = some e := ⟨_, List.getElem?_eq_getElem (by omega)⟩
  obtain ⟨v, hv⟩ : ∃ v, v = clsOf e := ⟨_, rfl⟩
  obtain ⟨w, hw⟩ : ∃ w, w = wordsOf v := ⟨_, rfl⟩
  have hw5 := wordsOf_cases v
  rw [← hw] at hw5
  conv => cbv
  refine callF_frame (classA_lx R n q v e L hL hn (by omega) he hv) [(0, 1), (1, 2)] rfl (by simp [hmapOk, nget, hget, renB, okB, renV, renVs, rn, okVs, okV]) rfl rfl (fun r h' n' ⟨e1, e2, e3⟩ => ?_)
  subst e1 e2 e3
  conv => cbv
  refine callF_frame (words_lx v w hw) [] rfl trivial rfl rfl (fun r h' n' ⟨e1, e2, e3⟩ => ?_)
  subst e1 e2 e3
  conv => cbv
  refine Br.mk (fun g3 => ?_) (fun g3 => ?_)
  · have g3 : w = 0 := g3
    have qq : SlotAt R at_ 0 0 false := .no (fun q' s' e' he' hs' hlt' hat' => by
      have h0 : 0 ≤ (s' : Int) * wordsOf (clsOf e') := Int.mul_nonneg (by omega) (wordsOf_bd _).1
      have : q' = q.toNat := by omega
      subst this
      rw [he] at he'
      cases he'
      rw [← hv, ← hw] at hs'
      exact hs' g3)
    conv => cbv
    refine RetF.mk [.p (.int .i64 (.sym 0)), .p (.int .i64 (.sym 0)), .p (.bool false)] [(0, .mix [.ptr 1 (.lit 0), .sl 3 3 1 (.lit 0) (.sym W)]), (1, .mix [.sl 2 79 2 (.lit 0) (.sym n)]), (2, .pure true L), (3, .pure true D)] 4 (Re.of [(0, 0), (1, 1), (2, 2), (3, 3)] [] (by first | exact Nat.zero_le _ | exact Nat.le_refl _ | decide | (dsimp only; decide)) rfl rfl (by (try (conv => cbv)); (repeat' (first | exact trivial | rfl | exact SEq.mk rfl | (exact SEq.mk (by first | assumption | (symm; assumption))) | (simp only [I.val]; done) | (simp only [I.val]; omega) | omega | assumption | (refine And.intro ?_ ?_) | exact Or.inl rfl | exact Or.inr (by assumption) | exact List.Mem.head _ | exact List.Mem.tail _ (List.Mem.head _) | exact ⟨_, rfl⟩ | exact ⟨_, rfl, Or.inl rfl⟩ | (refine ⟨_, rfl, Or.inr ?_⟩; (try (conv => cbv))) | (simp only [I.val] at *; first | omega | (subst_vars; rfl) | simp_all) | (refine Or.inr ?_; (try (conv => cbv)))))) (by (try (conv => cbv)); (repeat' (first | exact trivial | rfl | exact SEq.mk rfl | (exact SEq.mk (by first | assumption | (symm; assumption))) | (simp only [I.val]; done) | (simp only [I.val]; omega) | omega | assumption | (refine And.intro ?_ ?_) | exact Or.inl rfl | exact Or.inr (by assumption) | exact List.Mem.head _ | exact List.Mem.tail _ (List.Mem.head _) | exact ⟨_, rfl⟩ | exact ⟨_, rfl, Or.inl rfl⟩ | (refine ⟨_, rfl, Or.inr ?_⟩; (try (conv => cbv))) | (simp only [I.val] at *; first | omega | (subst_vars; rfl) | simp_all) | (refine Or.inr ?_; (try (conv => cbv))))))) rfl ⟨0, 0, false, rfl, rfl, rfl, qq⟩
  have g3 : ¬ w = 0 := g3
  conv => cbv
  refine Need.mk g3 ?_
  conv => cbv
  refine Sum.mk fun y hy => ?_
  have hy : y = z % w := (show y = Int.tmod z w from hy).trans (Int.tmod_eq_emod_of_nonneg (by omega))
  conv => cbv
  refine Br.mk (fun g4 => ?_) (fun g4 => ?_)
  · have g4 : ¬ y = 0 := g4
    have qq : SlotAt R at_ 0 0 false := .no (fun q' s' e' he' hs' hlt' hat' => by
      have h0 : 0 ≤ (s' : Int) * wordsOf (clsOf e') := Int.mul_nonneg (by omega) (wordsOf_bd _).1
      have : q' = q.toNat := by omega
      subst this
      rw [he] at he'
      cases he'
      rw [← hv, ← hw] at hat' h0 hlt'
      have : z = s' * w := by omega
      rw [this, Int.mul_emod_left] at hy
      exact g4 hy)
    conv => cbv
    refine RetF.mk [.p (.int .i64 (.sym 0)), .p (.int .i64 (.sym 0)), .p (.bool false)] [(0, .mix [.ptr 1 (.lit 0), .sl 3 3 1 (.lit 0) (.sym W)]), (1, .mix [.sl 2 79 2 (.lit 0) (.sym n)]), (2, .pure true L), (3, .pure true D)] 4 (Re.of [(0, 0), (1, 1), (2, 2), (3, 3)] [] (by first | exact Nat.zero_le _ | exact Nat.le_refl _ | decide | (dsimp only; decide)) rfl rfl (by (try (conv => cbv)); (repeat' (first | exact trivial | rfl | exact SEq.mk rfl | (exact SEq.mk (by first | assumption | (symm; assumption))) | (simp only [I.val]; done) | (simp only [I.val]; omega) | omega | assumption | (refine And.intro ?_ ?_) | exact Or.inl rfl | exact Or.inr (by assumption) | exact List.Mem.head _ | exact List.Mem.tail _ (List.Mem.head _) | exact ⟨_, rfl⟩ | exact ⟨_, rfl, Or.inl rfl⟩ | (refine ⟨_, rfl, Or.inr ?_⟩; (try (conv => cbv))) | (simp only [I.val] at *; first | omega | (subst_vars; rfl) | simp_all) | (refine Or.inr ?_; (try (conv => cbv)))))) (by (try (conv => cbv)); (repeat' (first | exact trivial | rfl | exact SEq.mk rfl | (exact SEq.mk (by first | assumption | (symm; assumption))) | (simp only [I.val]; done) | (simp only [I.val]; omega) | omega | assumption | (refine And.intro ?_ ?_) | exact Or.inl rfl | exact Or.inr (by assumption) | exact List.Mem.head _ | exact List.Mem.tail _ (List.Mem.head _) | exact ⟨_, rfl⟩ | exact ⟨_, rfl, Or.inl rfl⟩ | (refine ⟨_, rfl, Or.inr ?_⟩; (try (conv => cbv))) | (simp only [I.val] at *; first | omega | (subst_vars; rfl) | simp_all) | (refine Or.inr ?_; (try (conv => cbv))))))) rfl ⟨0, 0, false, rfl, rfl, rfl, qq⟩
  have g4 : y = 0 := Classical.byContradiction g4
  have ht : Int.tdiv z w = z / w := Int.tdiv_eq_ediv_of_nonneg (by omega)
  have hwz : w * (z / w) + z % w = z := Int.mul_ediv_add_emod z w
  have hd0 : 0 ≤ z / w := Int.ediv_nonneg (by omega) (by omega)
  obtain ⟨sn, hsn⟩ : ∃ sn : Nat, (sn : Int) = z / w := ⟨(z / w).toNat, by omega⟩
  rw [← hsn] at hwz ht
  have hsb : (sn : Int) ≤ z := by
    have h1 : (1 : Int) * sn ≤ w * sn := Int.mul_le_mul_of_nonneg_right (by omega) (by omega)
    omega
  have qq : SlotAt R at_ q sn true := by
    have hqn : q = (q.toNat : Int) := by omega
    rw [hqn]
    have hmul : (sn : Int) * w = z := by rw [Int.mul_comm]; omega
    refine .is q.toNat sn e he ?_ ?_ ?_
    · rw [← hv, ← hw]; exact g3
    · rw [← hv, ← hw, hmul]; omega
    · rw [← hv, ← hw, hmul]; omega
  clear hwz hd0
  conv => cbv
  refine draw_sound tok (by kernel_rfl) rfl (by kernel_rfl) ?_
  conv => cbv
  refine Need.mk g3 ?_
  conv => cbv
  refine Fit.mk (by show (-9223372036854775808 : Int) ≤ Int.tdiv z w; omega) (by show Int.tdiv z w ≤ 9223372036854775807; omega) fun s0 hs0 => ?_
  have hs0 : s0 = sn := (show s0 = Int.tdiv z w from hs0).trans ht
  rw [← hs0] at qq
  conv => cbv
  refine RetF.mk [.p (.int .i64 (.sym q)), .p (.int .i64 (.sym s0)), .p (.bool true)] [(0, .mix [.ptr 1 (.lit 0), .sl 3 3 1 (.lit 0) (.sym W)]), (1, .mix [.sl 2 79 2 (.lit 0) (.sym n)]), (2, .pure true L), (3, .pure true D)] 4 (Re.of [(0, 0), (1, 1), (2, 2), (3, 3)] [] (by first | exact Nat.zero_le _ | exact Nat.le_refl _ | decide | (dsimp only; decide)) rfl rfl (by (try (conv => cbv)); (repeat' (first | exact trivial | rfl | exact SEq.mk rfl | (exact SEq.mk (by first | assumption | (symm; assumption))) | (simp only [I.val]; done) | (simp only [I.val]; omega) | omega | assumption | (refine And.intro ?_ ?_) | exact Or.inl rfl | exact Or.inr (by assumption) | exact List.Mem.head _ | exact List.Mem.tail _ (List.Mem.head _) | exact ⟨_, rfl⟩ | exact ⟨_, rfl, Or.inl rfl⟩ | (refine ⟨_, rfl, Or.inr ?_⟩; (try (conv => cbv))) | (simp only [I.val] at *; first | omega | (subst_vars; rfl) | simp_all) | (refine Or.inr ?_; (try (conv => cbv)))))) (by (try (conv => cbv)); (repeat' (first | exact trivial | rfl | exact SEq.mk rfl | (exact SEq.mk (by first | assumption | (symm; assumption))) | (simp only [I.val]; done) | (simp only [I.val]; omega) | omega | assumption | (refine And.intro ?_ ?_) | exact Or.inl rfl | exact Or.inr (by assumption) | exact List.Mem.head _ | exact List.Mem.tail _ (List.Mem.head _) | exact ⟨_, rfl⟩ | exact ⟨_, rfl, Or.inl rfl⟩ | (refine ⟨_, rfl, Or.inr ?_⟩; (try (conv => cbv))) | (simp only [I.val] at *; first | omega | (subst_vars; rfl) | simp_all) | (refine Or.inr ?_; (try (conv => cbv))))))) rfl ⟨q, s0, true, rfl, rfl, rfl, qq⟩
end Go.Proofs.Ytlakoemonbadiaa
