/-
  Layer 7: what is allotted and given back.
-/
import Derived.Test.YtlakoemonbadiaaAc
namespace Go.Proofs.Ytlakoemonbadiaa
open Go Go.LX
set_option maxRecDepth 100000
set_option linter.unusedVariables false
set_option linter.unusedSimpArgs false

theorem header_lx (k l : Int) (hk : 0 ≤ k ∧ k ≤ 100) (hl : 0 ≤ l ∧ l ≤ 100) (v : Int) (hv : v = k + 16 * l) : CallF (fun _ => Try.prog) 40 [.agg [.p (.int .i64 (.sym k)), .p (.int .i64 (.sym l))]] [] 0 (fun r h n' => r = .p (.int .i64 (.sym v)) ∧ h = [] ∧ n' = 0) := by
  refine callF_of_body tok Try.func40 (by kernel_rfl) rfl rfl rfl ?_; conv => cbv
  refine Fit.mk (by show (-9223372036854775808 : Int) ≤ 16 * l; omega) (by show 16 * l ≤ 9223372036854775807; omega) fun a ha => ?_
  have ha : a = 16 * l := ha
  conv => cbv
  refine Fit.mk (by show (-9223372036854775808 : Int) ≤ k + a; omega) (by show k + a ≤ 9223372036854775807; omega) fun b hb => ?_
  have hb : b = k + a := hb
  have hbv : b = v := by omega
  conv => cbv
  refine RetF.mk [.p (.int .i64 (.sym v))] [] 0 (Re.of [] [] (by first | exact Nat.zero_le _ | exact Nat.le_refl _ | decide | (dsimp only; decide)) rfl rfl (by (try (conv => cbv)); (repeat' (first | exact trivial | rfl | exact SEq.mk rfl | (exact SEq.mk (by first | assumption | (symm; assumption))) | (simp only [I.val]; done) | (simp only [I.val]; omega) | omega | assumption | (refine And.intro ?_ ?_) | exact Or.inl rfl | exact Or.inr (by assumption) | exact List.Mem.head _ | exact List.Mem.tail _ (List.Mem.head _) | exact ⟨_, rfl⟩ | exact ⟨_, rfl, Or.inl rfl⟩ | (refine ⟨_, rfl, Or.inr ?_⟩; (try (conv => cbv))) | (simp only [I.val] at *; first | omega | (subst_vars; rfl) | simp_all) | (refine Or.inr ?_; (try (conv => cbv)))))) (by (try (conv => cbv)); (repeat' (first | exact trivial | rfl | exact SEq.mk rfl | (exact SEq.mk (by first | assumption | (symm; assumption))) | (simp only [I.val]; done) | (simp only [I.val]; omega) | omega | assumption | (refine And.intro ?_ ?_) | exact Or.inl rfl | exact Or.inr (by assumption) | exact List.Mem.head _ | exact List.Mem.tail _ (List.Mem.head _) | exact ⟨_, rfl⟩ | exact ⟨_, rfl, Or.inl rfl⟩ | (refine ⟨_, rfl, Or.inr ?_⟩; (try (conv => cbv))) | (simp only [I.val] at *; first | omega | (subst_vars; rfl) | simp_all) | (refine Or.inr ?_; (try (conv => cbv))))))) rfl ⟨rfl, rfl, rfl⟩
/-- Noughts from a place on. -/
def zer : List Int → Nat → Nat → List Int
  | ws, _, 0 => ws
  | ws, j, n + 1 => zer (ws.set j 0) (j + 1) n
theorem zer_length : ∀ (n : Nat) (ws : List Int) (j : Nat), (zer ws j n).length = ws.length
  | 0, _, _ => rfl
  | n + 1, ws, j => by rw [zer, zer_length n, List.length_set]
theorem zer_get : ∀ (n : Nat) (ws : List Int) (j i : Nat), i < ws.length → (zer ws j n)[i]? = if j ≤ i ∧ i < j + n then some 0 else ws[i]?
  | 0, ws, j, i, h => by rw [zer, if_neg (by omega)]
  | n + 1, ws, j, i, h => by
    rw [zer, zer_get n _ _ _ (by rw [List.length_set]; exact h)]
    by_cases h1 : j + 1 ≤ i ∧ i < j + 1 + n
    · rw [if_pos h1, if_pos (by omega)]
    · rw [if_neg h1]
      by_cases h2 : j = i
      · subst h2
        rw [List.getElem?_set_self h, if_pos (by omega)]
      · rw [List.getElem?_set_ne h2, if_neg (by omega)]
theorem pvles_set : ∀ (L M : List PV) (j : Nat) (u v : PV), pvles L M → pvle u v → pvles (L.set j u) (M.set j v)
  | [], [], _, _, _, _, _ => trivial
  | x :: L, y :: M, 0, u, v, h, k => ⟨k, h.2⟩
  | x :: L, y :: M, j + 1, u, v, h, k => ⟨h.1, pvles_set L M j u v h.2 k⟩
theorem upd_zer : ∀ (n : Nat) (L : List PV) (ws : List Int) (j : Nat), pvles L (ipv ws) → pvles (updL L j (repsP [.int .i64 (.lit 0)] n)) (ipv (zer ws j n))
  | 0, _, _, _, h => h
  | n + 1, L, ws, j, h => by
    show pvles (updL (L.set j _) (j + 1) (repsP [.int .i64 (.lit 0)] n)) (ipv (zer (ws.set j 0) (j + 1) n))
    refine upd_zer n _ _ _ ?_
    rw [ipv, List.map_set]
    exact pvles_set _ _ _ _ _ h (by simp [pvle, I.val])
/-- What becomes of an arena in which an object is asked for. -/
inductive Alloct (R : List Rw) (ws : List Int) (kind n : Int) : Int → Int → List Rw → List Int → Prop
  | arg (h : ¬ (0 ≤ n ∧ n ≤ 31 ∧ 1 ≤ kind ∧ kind ≤ 6)) : Alloct R ws kind n 0 1 R ws
  | room (i s : Int) (R' : List Rw) (h : 0 ≤ n ∧ n ≤ 31 ∧ 1 ≤ kind ∧ kind ≤ 6) (ha : Alloced R (ofN n) i s false R') : Alloct R ws kind n 0 9 R' ws
  | ok (i s at_ : Int) (R' : List Rw) (h : 0 ≤ n ∧ n ≤ 31 ∧ 1 ≤ kind ∧ kind ≤ 6) (ha : Alloced R (ofN n) i s true R') (hi : 0 ≤ i ∧ i < R.length ∧ 0 ≤ s ∧ s < slotsOf (ofN n)) (hat : at_ = 32 * i + s * wordsOf (ofN n)) :
      Alloct R ws kind n at_ 0 R' (zer (ws.set at_.toNat (kind + 16 * n)) (at_.toNat + 1) n.toNat)
theorem ofN_bd (n : Int) : 0 ≤ ofN n ∧ ofN n ≤ 3 := by
  unfold ofN
  split
  · omega
  · split
    · omega
    · split <;> omega
theorem ofN_words {n : Int} (h : 0 ≤ n ∧ n ≤ 31) : n < wordsOf (ofN n) ∧ wordsOf (ofN n) ≠ 0 := by
  unfold ofN
  split
  · exact ⟨by rw [show wordsOf 0 = 4 from rfl]; omega, by decide⟩
  · split
    · exact ⟨by rw [show wordsOf 1 = 8 from rfl]; omega, by decide⟩
    · split
      · exact ⟨by rw [show wordsOf 2 = 16 from rfl]; omega, by decide⟩
      · exact ⟨by rw [show wordsOf 3 = 32 from rfl]; omega, by decide⟩
theorem ofN_slots (n : Int) : slotsOf (ofN n) ≠ 0 := by
  unfold ofN
  split
  · decide
  · split
    · decide
    · split <;> decide
theorem alloced_in {R R' : List Rw} {c i s : Int} (hR : RowsOk R) (h : Alloced R c i s true R') : 0 ≤ i ∧ i < R.length ∧ 0 ≤ s ∧ s < slotsOf c := by
  cases h with
  | old i s l h0 hi hs h1 h2 =>
    have hq := (List.getElem?_eq_some_iff.1 hi).1
    have hs1 := (List.getElem?_eq_some_iff.1 hs).1
    have hne : l ≠ [] := by intro e; subst e; simp at hs
    have h4 : l.length = slotsOf c := ((hR _ (List.mem_of_getElem? hi)).2 hne).2.1
    omega
  | fresh i d h0 h2 hi h3 =>
    have hq := (List.getElem?_eq_some_iff.1 hi).1
    omega
set_option maxHeartbeats 4000000 in
theorem allocA_lx (kind m : Int) (R : List Rw) (ws : List Int) (n W : Int) (L D : List PV) (hL : L = rpv R) (hD : D = ipv ws) (hn : n = R.length) (hR : R.length ≤ 1000) (hA : AOk R ws) (hW : W = 32 * n) : CallF (fun _ => Try.prog) 15 [.ptr 0 (.lit 0), .p (.int .i64 (.sym kind)), .p (.int .i64 (.sym m))] [(0, .mix [.ptr 1 (.lit 0), .sl 3 3 1 (.lit 0) (.sym W)]), (1, .mix [.sl 2 79 2 (.lit 0) (.sym n)]), (2, .pure true L), (3, .pure true D)] 4
    (fun r h n' => ∃ (at_ e : Int) (R' : List Rw) (ws' : List Int) (L' D' : List PV), r = .tup [.p (.int .i64 (.sym at_)), .p (.int .i64 (.sym e))] ∧ h = [(0, .mix [.ptr 1 (.lit 0), .sl 3 3 1 (.lit 0) (.sym W)]), (1, .mix [.sl 2 79 2 (.lit 0) (.sym n)]), (2, .pure true L'), (3, .pure true D')] ∧ n' = 4 ∧ L' = rpv R' ∧ D' = ipv ws' ∧ Alloct R ws kind m at_ e R' ws') := by
  have hlen := hA.len
  have hDl : D.length = ws.length := by rw [hD, ipv_length]
  have hm8 : ∀ e ∈ R, e.2.length ≤ 8 := fun e he => (hA.rows e he).1
  refine callF_of_body tok Try.func15 (by kernel_rfl) rfl rfl rfl ?_; conv => cbv
  refine callF_frame (of_lx m) [] rfl trivial rfl rfl (fun r h' n' hrr => ?_)
  obtain ⟨c, b, e1, e2, e3, hO⟩ := hrr
  subst e1 e2 e3
  cases hO with
  | no hno =>
    conv => cbv
    refine RetF.mk [.p (.int .i64 (.sym 0)), .p (.int .i64 (.sym 1))] [(0, .mix [.ptr 1 (.lit 0), .sl 3 3 1 (.lit 0) (.sym W)]), (1, .mix [.sl 2 79 2 (.lit 0) (.sym n)]), (2, .pure true L), (3, .pure true D)] 4 (Re.of [(0, 0), (1, 1), (2, 2), (3, 3)] [] (by first | exact Nat.zero_le _ | exact Nat.le_refl _ | decide | (dsimp only; decide)) rfl rfl (by (try (conv => cbv)); (repeat' (first | exact trivial | rfl | exact SEq.mk rfl | (exact SEq.mk (by first | assumption | (symm; assumption))) | (simp only [I.val]; done) | (simp only [I.val]; omega) | omega | assumption | (refine And.intro ?_ ?_) | exact Or.inl rfl | exact Or.inr (by assumption) | exact List.Mem.head _ | exact List.Mem.tail _ (List.Mem.head _) | exact ⟨_, rfl⟩ | exact ⟨_, rfl, Or.inl rfl⟩ | (refine ⟨_, rfl, Or.inr ?_⟩; (try (conv => cbv))) | (simp only [I.val] at *; first | omega | (subst_vars; rfl) | simp_all) | (refine Or.inr ?_; (try (conv => cbv)))))) (by (try (conv => cbv)); (repeat' (first | exact trivial | rfl | exact SEq.mk rfl | (exact SEq.mk (by first | assumption | (symm; assumption))) | (simp only [I.val]; done) | (simp only [I.val]; omega) | omega | assumption | (refine And.intro ?_ ?_) | exact Or.inl rfl | exact Or.inr (by assumption) | exact List.Mem.head _ | exact List.Mem.tail _ (List.Mem.head _) | exact ⟨_, rfl⟩ | exact ⟨_, rfl, Or.inl rfl⟩ | (refine ⟨_, rfl, Or.inr ?_⟩; (try (conv => cbv))) | (simp only [I.val] at *; first | omega | (subst_vars; rfl) | simp_all) | (refine Or.inr ?_; (try (conv => cbv))))))) rfl ⟨0, 1, R, ws, L, D, rfl, rfl, rfl, hL, hD, .arg (fun h => hno ⟨h.1, h.2.1⟩)⟩
  | yes _ hc hyes =>
    conv => cbv
    refine Br.mk (fun g => ?_) (fun g => ?_)
    · have g : kind < 1 := g
      have hno : ¬ (0 ≤ m ∧ m ≤ 31 ∧ 1 ≤ kind ∧ kind ≤ 6) := fun h => by omega
      conv => cbv
      refine RetF.mk [.p (.int .i64 (.sym 0)), .p (.int .i64 (.sym 1))] [(0, .mix [.ptr 1 (.lit 0), .sl 3 3 1 (.lit 0) (.sym W)]), (1, .mix [.sl 2 79 2 (.lit 0) (.sym n)]), (2, .pure true L), (3, .pure true D)] 4 (Re.of [(0, 0), (1, 1), (2, 2), (3, 3)] [] (by first | exact Nat.zero_le _ | exact Nat.le_refl _ | decide | (dsimp only; decide)) rfl rfl (by (try (conv => cbv)); (repeat' (first | exact trivial | rfl | exact SEq.mk rfl | (exact SEq.mk (by first | assumption | (symm; assumption))) | (simp only [I.val]; done) | (simp only [I.val]; omega) | omega | assumption | (refine And.intro ?_ ?_) | exact Or.inl rfl | exact Or.inr (by assumption) | exact List.Mem.head _ | exact List.Mem.tail _ (List.Mem.head _) | exact ⟨_, rfl⟩ | exact ⟨_, rfl, Or.inl rfl⟩ | (refine ⟨_, rfl, Or.inr ?_⟩; (try (conv => cbv))) | (simp only [I.val] at *; first | omega | (subst_vars; rfl) | simp_all) | (refine Or.inr ?_; (try (conv => cbv)))))) (by (try (conv => cbv)); (repeat' (first | exact trivial | rfl | exact SEq.mk rfl | (exact SEq.mk (by first | assumption | (symm; assumption))) | (simp only [I.val]; done) | (simp only [I.val]; omega) | omega | assumption | (refine And.intro ?_ ?_) | exact Or.inl rfl | exact Or.inr (by assumption) | exact List.Mem.head _ | exact List.Mem.tail _ (List.Mem.head _) | exact ⟨_, rfl⟩ | exact ⟨_, rfl, Or.inl rfl⟩ | (refine ⟨_, rfl, Or.inr ?_⟩; (try (conv => cbv))) | (simp only [I.val] at *; first | omega | (subst_vars; rfl) | simp_all) | (refine Or.inr ?_; (try (conv => cbv))))))) rfl ⟨0, 1, R, ws, L, D, rfl, rfl, rfl, hL, hD, .arg hno⟩
    have g : ¬ kind < 1 := g
    conv => cbv
    refine Br.mk (fun g2 => ?_) (fun g2 => ?_)
    · have g2 : 6 < kind := g2
      have hno : ¬ (0 ≤ m ∧ m ≤ 31 ∧ 1 ≤ kind ∧ kind ≤ 6) := fun h => by omega
      conv => cbv
      refine RetF.mk [.p (.int .i64 (.sym 0)), .p (.int .i64 (.sym 1))] [(0, .mix [.ptr 1 (.lit 0), .sl 3 3 1 (.lit 0) (.sym W)]), (1, .mix [.sl 2 79 2 (.lit 0) (.sym n)]), (2, .pure true L), (3, .pure true D)] 4 (Re.of [(0, 0), (1, 1), (2, 2), (3, 3)] [] (by first | exact Nat.zero_le _ | exact Nat.le_refl _ | decide | (dsimp only; decide)) rfl rfl (by (try (conv => cbv)); (repeat' (first | exact trivial | rfl | exact SEq.mk rfl | (exact SEq.mk (by first | assumption | (symm; assumption))) | (simp only [I.val]; done) | (simp only [I.val]; omega) | omega | assumption | (refine And.intro ?_ ?_) | exact Or.inl rfl | exact Or.inr (by assumption) | exact List.Mem.head _ | exact List.Mem.tail _ (List.Mem.head _) | exact ⟨_, rfl⟩ | exact ⟨_, rfl, Or.inl rfl⟩ | (refine ⟨_, rfl, Or.inr ?_⟩; (try (conv => cbv))) | (simp only [I.val] at *; first | omega | (subst_vars; rfl) | simp_all) | (refine Or.inr ?_; (try (conv => cbv)))))) (by (try (conv => cbv)); (repeat' (first | exact trivial | rfl | exact SEq.mk rfl | (exact SEq.mk (by first | assumption | (symm; assumption))) | (simp only [I.val]; done) | (simp only [I.val]; omega) | omega | assumption | (refine And.intro ?_ ?_) | exact Or.inl rfl | exact Or.inr (by assumption) | exact List.Mem.head _ | exact List.Mem.tail _ (List.Mem.head _) | exact ⟨_, rfl⟩ | exact ⟨_, rfl, Or.inl rfl⟩ | (refine ⟨_, rfl, Or.inr ?_⟩; (try (conv => cbv))) | (simp only [I.val] at *; first | omega | (subst_vars; rfl) | simp_all) | (refine Or.inr ?_; (try (conv => cbv))))))) rfl ⟨0, 1, R, ws, L, D, rfl, rfl, rfl, hL, hD, .arg hno⟩
    have g2 : ¬ 6 < kind := g2
    have hyk : 0 ≤ m ∧ m ≤ 31 ∧ 1 ≤ kind ∧ kind ≤ 6 := by omega
    conv => cbv
    refine callF_frame (alloc_lx R n c L hL hn hR hm8) [(0, 1), (1, 2)] rfl (by simp [hmapOk, nget, hget, renB, okB, renV, renVs, rn, okVs, okV]) rfl rfl (fun r h' n' hrr => ?_)
    obtain ⟨i, s, b, L2, R2, e1, e2, e3, hL2, hAl⟩ := hrr
    subst e1 e2 e3
    cases b with
    | false =>
      conv => cbv
      rw [hc] at hAl
      refine RetF.mk [.p (.int .i64 (.sym 0)), .p (.int .i64 (.sym 9))] [(0, .mix [.ptr 1 (.lit 0), .sl 3 3 1 (.lit 0) (.sym W)]), (1, .mix [.sl 2 79 2 (.lit 0) (.sym n)]), (2, .pure true L2), (3, .pure true D)] 4 (Re.of [(0, 0), (1, 1), (2, 2), (3, 3)] [] (by first | exact Nat.zero_le _ | exact Nat.le_refl _ | decide | (dsimp only; decide)) rfl rfl (by (try (conv => cbv)); (repeat' (first | exact trivial | rfl | exact SEq.mk rfl | (exact SEq.mk (by first | assumption | (symm; assumption))) | (simp only [I.val]; done) | (simp only [I.val]; omega) | omega | assumption | (refine And.intro ?_ ?_) | exact Or.inl rfl | exact Or.inr (by assumption) | exact List.Mem.head _ | exact List.Mem.tail _ (List.Mem.head _) | exact ⟨_, rfl⟩ | exact ⟨_, rfl, Or.inl rfl⟩ | (refine ⟨_, rfl, Or.inr ?_⟩; (try (conv => cbv))) | (simp only [I.val] at *; first | omega | (subst_vars; rfl) | simp_all) | (refine Or.inr ?_; (try (conv => cbv)))))) (by (try (conv => cbv)); (repeat' (first | exact trivial | rfl | exact SEq.mk rfl | (exact SEq.mk (by first | assumption | (symm; assumption))) | (simp only [I.val]; done) | (simp only [I.val]; omega) | omega | assumption | (refine And.intro ?_ ?_) | exact Or.inl rfl | exact Or.inr (by assumption) | exact List.Mem.head _ | exact List.Mem.tail _ (List.Mem.head _) | exact ⟨_, rfl⟩ | exact ⟨_, rfl, Or.inl rfl⟩ | (refine ⟨_, rfl, Or.inr ?_⟩; (try (conv => cbv))) | (simp only [I.val] at *; first | omega | (subst_vars; rfl) | simp_all) | (refine Or.inr ?_; (try (conv => cbv))))))) rfl ⟨0, 9, R2, ws, L2, D, rfl, rfl, rfl, hL2, hD, .room i s R2 hyk hAl⟩
    | true =>
      conv => cbv
      obtain ⟨hi0, hi1, hs0, hs1⟩ := alloced_in hA.rows hAl
      obtain ⟨w, hw⟩ : ∃ w, w = wordsOf c := ⟨_, rfl⟩
      have hmw : m < w ∧ w ≠ 0 := by rw [hw, hc]; exact ofN_words hyes
      have hsw : (s.toNat : Int) * w + w ≤ 32 := by rw [hw]; exact slots_words (by rw [← hw]; exact hmw.2) (by omega)
      rw [show (s.toNat : Int) = s by omega] at hsw
      obtain ⟨sw, hsw2⟩ : ∃ sw, sw = s * w := ⟨_, rfl⟩
      have hsw0 : 0 ≤ sw := by rw [hsw2]; exact Int.mul_nonneg hs0 (by rw [hw]; exact (wordsOf_bd _).1)
      rw [← hsw2] at hsw
      refine Fit.mk (by show (-9223372036854775808 : Int) ≤ i * 32; omega) (by show i * 32 ≤ 9223372036854775807; omega) fun i32 hi32 => ?_
      have hi32 : i32 = i * 32 := hi32
      conv => cbv
      refine callF_frame (words_lx c w hw) [] rfl trivial rfl rfl (fun r h' n' ⟨e1, e2, e3⟩ => ?_)
      subst e1 e2 e3
      conv => cbv
      refine Fit.mk (by show (-9223372036854775808 : Int) ≤ s * w; rw [← hsw2]; omega) (by show s * w ≤ 9223372036854775807; rw [← hsw2]; omega) fun sw' hsw' => ?_
      have hsw' : sw' = sw := by rw [hsw2]; exact hsw'
      conv => cbv
      refine Fit.mk (by show (-9223372036854775808 : Int) ≤ i32 + sw'; omega) (by show i32 + sw' ≤ 9223372036854775807; omega) fun at_ hat => ?_
      have hat : at_ = i32 + sw' := hat
      have hat2 : at_ = 32 * i + sw := by omega
      conv => cbv
      obtain ⟨hv, hhv⟩ : ∃ hv, hv = kind + 16 * m := ⟨_, rfl⟩
      obtain ⟨ws2, hws2⟩ : ∃ ws2, ws2 = ws.set at_.toNat hv := ⟨_, rfl⟩
      have hws2l : ws2.length = ws.length := by rw [hws2, List.length_set]
      refine drawn_sound tok (by kernel_rfl) [(8, [4, 3, 2, 1, 0]), (10, [])] [0, 1, 2, 3, 4, 5, 6, 7, 8, 9, 10] (by kernel_rfl) ?_; conv => cbv
      refine callF_frame (header_lx kind m (by omega) (by omega) hv hhv) [] rfl trivial rfl rfl (fun r h' n' ⟨e1, e2, e3⟩ => ?_)
      subst e1 e2 e3
      conv => cbv
      refine Need.mk ⟨by show 0 ≤ at_; omega, by show at_ < W; omega⟩ ?_
      conv => cbv
      refine Need.mk (by show at_ + ((1 : Nat) : Int) ≤ (D.length : Int); omega) ?_
      conv => cbv
      refine Upd.mk fun D2 hD2 => ?_
      have hD2 : D2 = updL D at_.toNat [.int .i64 (.sym hv)] := hD2
      have hD2 : D2 = ipv ws2 := by rw [hD2, hD, updL_ipv, hws2]
      have hD2l : D2.length = ws.length := by rw [hD2, ipv_length, hws2l]
      conv => cbv
      refine Fit.mk (by show (-9223372036854775808 : Int) ≤ at_ + 1; omega) (by show at_ + 1 ≤ 9223372036854775807; omega) fun a1 ha1 => ?_
      have ha1 : a1 = at_ + 1 := ha1
      conv => cbv
      refine Fit.mk (by show (-9223372036854775808 : Int) ≤ at_ + 1; omega) (by show at_ + 1 ≤ 9223372036854775807; omega) fun a2 ha2 => ?_
      have ha2 : a2 = at_ + 1 := ha2
      conv => cbv
      refine Fit.mk (by show (-9223372036854775808 : Int) ≤ a2 + m; omega) (by show a2 + m ≤ 9223372036854775807; omega) fun a3 ha3 => ?_
      have ha3 : a3 = a2 + m := ha3
      conv => cbv
      by_cases hm0 : m = 0
      · have hz : ipv ws2 = ipv (zer (ws.set at_.toNat (kind + 16 * m)) (at_.toNat + 1) m.toNat) := by rw [hws2, hhv, hm0]; rfl
        refine Room.within ⟨by show 0 ≤ a1; omega, by show a1 = a3; omega, by show a3 ≤ W; omega⟩ ?_
        conv => cbv
        refine Need.mk rfl ?_
        conv => cbv
        have hres := Alloct.ok (ws := ws) i s at_ R2 hyk (hc ▸ hAl) (hc ▸ ⟨hi0, hi1, hs0, hs1⟩) (by rw [hat2, hsw2, hw, hc])
        refine RetF.mk [.p (.int .i64 (.sym at_)), .p (.int .i64 (.sym 0))] [(0, .mix [.ptr 1 (.lit 0), .sl 3 3 1 (.lit 0) (.sym W)]), (1, .mix [.sl 2 79 2 (.lit 0) (.sym n)]), (2, .pure true L2), (3, .pure true D2)] 4 (Re.of [(0, 0), (1, 1), (2, 2), (3, 3)] [] (by first | exact Nat.zero_le _ | exact Nat.le_refl _ | decide | (dsimp only; decide)) rfl rfl (by (try (conv => cbv)); (repeat' (first | exact trivial | rfl | exact SEq.mk rfl | (exact SEq.mk (by first | assumption | (symm; assumption))) | (simp only [I.val]; done) | (simp only [I.val]; omega) | omega | assumption | (refine And.intro ?_ ?_) | exact Or.inl rfl | exact Or.inr (by assumption) | exact List.Mem.head _ | exact List.Mem.tail _ (List.Mem.head _) | exact ⟨_, rfl⟩ | exact ⟨_, rfl, Or.inl rfl⟩ | (refine ⟨_, rfl, Or.inr ?_⟩; (try (conv => cbv))) | (simp only [I.val] at *; first | omega | (subst_vars; rfl) | simp_all) | (refine Or.inr ?_; (try (conv => cbv)))))) (by (try (conv => cbv)); (repeat' (first | exact trivial | rfl | exact SEq.mk rfl | (exact SEq.mk (by first | assumption | (symm; assumption))) | (simp only [I.val]; done) | (simp only [I.val]; omega) | omega | assumption | (refine And.intro ?_ ?_) | exact Or.inl rfl | exact Or.inr (by assumption) | exact List.Mem.head _ | exact List.Mem.tail _ (List.Mem.head _) | exact ⟨_, rfl⟩ | exact ⟨_, rfl, Or.inl rfl⟩ | (refine ⟨_, rfl, Or.inr ?_⟩; (try (conv => cbv))) | (simp only [I.val] at *; first | omega | (subst_vars; rfl) | simp_all) | (refine Or.inr ?_; (try (conv => cbv))))))) rfl ⟨at_, 0, R2, _, L2, D2, rfl, rfl, rfl, hL2, hD2.trans hz, hres⟩
      · refine Room.new ⟨by show 0 ≤ a1; omega, by show a1 < a3; omega, by show a3 ≤ W; omega⟩ ?_
        conv => cbv
        refine Sum.mk fun z hz => ?_
        have hz : z = a3 - a1 := hz
        obtain ⟨ws3, hws3⟩ : ∃ ws3, ws3 = zer ws2 (at_.toNat + 1) m.toNat := ⟨_, rfl⟩
        obtain ⟨D9, hD9⟩ : ∃ D9, D9 = ipv ws3 := ⟨_, rfl⟩
        conv => cbv
        refine Need.mk ⟨by show 0 ≤ a1; omega, by show 0 ≤ z; omega, by show a1 + z * ((1 : Nat) : Int) ≤ (D2.length : Int); omega⟩ ?_
        conv => cbv
        refine Upd.mk fun D3 hD3 => ?_
        have hle : pvles D3 D9 := by
          have hD3 : D3 = updL D2 a1.toNat (repsP [.int .i64 (.lit 0)] z.toNat) := hD3
          rw [hD3, hD9, hws3, show a1.toNat = at_.toNat + 1 by omega, show z.toNat = m.toNat by omega, hD2]
          exact upd_zer _ _ _ _ (pvles_self _)
        clear hD3
        unfold pvles at hle
        have hz9 : D9 = ipv (zer (ws.set at_.toNat (kind + 16 * m)) (at_.toNat + 1) m.toNat) := by rw [hD9, hws3, hws2, hhv]
        have hres := Alloct.ok (ws := ws) i s at_ R2 hyk (hc ▸ hAl) (hc ▸ ⟨hi0, hi1, hs0, hs1⟩) (by rw [hat2, hsw2, hw, hc])
        conv => cbv
        refine RetF.mk [.p (.int .i64 (.sym at_)), .p (.int .i64 (.sym 0))] [(0, .mix [.ptr 1 (.lit 0), .sl 3 3 1 (.lit 0) (.sym W)]), (1, .mix [.sl 2 79 2 (.lit 0) (.sym n)]), (2, .pure true L2), (3, .pure true D9)] 4 (Re.of [(0, 0), (1, 1), (2, 2), (3, 3)] [] (by first | exact Nat.zero_le _ | exact Nat.le_refl _ | decide | (dsimp only; decide)) rfl rfl (by (try (conv => cbv)); (repeat' (first | exact trivial | rfl | exact SEq.mk rfl | (exact SEq.mk (by first | assumption | (symm; assumption))) | (simp only [I.val]; done) | (simp only [I.val]; omega) | omega | assumption | (refine And.intro ?_ ?_) | exact Or.inl rfl | exact Or.inr (by assumption) | exact List.Mem.head _ | exact List.Mem.tail _ (List.Mem.head _) | exact ⟨_, rfl⟩ | exact ⟨_, rfl, Or.inl rfl⟩ | (refine ⟨_, rfl, Or.inr ?_⟩; (try (conv => cbv))) | (simp only [I.val] at *; first | omega | (subst_vars; rfl) | simp_all) | (refine Or.inr ?_; (try (conv => cbv)))))) (by (try (conv => cbv)); (repeat' (first | exact trivial | rfl | exact SEq.mk rfl | (exact SEq.mk (by first | assumption | (symm; assumption))) | (simp only [I.val]; done) | (simp only [I.val]; omega) | omega | assumption | (refine And.intro ?_ ?_) | exact Or.inl rfl | exact Or.inr (by assumption) | exact List.Mem.head _ | exact List.Mem.tail _ (List.Mem.head _) | exact ⟨_, rfl⟩ | exact ⟨_, rfl, Or.inl rfl⟩ | (refine ⟨_, rfl, Or.inr ?_⟩; (try (conv => cbv))) | (simp only [I.val] at *; first | omega | (subst_vars; rfl) | simp_all) | (refine Or.inr ?_; (try (conv => cbv))))))) rfl ⟨at_, 0, R2, _, L2, D9, rfl, rfl, rfl, hL2, hz9, hres⟩
/-- What becomes of an arena to which a place is given back. -/
inductive Freet (R : List Rw) (at_ : Int) : Int → List Rw → Prop
  | none (h : ¬ IsObj R at_) : Freet R at_ 8 R
  | ok (q s : Nat) (e : Rw) (he : R[q]? = some e) (hs : e.2[s]? = some true) (hat : at_ = 32 * q + s * wordsOf e.1) : Freet R at_ 0 (freed R q e.1 (e.2.set s false))
set_option maxHeartbeats 2000000 in
theorem freeA_lx (at_ : Int) (R : List Rw) (ws : List Int) (n W : Int) (L D : List PV) (hL : L = rpv R) (hD : D = ipv ws) (hn : n = R.length) (hR : R.length ≤ 1000) (hA : AOk R ws) (hW : W = 32 * n) : CallF (fun _ => Try.prog) 11 [.ptr 0 (.lit 0), .p (.int .i64 (.sym at_))] [(0, .mix [.ptr 1 (.lit 0), .sl 3 3 1 (.lit 0) (.sym W)]), (1, .mix [.sl 2 79 2 (.lit 0) (.sym n)]), (2, .pure true L), (3, .pure true D)] 4
    (fun r h n' => ∃ (e : Int) (R' : List Rw) (L' : List PV), r = .p (.int .i64 (.sym e)) ∧ h = [(0, .mix [.ptr 1 (.lit 0), .sl 3 3 1 (.lit 0) (.sym W)]), (1, .mix [.sl 2 79 2 (.lit 0) (.sym n)]), (2, .pure true L'), (3, .pure true D)] ∧ n' = 4 ∧ L' = rpv R' ∧ Freet R at_ e R') := by
  refine callF_of_body tok Try.func11 (by kernel_rfl) rfl rfl rfl ?_; conv => cbv
  refine callF_frame (slotB_lx R n at_ W L D hL hn hR hA.rows hW) [(0, 0), (1, 1), (2, 2), (3, 3)] rfl (by simp [hmapOk, nget, hget, renB, okB, renV, renVs, rn, okVs, okV]) rfl rfl (fun r h' n' hrr => ?_)
  obtain ⟨q, s, b, e1, e2, e3, hS⟩ := hrr
  subst e1 e2 e3
  cases hS with
  | no hno =>
    conv => cbv
    refine RetF.mk [.p (.int .i64 (.sym 8))] [(0, .mix [.ptr 1 (.lit 0), .sl 3 3 1 (.lit 0) (.sym W)]), (1, .mix [.sl 2 79 2 (.lit 0) (.sym n)]), (2, .pure true L), (3, .pure true D)] 4 (Re.of [(0, 0), (1, 1), (2, 2), (3, 3)] [] (by first | exact Nat.zero_le _ | exact Nat.le_refl _ | decide | (dsimp only; decide)) rfl rfl (by (try (conv => cbv)); (repeat' (first | exact trivial | rfl | exact SEq.mk rfl | (exact SEq.mk (by first | assumption | (symm; assumption))) | (simp only [I.val]; done) | (simp only [I.val]; omega) | omega | assumption | (refine And.intro ?_ ?_) | exact Or.inl rfl | exact Or.inr (by assumption) | exact List.Mem.head _ | exact List.Mem.tail _ (List.Mem.head _) | exact ⟨_, rfl⟩ | exact ⟨_, rfl, Or.inl rfl⟩ | (refine ⟨_, rfl, Or.inr ?_⟩; (try (conv => cbv))) | (simp only [I.val] at *; first | omega | (subst_vars; rfl) | simp_all) | (refine Or.inr ?_; (try (conv => cbv)))))) (by (try (conv => cbv)); (repeat' (first | exact trivial | rfl | exact SEq.mk rfl | (exact SEq.mk (by first | assumption | (symm; assumption))) | (simp only [I.val]; done) | (simp only [I.val]; omega) | omega | assumption | (refine And.intro ?_ ?_) | exact Or.inl rfl | exact Or.inr (by assumption) | exact List.Mem.head _ | exact List.Mem.tail _ (List.Mem.head _) | exact ⟨_, rfl⟩ | exact ⟨_, rfl, Or.inl rfl⟩ | (refine ⟨_, rfl, Or.inr ?_⟩; (try (conv => cbv))) | (simp only [I.val] at *; first | omega | (subst_vars; rfl) | simp_all) | (refine Or.inr ?_; (try (conv => cbv))))))) rfl ⟨8, R, L, rfl, rfl, rfl, hL, .none hno⟩
  | off e hq0 hs0 he hu hno =>
    conv => cbv
    refine callF_frame (free_no_lx R n q s e.1 e.2 L hL hn hq0 he (hA.rows e (List.mem_of_getElem? he)).1 (fun _ => hu)) [(0, 1), (1, 2)] rfl (by simp [hmapOk, nget, hget, renB, okB, renV, renVs, rn, okVs, okV]) rfl rfl (fun r h' n' ⟨e1, e2, e3⟩ => ?_)
    subst e1 e2 e3
    conv => cbv
    refine RetF.mk [.p (.int .i64 (.sym 8))] [(0, .mix [.ptr 1 (.lit 0), .sl 3 3 1 (.lit 0) (.sym W)]), (1, .mix [.sl 2 79 2 (.lit 0) (.sym n)]), (2, .pure true L), (3, .pure true D)] 4 (Re.of [(0, 0), (1, 1), (2, 2), (3, 3)] [] (by first | exact Nat.zero_le _ | exact Nat.le_refl _ | decide | (dsimp only; decide)) rfl rfl (by (try (conv => cbv)); (repeat' (first | exact trivial | rfl | exact SEq.mk rfl | (exact SEq.mk (by first | assumption | (symm; assumption))) | (simp only [I.val]; done) | (simp only [I.val]; omega) | omega | assumption | (refine And.intro ?_ ?_) | exact Or.inl rfl | exact Or.inr (by assumption) | exact List.Mem.head _ | exact List.Mem.tail _ (List.Mem.head _) | exact ⟨_, rfl⟩ | exact ⟨_, rfl, Or.inl rfl⟩ | (refine ⟨_, rfl, Or.inr ?_⟩; (try (conv => cbv))) | (simp only [I.val] at *; first | omega | (subst_vars; rfl) | simp_all) | (refine Or.inr ?_; (try (conv => cbv)))))) (by (try (conv => cbv)); (repeat' (first | exact trivial | rfl | exact SEq.mk rfl | (exact SEq.mk (by first | assumption | (symm; assumption))) | (simp only [I.val]; done) | (simp only [I.val]; omega) | omega | assumption | (refine And.intro ?_ ?_) | exact Or.inl rfl | exact Or.inr (by assumption) | exact List.Mem.head _ | exact List.Mem.tail _ (List.Mem.head _) | exact ⟨_, rfl⟩ | exact ⟨_, rfl, Or.inl rfl⟩ | (refine ⟨_, rfl, Or.inr ?_⟩; (try (conv => cbv))) | (simp only [I.val] at *; first | omega | (subst_vars; rfl) | simp_all) | (refine Or.inr ?_; (try (conv => cbv))))))) rfl ⟨8, R, L, rfl, rfl, rfl, hL, .none hno⟩
  | on e hq0 hs0 he hu hobj ha0 ha1 hat =>
    conv => cbv
    obtain ⟨R', hR'⟩ : ∃ R', R' = freed R q.toNat e.1 (e.2.set s.toNat false) := ⟨_, rfl⟩
    have hF : Freet R at_ 0 R' := by
      rw [hR']
      exact .ok q.toNat s.toNat e he hu (by rw [hat, show (s.toNat : Int) = s by omega, show (q.toNat : Int) = q by omega])
    refine callF_frame (free_lx R R' n q s e.1 e.2 L hL hn hR hq0 he (hA.rows e (List.mem_of_getElem? he)).1 hs0 hu hR') [(0, 1), (1, 2)] rfl (by simp [hmapOk, nget, hget, renB, okB, renV, renVs, rn, okVs, okV]) rfl rfl (fun r h' n' hrr => ?_)
    obtain ⟨L', e1, e2, e3, hL'⟩ := hrr
    subst e1 e2 e3
    conv => cbv
    refine RetF.mk [.p (.int .i64 (.sym 0))] [(0, .mix [.ptr 1 (.lit 0), .sl 3 3 1 (.lit 0) (.sym W)]), (1, .mix [.sl 2 79 2 (.lit 0) (.sym n)]), (2, .pure true L'), (3, .pure true D)] 4 (Re.of [(0, 0), (1, 1), (2, 2), (3, 3)] [] (by first | exact Nat.zero_le _ | exact Nat.le_refl _ | decide | (dsimp only; decide)) rfl rfl (by (try (conv => cbv)); (repeat' (first | exact trivial | rfl | exact SEq.mk rfl | (exact SEq.mk (by first | assumption | (symm; assumption))) | (simp only [I.val]; done) | (simp only [I.val]; omega) | omega | assumption | (refine And.intro ?_ ?_) | exact Or.inl rfl | exact Or.inr (by assumption) | exact List.Mem.head _ | exact List.Mem.tail _ (List.Mem.head _) | exact ⟨_, rfl⟩ | exact ⟨_, rfl, Or.inl rfl⟩ | (refine ⟨_, rfl, Or.inr ?_⟩; (try (conv => cbv))) | (simp only [I.val] at *; first | omega | (subst_vars; rfl) | simp_all) | (refine Or.inr ?_; (try (conv => cbv)))))) (by (try (conv => cbv)); (repeat' (first | exact trivial | rfl | exact SEq.mk rfl | (exact SEq.mk (by first | assumption | (symm; assumption))) | (simp only [I.val]; done) | (simp only [I.val]; omega) | omega | assumption | (refine And.intro ?_ ?_) | exact Or.inl rfl | exact Or.inr (by assumption) | exact List.Mem.head _ | exact List.Mem.tail _ (List.Mem.head _) | exact ⟨_, rfl⟩ | exact ⟨_, rfl, Or.inl rfl⟩ | (refine ⟨_, rfl, Or.inr ?_⟩; (try (conv => cbv))) | (simp only [I.val] at *; first | omega | (subst_vars; rfl) | simp_all) | (refine Or.inr ?_; (try (conv => cbv))))))) rfl ⟨0, R', L', rfl, rfl, rfl, hL', hF⟩
theorem usedA_lx (R : List Rw) (ws : List Int) (n W : Int) (L D : List PV) (hL : L = rpv R) (hD : D = ipv ws) (hn : n = R.length) (hR : R.length ≤ 1000) (hA : AOk R ws) (hW : W = 32 * n) (v : Int) (hv : v = (R.map fun e => (e.2.count true : Int) * wordsOf e.1).sum) : CallF (fun _ => Try.prog) 19 [.ptr 0 (.lit 0)] [(0, .mix [.ptr 1 (.lit 0), .sl 3 3 1 (.lit 0) (.sym W)]), (1, .mix [.sl 2 79 2 (.lit 0) (.sym n)]), (2, .pure true L), (3, .pure true D)] 4
    (fun r h n' => r = .p (.int .i64 (.sym v)) ∧ h = [(0, .mix [.ptr 1 (.lit 0), .sl 3 3 1 (.lit 0) (.sym W)]), (1, .mix [.sl 2 79 2 (.lit 0) (.sym n)]), (2, .pure true L), (3, .pure true D)] ∧ n' = 4) := by
  have hm8 : ∀ e ∈ R, e.2.length ≤ 8 := fun e he => (hA.rows e he).1
  refine callF_of_body tok Try.func19 (by kernel_rfl) rfl rfl rfl ?_; conv => cbv
  refine callF_frame (wordsS_lx R n L hL hn hR hm8 v hv) [(0, 1), (1, 2)] rfl (by simp [hmapOk, nget, hget, renB, okB, renV, renVs, rn, okVs, okV]) rfl rfl (fun r h' n' ⟨e1, e2, e3⟩ => ?_)
  subst e1 e2 e3
  conv => cbv
  refine RetF.mk [.p (.int .i64 (.sym v))] [(0, .mix [.ptr 1 (.lit 0), .sl 3 3 1 (.lit 0) (.sym W)]), (1, .mix [.sl 2 79 2 (.lit 0) (.sym n)]), (2, .pure true L), (3, .pure true D)] 4 (Re.of [(0, 0), (1, 1), (2, 2), (3, 3)] [] (by first | exact Nat.zero_le _ | exact Nat.le_refl _ | decide | (dsimp only; decide)) rfl rfl (by (try (conv => cbv)); (repeat' (first | exact trivial | rfl | exact SEq.mk rfl | (exact SEq.mk (by first | assumption | (symm; assumption))) | (simp only [I.val]; done) | (simp only [I.val]; omega) | omega | assumption | (refine And.intro ?_ ?_) | exact Or.inl rfl | exact Or.inr (by assumption) | exact List.Mem.head _ | exact List.Mem.tail _ (List.Mem.head _) | exact ⟨_, rfl⟩ | exact ⟨_, rfl, Or.inl rfl⟩ | (refine ⟨_, rfl, Or.inr ?_⟩; (try (conv => cbv))) | (simp only [I.val] at *; first | omega | (subst_vars; rfl) | simp_all) | (refine Or.inr ?_; (try (conv => cbv)))))) (by (try (conv => cbv)); (repeat' (first | exact trivial | rfl | exact SEq.mk rfl | (exact SEq.mk (by first | assumption | (symm; assumption))) | (simp only [I.val]; done) | (simp only [I.val]; omega) | omega | assumption | (refine And.intro ?_ ?_) | exact Or.inl rfl | exact Or.inr (by assumption) | exact List.Mem.head _ | exact List.Mem.tail _ (List.Mem.head _) | exact ⟨_, rfl⟩ | exact ⟨_, rfl, Or.inl rfl⟩ | (refine ⟨_, rfl, Or.inr ?_⟩; (try (conv => cbv))) | (simp only [I.val] at *; first | omega | (subst_vars; rfl) | simp_all) | (refine Or.inr ?_; (try (conv => cbv))))))) rfl ⟨rfl, rfl, rfl⟩
theorem wordsA_lx (R : List Rw) (ws : List Int) (n W : Int) (L D : List PV) (hL : L = rpv R) (hD : D = ipv ws) (hn : n = R.length) (hR : R.length ≤ 1000) (hA : AOk R ws) (hW : W = 32 * n) : CallF (fun _ => Try.prog) 21 [.ptr 0 (.lit 0)] [(0, .mix [.ptr 1 (.lit 0), .sl 3 3 1 (.lit 0) (.sym W)]), (1, .mix [.sl 2 79 2 (.lit 0) (.sym n)]), (2, .pure true L), (3, .pure true D)] 4
    (fun r h n' => r = .p (.int .i64 (.sym W)) ∧ h = [(0, .mix [.ptr 1 (.lit 0), .sl 3 3 1 (.lit 0) (.sym W)]), (1, .mix [.sl 2 79 2 (.lit 0) (.sym n)]), (2, .pure true L), (3, .pure true D)] ∧ n' = 4) := by
  refine callF_of_body tok Try.func21 (by kernel_rfl) rfl rfl rfl ?_; conv => cbv
  refine callF_frame (lenS_lx n L) [(0, 1), (1, 2)] rfl (by simp [hmapOk, nget, hget, renB, okB, renV, renVs, rn, okVs, okV]) rfl rfl (fun r h' n' ⟨e1, e2, e3⟩ => ?_)
  subst e1 e2 e3
  conv => cbv
  refine Fit.mk (by show (-9223372036854775808 : Int) ≤ n * 32; omega) (by show n * 32 ≤ 9223372036854775807; omega) fun v hv => ?_
  have hv : v = n * 32 := hv
  have hvW : v = W := by omega
  conv => cbv
  refine RetF.mk [.p (.int .i64 (.sym W))] [(0, .mix [.ptr 1 (.lit 0), .sl 3 3 1 (.lit 0) (.sym W)]), (1, .mix [.sl 2 79 2 (.lit 0) (.sym n)]), (2, .pure true L), (3, .pure true D)] 4 (Re.of [(0, 0), (1, 1), (2, 2), (3, 3)] [] (by first | exact Nat.zero_le _ | exact Nat.le_refl _ | decide | (dsimp only; decide)) rfl rfl (by (try (conv => cbv)); (repeat' (first | exact trivial | rfl | exact SEq.mk rfl | (exact SEq.mk (by first | assumption | (symm; assumption))) | (simp only [I.val]; done) | (simp only [I.val]; omega) | omega | assumption | (refine And.intro ?_ ?_) | exact Or.inl rfl | exact Or.inr (by assumption) | exact List.Mem.head _ | exact List.Mem.tail _ (List.Mem.head _) | exact ⟨_, rfl⟩ | exact ⟨_, rfl, Or.inl rfl⟩ | (refine ⟨_, rfl, Or.inr ?_⟩; (try (conv => cbv))) | (simp only [I.val] at *; first | omega | (subst_vars; rfl) | simp_all) | (refine Or.inr ?_; (try (conv => cbv)))))) (by (try (conv => cbv)); (repeat' (first | exact trivial | rfl | exact SEq.mk rfl | (exact SEq.mk (by first | assumption | (symm; assumption))) | (simp only [I.val]; done) | (simp only [I.val]; omega) | omega | assumption | (refine And.intro ?_ ?_) | exact Or.inl rfl | exact Or.inr (by assumption) | exact List.Mem.head _ | exact List.Mem.tail _ (List.Mem.head _) | exact ⟨_, rfl⟩ | exact ⟨_, rfl, Or.inl rfl⟩ | (refine ⟨_, rfl, Or.inr ?_⟩; (try (conv => cbv))) | (simp only [I.val] at *; first | omega | (subst_vars; rfl) | simp_all) | (refine Or.inr ?_; (try (conv => cbv))))))) rfl ⟨rfl, rfl, rfl⟩
theorem newA_bad (n : Int) (hn : n < 2 ∨ 128 < n) : CallF (fun _ => Try.prog) 7 [.p (.int .i64 (.sym n))] [] 0 (fun r h m => (∃ e : Int, r = .tup [.p .nilp, .p (.int .i64 (.sym e))] ∧ e ≠ 0) ∧ h = [] ∧ m = 0) := by
  refine callF_of_body tok Try.func7 (by kernel_rfl) rfl rfl rfl ?_; conv => cbv
  refine callF_frame (spanNew_bad n hn) [] rfl trivial rfl rfl (fun r h' n' hrr => ?_)
  obtain ⟨⟨e, e1, he⟩, e2, e3⟩ := hrr
  subst e1 e2 e3
  conv => cbv
  refine Br.mk (fun g => ?_) (fun g => ?_)
  case refine_2 =>
    have gf : False := g he
    cases gf
  conv => cbv
  refine RetF.mk [.p .nilp, .p (.int .i64 (.sym e))] [] 0 (Re.of [] [] (by first | exact Nat.zero_le _ | exact Nat.le_refl _ | decide | (dsimp only; decide)) rfl rfl (by (try (conv => cbv)); (repeat' (first | exact trivial | rfl | exact SEq.mk rfl | (exact SEq.mk (by first | assumption | (symm; assumption))) | (simp only [I.val]; done) | (simp only [I.val]; omega) | omega | assumption | (refine And.intro ?_ ?_) | exact Or.inl rfl | exact Or.inr (by assumption) | exact List.Mem.head _ | exact List.Mem.tail _ (List.Mem.head _) | exact ⟨_, rfl⟩ | exact ⟨_, rfl, Or.inl rfl⟩ | (refine ⟨_, rfl, Or.inr ?_⟩; (try (conv => cbv))) | (simp only [I.val] at *; first | omega | (subst_vars; rfl) | simp_all) | (refine Or.inr ?_; (try (conv => cbv)))))) (by (try (conv => cbv)); (repeat' (first | exact trivial | rfl | exact SEq.mk rfl | (exact SEq.mk (by first | assumption | (symm; assumption))) | (simp only [I.val]; done) | (simp only [I.val]; omega) | omega | assumption | (refine And.intro ?_ ?_) | exact Or.inl rfl | exact Or.inr (by assumption) | exact List.Mem.head _ | exact List.Mem.tail _ (List.Mem.head _) | exact ⟨_, rfl⟩ | exact ⟨_, rfl, Or.inl rfl⟩ | (refine ⟨_, rfl, Or.inr ?_⟩; (try (conv => cbv))) | (simp only [I.val] at *; first | omega | (subst_vars; rfl) | simp_all) | (refine Or.inr ?_; (try (conv => cbv))))))) rfl ⟨⟨e, rfl, he⟩, rfl, rfl⟩
theorem zero_ipv : ∀ k, pvles (repsP [.int .i64 (.lit 0)] k) (ipv (List.replicate k 0))
  | 0 => trivial
  | k + 1 => by
    rw [repsP, List.replicate_succ, ipv, List.map_cons]
    exact ⟨by simp [pvle, I.val], zero_ipv k⟩
theorem newA_lx (n W : Int) (h2 : 2 ≤ n) (h8 : n ≤ 128) (hW : W = 32 * n) (L D : List PV) (hL : L = rpv (List.replicate n.toNat (0, []))) (hD : D = ipv (List.replicate W.toNat 0)) : CallF (fun _ => Try.prog) 7 [.p (.int .i64 (.sym n))] [] 0
    (fun r h m => r = .tup [.ptr 0 (.lit 0), .p (.int .i64 (.lit 0))] ∧ h = [(0, .mix [.ptr 1 (.lit 0), .sl 3 3 1 (.lit 0) (.sym W)]), (1, .mix [.sl 2 79 2 (.lit 0) (.sym n)]), (2, .pure true L), (3, .pure true D)] ∧ m = 4) := by
  refine callF_of_body tok Try.func7 (by kernel_rfl) rfl rfl rfl ?_; conv => cbv
  refine callF_frame (spanNew_lx n h2 h8 L hL) [] rfl trivial rfl rfl (fun r h' n' ⟨e1, e2, e3⟩ => ?_)
  subst e1 e2 e3
  conv => cbv
  refine Fit.mk (by show (-9223372036854775808 : Int) ≤ n * 32; omega) (by show n * 32 ≤ 9223372036854775807; omega) fun v hv => ?_
  have hv : v = n * 32 := hv
  have hvW : v = W := by omega
  conv => cbv
  refine Need.mk ⟨by show 0 ≤ v; omega, Int.le_refl _, by show v * 8 ≤ 140737488355328; omega, by show v ≤ 9223372036854775807; omega⟩ ?_
  conv => cbv
  refine Upd.mk fun D0 hD0 => ?_
  have hle : pvles D0 D := by
    have hD0 : D0 = repsP [.int .i64 (.lit 0)] v.toNat := hD0
    rw [hD0, hD, hvW]; exact zero_ipv _
  clear hD0 hD
  unfold pvles at hle
  conv => cbv
  refine RetF.mk [.ptr 0 (.lit 0), .p (.int .i64 (.lit 0))] [(0, .mix [.ptr 1 (.lit 0), .sl 3 3 1 (.lit 0) (.sym W)]), (1, .mix [.sl 2 79 2 (.lit 0) (.sym n)]), (2, .pure true L), (3, .pure true D)] 4 (Re.of [(3, 0), (0, 1), (1, 2), (2, 3)] [] (by first | exact Nat.zero_le _ | exact Nat.le_refl _ | decide | (dsimp only; decide)) rfl rfl (by (try (conv => cbv)); (repeat' (first | exact trivial | rfl | exact SEq.mk rfl | (exact SEq.mk (by first | assumption | (symm; assumption))) | (simp only [I.val]; done) | (simp only [I.val]; omega) | omega | assumption | (refine And.intro ?_ ?_) | exact Or.inl rfl | exact Or.inr (by assumption) | exact List.Mem.head _ | exact List.Mem.tail _ (List.Mem.head _) | exact ⟨_, rfl⟩ | exact ⟨_, rfl, Or.inl rfl⟩ | (refine ⟨_, rfl, Or.inr ?_⟩; (try (conv => cbv))) | (simp only [I.val] at *; first | omega | (subst_vars; rfl) | simp_all) | (refine Or.inr ?_; (try (conv => cbv)))))) (by (try (conv => cbv)); (repeat' (first | exact trivial | rfl | exact SEq.mk rfl | (exact SEq.mk (by first | assumption | (symm; assumption))) | (simp only [I.val]; done) | (simp only [I.val]; omega) | omega | assumption | (refine And.intro ?_ ?_) | exact Or.inl rfl | exact Or.inr (by assumption) | exact List.Mem.head _ | exact List.Mem.tail _ (List.Mem.head _) | exact ⟨_, rfl⟩ | exact ⟨_, rfl, Or.inl rfl⟩ | (refine ⟨_, rfl, Or.inr ?_⟩; (try (conv => cbv))) | (simp only [I.val] at *; first | omega | (subst_vars; rfl) | simp_all) | (refine Or.inr ?_; (try (conv => cbv))))))) rfl ⟨rfl, rfl, rfl⟩
end Go.Proofs.Ytlakoemonbadiaa
