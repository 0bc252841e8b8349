/-
  Layer 7: the reference's arena: what is allotted.
-/
import Derived.Test.YtlakoemonbadiaaAr
import Derived.Test.YtlakoemonbadiaaAs
import Derived.Test.YtlakoemonbadiaaAt
namespace Go.Proofs.Ytlakoemonbadiaa
open Go Go.LX
set_option maxRecDepth 100000
set_option linter.unusedVariables false
set_option linter.unusedSimpArgs false

theorem zer_snoc : ∀ (n : Nat) (ws : List Int) (j : Nat), zer ws j (n + 1) = (zer ws j n).set (j + n) 0
  | 0, ws, j => rfl
  | n + 1, ws, j => by
    rw [zer, zer_snoc n, zer, show j + 1 + n = j + (n + 1) by omega]
set_option maxHeartbeats 4000000 in
theorem rallocA_lx (kind m : Int) (R : List Rw) (vs : List Int) (n W : Int) (C B V : List PV) (hC : C = cpv R) (hB : B = bpv R) (hV : V = ipv vs) (hn : n = R.length) (hR : R.length ≤ 1000) (hA : AOk R vs) (hW : W = 32 * n) : CallF (fun _ => Try.prog) 16 [.ptr 0 (.lit 0), .p (.int .i64 (.sym kind)), .p (.int .i64 (.sym m))] [(0, .mix [.ptr 1 (.lit 0), .sl 4 3 1 (.lit 0) (.sym W)]), (1, .mix [.sl 2 3 1 (.lit 0) (.sym n), .sl 3 70 8 (.lit 0) (.sym n)]), (2, .pure true C), (3, .pure true B), (4, .pure true V)] 5
    (fun r h n' => ∃ (at_ e : Int) (R' : List Rw) (vs' : List Int) (C' B' V' : List PV), r = .tup [.p (.int .i64 (.sym at_)), .p (.int .i64 (.sym e))] ∧ h = [(0, .mix [.ptr 1 (.lit 0), .sl 4 3 1 (.lit 0) (.sym W)]), (1, .mix [.sl 2 3 1 (.lit 0) (.sym n), .sl 3 70 8 (.lit 0) (.sym n)]), (2, .pure true C'), (3, .pure true B'), (4, .pure true V')] ∧ n' = 5 ∧ C' = cpv R' ∧ B' = bpv R' ∧ V' = ipv vs' ∧ AlloctV R vs kind m at_ e R' vs') := by
  have hlen := hA.len
  have hVl : V.length = vs.length := by rw [hV, ipv_length]
  refine callF_of_body tok Try.func16 (by kernel_rfl) rfl rfl rfl ?_; conv => cbv
  refine callF_frame (rclassOf_lx m) [] rfl trivial rfl rfl (fun r h' n' hrr => ?_)
  obtain ⟨c, b, e1, e2, e3, hO⟩ := hrr
  subst e1 e2 e3
  conv => cbv
  refine Br.mk (fun g => ?_) (fun g => ?_)
  · have g : kind < 1 := g
    have hno : ¬ (0 ≤ m ∧ m ≤ 31 ∧ 1 ≤ kind ∧ kind ≤ 6) := fun h => by omega
    conv => cbv
    refine RetF.mk [.p (.int .i64 (.sym 0)), .p (.int .i64 (.sym 1))] [(0, .mix [.ptr 1 (.lit 0), .sl 4 3 1 (.lit 0) (.sym W)]), (1, .mix [.sl 2 3 1 (.lit 0) (.sym n), .sl 3 70 8 (.lit 0) (.sym n)]), (2, .pure true C), (3, .pure true B), (4, .pure true V)] 5 (Re.of [(0, 0), (1, 1), (2, 2), (3, 3), (4, 4)] [] (by first | exact Nat.zero_le _ | exact Nat.le_refl _ | decide | (dsimp only; decide)) rfl rfl (by (try (conv => cbv)); (repeat' (first | exact trivial | rfl | exact SEq.mk rfl | (exact SEq.mk (by first | assumption | (symm; assumption))) | (simp only [I.val]; done) | (simp only [I.val]; omega) | omega | assumption | (refine And.intro ?_ ?_) | exact Or.inl rfl | exact Or.inr (by assumption) | exact List.Mem.head _ | exact List.Mem.tail _ (List.Mem.head _) | exact ⟨_, rfl⟩ | exact ⟨_, rfl, Or.inl rfl⟩ | (refine ⟨_, rfl, Or.inr ?_⟩; (try (conv => cbv))) | (simp only [I.val] at *; first | omega | (subst_vars; rfl) | simp_all) | (refine Or.inr ?_; (try (conv => cbv)))))) (by (try (conv => cbv)); (repeat' (first | exact trivial | rfl | exact SEq.mk rfl | (exact SEq.mk (by first | assumption | (symm; assumption))) | (simp only [I.val]; done) | (simp only [I.val]; omega) | omega | assumption | (refine And.intro ?_ ?_) | exact Or.inl rfl | exact Or.inr (by assumption) | exact List.Mem.head _ | exact List.Mem.tail _ (List.Mem.head _) | exact ⟨_, rfl⟩ | exact ⟨_, rfl, Or.inl rfl⟩ | (refine ⟨_, rfl, Or.inr ?_⟩; (try (conv => cbv))) | (simp only [I.val] at *; first | omega | (subst_vars; rfl) | simp_all) | (refine Or.inr ?_; (try (conv => cbv))))))) rfl ⟨0, 1, R, vs, C, B, V, rfl, rfl, rfl, hC, hB, hV, .arg hno⟩
  have g : ¬ kind < 1 := g
  conv => cbv
  refine Br.mk (fun g2 => ?_) (fun g2 => ?_)
  · have g2 : 6 < kind := g2
    have hno : ¬ (0 ≤ m ∧ m ≤ 31 ∧ 1 ≤ kind ∧ kind ≤ 6) := fun h => by omega
    conv => cbv
    refine RetF.mk [.p (.int .i64 (.sym 0)), .p (.int .i64 (.sym 1))] [(0, .mix [.ptr 1 (.lit 0), .sl 4 3 1 (.lit 0) (.sym W)]), (1, .mix [.sl 2 3 1 (.lit 0) (.sym n), .sl 3 70 8 (.lit 0) (.sym n)]), (2, .pure true C), (3, .pure true B), (4, .pure true V)] 5 (Re.of [(0, 0), (1, 1), (2, 2), (3, 3), (4, 4)] [] (by first | exact Nat.zero_le _ | exact Nat.le_refl _ | decide | (dsimp only; decide)) rfl rfl (by (try (conv => cbv)); (repeat' (first | exact trivial | rfl | exact SEq.mk rfl | (exact SEq.mk (by first | assumption | (symm; assumption))) | (simp only [I.val]; done) | (simp only [I.val]; omega) | omega | assumption | (refine And.intro ?_ ?_) | exact Or.inl rfl | exact Or.inr (by assumption) | exact List.Mem.head _ | exact List.Mem.tail _ (List.Mem.head _) | exact ⟨_, rfl⟩ | exact ⟨_, rfl, Or.inl rfl⟩ | (refine ⟨_, rfl, Or.inr ?_⟩; (try (conv => cbv))) | (simp only [I.val] at *; first | omega | (subst_vars; rfl) | simp_all) | (refine Or.inr ?_; (try (conv => cbv)))))) (by (try (conv => cbv)); (repeat' (first | exact trivial | rfl | exact SEq.mk rfl | (exact SEq.mk (by first | assumption | (symm; assumption))) | (simp only [I.val]; done) | (simp only [I.val]; omega) | omega | assumption | (refine And.intro ?_ ?_) | exact Or.inl rfl | exact Or.inr (by assumption) | exact List.Mem.head _ | exact List.Mem.tail _ (List.Mem.head _) | exact ⟨_, rfl⟩ | exact ⟨_, rfl, Or.inl rfl⟩ | (refine ⟨_, rfl, Or.inr ?_⟩; (try (conv => cbv))) | (simp only [I.val] at *; first | omega | (subst_vars; rfl) | simp_all) | (refine Or.inr ?_; (try (conv => cbv))))))) rfl ⟨0, 1, R, vs, C, B, V, rfl, rfl, rfl, hC, hB, hV, .arg hno⟩
  have g2 : ¬ 6 < kind := g2
  cases hO with
  | no hno =>
    conv => cbv
    refine RetF.mk [.p (.int .i64 (.sym 0)), .p (.int .i64 (.sym 1))] [(0, .mix [.ptr 1 (.lit 0), .sl 4 3 1 (.lit 0) (.sym W)]), (1, .mix [.sl 2 3 1 (.lit 0) (.sym n), .sl 3 70 8 (.lit 0) (.sym n)]), (2, .pure true C), (3, .pure true B), (4, .pure true V)] 5 (Re.of [(0, 0), (1, 1), (2, 2), (3, 3), (4, 4)] [] (by first | exact Nat.zero_le _ | exact Nat.le_refl _ | decide | (dsimp only; decide)) rfl rfl (by (try (conv => cbv)); (repeat' (first | exact trivial | rfl | exact SEq.mk rfl | (exact SEq.mk (by first | assumption | (symm; assumption))) | (simp only [I.val]; done) | (simp only [I.val]; omega) | omega | assumption | (refine And.intro ?_ ?_) | exact Or.inl rfl | exact Or.inr (by assumption) | exact List.Mem.head _ | exact List.Mem.tail _ (List.Mem.head _) | exact ⟨_, rfl⟩ | exact ⟨_, rfl, Or.inl rfl⟩ | (refine ⟨_, rfl, Or.inr ?_⟩; (try (conv => cbv))) | (simp only [I.val] at *; first | omega | (subst_vars; rfl) | simp_all) | (refine Or.inr ?_; (try (conv => cbv)))))) (by (try (conv => cbv)); (repeat' (first | exact trivial | rfl | exact SEq.mk rfl | (exact SEq.mk (by first | assumption | (symm; assumption))) | (simp only [I.val]; done) | (simp only [I.val]; omega) | omega | assumption | (refine And.intro ?_ ?_) | exact Or.inl rfl | exact Or.inr (by assumption) | exact List.Mem.head _ | exact List.Mem.tail _ (List.Mem.head _) | exact ⟨_, rfl⟩ | exact ⟨_, rfl, Or.inl rfl⟩ | (refine ⟨_, rfl, Or.inr ?_⟩; (try (conv => cbv))) | (simp only [I.val] at *; first | omega | (subst_vars; rfl) | simp_all) | (refine Or.inr ?_; (try (conv => cbv))))))) rfl ⟨0, 1, R, vs, C, B, V, rfl, rfl, rfl, hC, hB, hV, .arg (fun h => hno ⟨h.1, h.2.1⟩)⟩
  | yes _ hc hyes =>
    have hyk : 0 ≤ m ∧ m ≤ 31 ∧ 1 ≤ kind ∧ kind ≤ 6 := by omega
    conv => cbv
    refine callF_frame (ralloc_lx c R n C B hC hB hn hR (rok_of hA.rows)) [(0, 1), (1, 2), (2, 3)] rfl (by simp [hmapOk, nget, hget, renB, okB, renV, renVs, rn, okVs, okV]) rfl rfl (fun r h' n' hrr => ?_)
    obtain ⟨i, s, b, R2, C2, B2, e1, e2, e3, hC2, hB2, hAl⟩ := hrr
    subst e1 e2 e3
    cases b with
    | false =>
      conv => cbv
      rw [hc] at hAl
      refine RetF.mk [.p (.int .i64 (.sym 0)), .p (.int .i64 (.sym 9))] [(0, .mix [.ptr 1 (.lit 0), .sl 4 3 1 (.lit 0) (.sym W)]), (1, .mix [.sl 2 3 1 (.lit 0) (.sym n), .sl 3 70 8 (.lit 0) (.sym n)]), (2, .pure true C2), (3, .pure true B2), (4, .pure true V)] 5 (Re.of [(0, 0), (1, 1), (2, 2), (3, 3), (4, 4)] [] (by first | exact Nat.zero_le _ | exact Nat.le_refl _ | decide | (dsimp only; decide)) rfl rfl (by (try (conv => cbv)); (repeat' (first | exact trivial | rfl | exact SEq.mk rfl | (exact SEq.mk (by first | assumption | (symm; assumption))) | (simp only [I.val]; done) | (simp only [I.val]; omega) | omega | assumption | (refine And.intro ?_ ?_) | exact Or.inl rfl | exact Or.inr (by assumption) | exact List.Mem.head _ | exact List.Mem.tail _ (List.Mem.head _) | exact ⟨_, rfl⟩ | exact ⟨_, rfl, Or.inl rfl⟩ | (refine ⟨_, rfl, Or.inr ?_⟩; (try (conv => cbv))) | (simp only [I.val] at *; first | omega | (subst_vars; rfl) | simp_all) | (refine Or.inr ?_; (try (conv => cbv)))))) (by (try (conv => cbv)); (repeat' (first | exact trivial | rfl | exact SEq.mk rfl | (exact SEq.mk (by first | assumption | (symm; assumption))) | (simp only [I.val]; done) | (simp only [I.val]; omega) | omega | assumption | (refine And.intro ?_ ?_) | exact Or.inl rfl | exact Or.inr (by assumption) | exact List.Mem.head _ | exact List.Mem.tail _ (List.Mem.head _) | exact ⟨_, rfl⟩ | exact ⟨_, rfl, Or.inl rfl⟩ | (refine ⟨_, rfl, Or.inr ?_⟩; (try (conv => cbv))) | (simp only [I.val] at *; first | omega | (subst_vars; rfl) | simp_all) | (refine Or.inr ?_; (try (conv => cbv))))))) rfl ⟨0, 9, R2, vs, C2, B2, V, rfl, rfl, rfl, hC2, hB2, hV, .room i s R2 hyk hAl⟩
    | true =>
      conv => cbv
      obtain ⟨hi0, hi1, hs0, hs1⟩ := alloced_in hA.rows hAl
      obtain ⟨w, hw⟩ : ∃ w, w = wordsOf c := ⟨_, rfl⟩
      have hmw : m < w ∧ w ≠ 0 := by rw [hw, hc]; exact ofN_words hyes
      have hwb := wordsOf_bd c
      rw [← hw] at hwb
      have hsw : (s.toNat : Int) * w + w ≤ 32 := by rw [hw]; exact slots_words (by rw [← hw]; exact hmw.2) (by omega)
      rw [show (s.toNat : Int) = s by omega] at hsw
      obtain ⟨sw, hsw2⟩ : ∃ sw, sw = s * w := ⟨_, rfl⟩
      have hsw0 : 0 ≤ sw := by rw [hsw2]; exact Int.mul_nonneg hs0 (by rw [hw]; exact (wordsOf_bd _).1)
      rw [← hsw2] at hsw
      refine Fit.mk (by show (-9223372036854775808 : Int) ≤ i * 32; omega) (by show i * 32 ≤ 9223372036854775807; omega) fun i32 hi32 => ?_
      have hi32 : i32 = i * 32 := hi32
      conv => cbv
      refine callF_frame (refWordsA_lx c w hw) [] rfl trivial rfl rfl (fun r h' n' ⟨e1, e2, e3⟩ => ?_)
      subst e1 e2 e3
      conv => cbv
      refine Fit.mk (by show (-9223372036854775808 : Int) ≤ s * w; rw [← hsw2]; omega) (by show s * w ≤ 9223372036854775807; rw [← hsw2]; omega) fun sw' hsw' => ?_
      have hsw' : sw' = sw := by rw [hsw2]; exact hsw'
      conv => cbv
      refine Fit.mk (by show (-9223372036854775808 : Int) ≤ i32 + sw'; omega) (by show i32 + sw' ≤ 9223372036854775807; omega) fun at_ hat => ?_
      have hat : at_ = i32 + sw' := hat
      have hat2 : at_ = 32 * i + sw := by omega
      conv => cbv
      have hloc : at_ + w ≤ W := by omega
      refine LoopF.mk (fun k st => ∃ (j : Int) (V2 : List PV), st = ⟨.ptr 0 (.lit 0) :: .p (.int .i64 (.sym kind)) :: .p (.int .i64 (.sym m)) :: (undefs 5 ++ .p (.int .i64 (.sym c)) :: (undefs 3 ++ .p (.int .i64 (.sym at_)) :: .p (.int .i64 (.sym j)) :: undefs 59)), [(0, .mix [.ptr 1 (.lit 0), .sl 4 3 1 (.lit 0) (.sym W)]), (1, .mix [.sl 2 3 1 (.lit 0) (.sym n), .sl 3 70 8 (.lit 0) (.sym n)]), (2, .pure true C2), (3, .pure true B2), (4, .pure true V2)], 5⟩ ∧ V2 = ipv (zer vs at_.toNat j.toNat) ∧ 0 ≤ j ∧ j ≤ w ∧ k = (w - j).toNat) w.toNat _
        (Re.of [(0, 0), (1, 1), (2, 2), (3, 3), (4, 4)] [] (by first | exact Nat.zero_le _ | exact Nat.le_refl _ | decide | (dsimp only; decide)) rfl rfl (by (try (conv => cbv)); (repeat' (first | exact trivial | rfl | exact SEq.mk rfl | (exact SEq.mk (by first | assumption | (symm; assumption))) | (simp only [I.val]; done) | (simp only [I.val]; omega) | omega | assumption | (refine And.intro ?_ ?_) | exact Or.inl rfl | exact Or.inr (by assumption) | exact List.Mem.head _ | exact List.Mem.tail _ (List.Mem.head _) | exact ⟨_, rfl⟩ | exact ⟨_, rfl, Or.inl rfl⟩ | (refine ⟨_, rfl, Or.inr ?_⟩; (try (conv => cbv))) | (simp only [I.val] at *; first | omega | (subst_vars; rfl) | simp_all) | (refine Or.inr ?_; (try (conv => cbv)))))) (by (try (conv => cbv)); (repeat' (first | exact trivial | rfl | exact SEq.mk rfl | (exact SEq.mk (by first | assumption | (symm; assumption))) | (simp only [I.val]; done) | (simp only [I.val]; omega) | omega | assumption | (refine And.intro ?_ ?_) | exact Or.inl rfl | exact Or.inr (by assumption) | exact List.Mem.head _ | exact List.Mem.tail _ (List.Mem.head _) | exact ⟨_, rfl⟩ | exact ⟨_, rfl, Or.inl rfl⟩ | (refine ⟨_, rfl, Or.inr ?_⟩; (try (conv => cbv))) | (simp only [I.val] at *; first | omega | (subst_vars; rfl) | simp_all) | (refine Or.inr ?_; (try (conv => cbv))))))) ⟨0, V, rfl, hV, by omega, by omega, by omega⟩ ?_
      rintro k st ⟨j, V2, rfl, hV2, hj0, hj1, hk⟩
      have hV2l : V2.length = vs.length := by rw [hV2, ipv_length, zer_length]
      conv => cbv
      refine callF_frame (refWordsA_lx c w hw) [] rfl trivial rfl rfl (fun r h' n' ⟨e1, e2, e3⟩ => ?_)
      subst e1 e2 e3
      conv => cbv
      refine Br.mk (fun g3 => ?_) (fun g3 => ?_)
      · have g3 : j < w := g3
        obtain ⟨k', rfl⟩ : ∃ k', k = k' + 1 := ⟨k - 1, by omega⟩
        obtain ⟨j2, hj2⟩ : ∃ j2, j2 = j + 1 := ⟨_, rfl⟩
        obtain ⟨V3, hV3⟩ : ∃ V3, V3 = ipv (zer vs at_.toNat j2.toNat) := ⟨_, rfl⟩
        conv => cbv
        refine Fit.mk (by show (-9223372036854775808 : Int) ≤ at_ + j; omega) (by show at_ + j ≤ 9223372036854775807; omega) fun x hx => ?_
        have hx : x = at_ + j := hx
        conv => cbv
        refine Need.mk ⟨by show 0 ≤ x; omega, by show x < W; omega⟩ ?_
        conv => cbv
        refine Need.mk (by show x + ((1 : Nat) : Int) ≤ (V2.length : Int); omega) ?_
        conv => cbv
        refine Upd.mk fun D2 hD2 => ?_
        have hle : pvles D2 V3 := by
          have hD2 : D2 = updL V2 x.toNat (repsP [.int .i64 (.lit 0)] 1) := hD2
          rw [hD2, hV3, hV2, show j2.toNat = j.toNat + 1 by omega, zer_snoc, show at_.toNat + j.toNat = x.toNat by omega]
          exact upd_zer 1 _ _ _ (pvles_self _)
        clear hD2
        unfold pvles at hle
        conv => cbv
        refine Fit.mk (by show (-9223372036854775808 : Int) ≤ j + 1; omega) (by show j + 1 ≤ 9223372036854775807; omega) fun j3 hj3 => ?_
        have hj3 : j3 = j + 1 := hj3
        obtain rfl : j3 = j2 := by omega
        conv => cbv
        refine Again.mk k' _ (Nat.lt_succ_self _) (Re.of [(0, 0), (1, 1), (2, 2), (3, 3), (4, 4)] [] (by first | exact Nat.zero_le _ | exact Nat.le_refl _ | decide | (dsimp only; decide)) rfl rfl (by (try (conv => cbv)); (repeat' (first | exact trivial | rfl | exact SEq.mk rfl | (exact SEq.mk (by first | assumption | (symm; assumption))) | (simp only [I.val]; done) | (simp only [I.val]; omega) | omega | assumption | (refine And.intro ?_ ?_) | exact Or.inl rfl | exact Or.inr (by assumption) | exact List.Mem.head _ | exact List.Mem.tail _ (List.Mem.head _) | exact ⟨_, rfl⟩ | exact ⟨_, rfl, Or.inl rfl⟩ | (refine ⟨_, rfl, Or.inr ?_⟩; (try (conv => cbv))) | (simp only [I.val] at *; first | omega | (subst_vars; rfl) | simp_all) | (refine Or.inr ?_; (try (conv => cbv)))))) (by (try (conv => cbv)); (repeat' (first | exact trivial | rfl | exact SEq.mk rfl | (exact SEq.mk (by first | assumption | (symm; assumption))) | (simp only [I.val]; done) | (simp only [I.val]; omega) | omega | assumption | (refine And.intro ?_ ?_) | exact Or.inl rfl | exact Or.inr (by assumption) | exact List.Mem.head _ | exact List.Mem.tail _ (List.Mem.head _) | exact ⟨_, rfl⟩ | exact ⟨_, rfl, Or.inl rfl⟩ | (refine ⟨_, rfl, Or.inr ?_⟩; (try (conv => cbv))) | (simp only [I.val] at *; first | omega | (subst_vars; rfl) | simp_all) | (refine Or.inr ?_; (try (conv => cbv))))))) ⟨j3, V3, rfl, hV3, by omega, by omega, by omega⟩
      · have g3 : ¬ j < w := g3
        have hjw : j = w := by omega
        subst hjw
        obtain ⟨V3, hV3⟩ : ∃ V3, V3 = ipv ((zer vs at_.toNat j.toNat).set at_.toNat (kind + 16 * m)) := ⟨_, rfl⟩
        have hres : AlloctV R vs kind m at_ 0 R2 ((zer vs at_.toNat j.toNat).set at_.toNat (kind + 16 * m)) := by
          rw [hw, hc]
          exact .ok i s at_ R2 hyk (hc ▸ hAl) (by rw [hat2, hsw2, hw, hc])
        conv => cbv
        refine Fit.mk (by show (-9223372036854775808 : Int) ≤ 16 * m; omega) (by show 16 * m ≤ 9223372036854775807; omega) fun x hx => ?_
        have hx : x = 16 * m := hx
        conv => cbv
        refine Fit.mk (by show (-9223372036854775808 : Int) ≤ kind + x; omega) (by show kind + x ≤ 9223372036854775807; omega) fun y hy => ?_
        have hy : y = kind + x := hy
        conv => cbv
        refine Need.mk ⟨by show 0 ≤ at_; omega, by show at_ < W; omega⟩ ?_
        conv => cbv
        refine Need.mk (by show at_ + ((1 : Nat) : Int) ≤ (V2.length : Int); omega) ?_
        conv => cbv
        refine Upd.mk fun D2 hD2 => ?_
        have hD2 : D2 = updL V2 at_.toNat [.int .i64 (.sym y)] := hD2
        have hD2 : D2 = V3 := by rw [hD2, hV2, hV3, updL_ipv, hy, hx]
        subst hD2
        conv => cbv
        refine RetF.mk [.p (.int .i64 (.sym at_)), .p (.int .i64 (.sym 0))] [(0, .mix [.ptr 1 (.lit 0), .sl 4 3 1 (.lit 0) (.sym W)]), (1, .mix [.sl 2 3 1 (.lit 0) (.sym n), .sl 3 70 8 (.lit 0) (.sym n)]), (2, .pure true C2), (3, .pure true B2), (4, .pure true D2)] 5 (Re.of [(0, 0), (1, 1), (2, 2), (3, 3), (4, 4)] [] (by first | exact Nat.zero_le _ | exact Nat.le_refl _ | decide | (dsimp only; decide)) rfl rfl (by (try (conv => cbv)); (repeat' (first | exact trivial | rfl | exact SEq.mk rfl | (exact SEq.mk (by first | assumption | (symm; assumption))) | (simp only [I.val]; done) | (simp only [I.val]; omega) | omega | assumption | (refine And.intro ?_ ?_) | exact Or.inl rfl | exact Or.inr (by assumption) | exact List.Mem.head _ | exact List.Mem.tail _ (List.Mem.head _) | exact ⟨_, rfl⟩ | exact ⟨_, rfl, Or.inl rfl⟩ | (refine ⟨_, rfl, Or.inr ?_⟩; (try (conv => cbv))) | (simp only [I.val] at *; first | omega | (subst_vars; rfl) | simp_all) | (refine Or.inr ?_; (try (conv => cbv)))))) (by (try (conv => cbv)); (repeat' (first | exact trivial | rfl | exact SEq.mk rfl | (exact SEq.mk (by first | assumption | (symm; assumption))) | (simp only [I.val]; done) | (simp only [I.val]; omega) | omega | assumption | (refine And.intro ?_ ?_) | exact Or.inl rfl | exact Or.inr (by assumption) | exact List.Mem.head _ | exact List.Mem.tail _ (List.Mem.head _) | exact ⟨_, rfl⟩ | exact ⟨_, rfl, Or.inl rfl⟩ | (refine ⟨_, rfl, Or.inr ?_⟩; (try (conv => cbv))) | (simp only [I.val] at *; first | omega | (subst_vars; rfl) | simp_all) | (refine Or.inr ?_; (try (conv => cbv))))))) rfl ⟨at_, 0, R2, _, C2, B2, D2, rfl, rfl, rfl, hC2, hB2, hV3, hres⟩
end Go.Proofs.Ytlakoemonbadiaa
