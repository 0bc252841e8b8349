/-
  Layer 7: ArenaPlays.
-/
import Derived.Test.YtlakoemonbadiaaAg
import Derived.Test.YtlakoemonbadiaaAt
import Derived.Test.YtlakoemonbadiaaAu
import Derived.Test.YtlakoemonbadiaaAv
import Derived.Test.YtlakoemonbadiaaPi
import Derived.Test.YtlakoemonbadiaaLxZ
import Derived.Test.YtlakoemonbadiaaLxJoin
namespace Go.Proofs.Ytlakoemonbadiaa
open Go Go.LX
set_option maxRecDepth 100000
set_option linter.unusedVariables false
set_option linter.unusedSimpArgs false

theorem Sim.new (n : Nat) : Sim (List.replicate n (0, [])) (List.replicate (32 * n) 0) (List.replicate (32 * n) 0) :=
  ⟨AOk.new n, AOk.new n, fun _ _ _ h => absurd h.obj6 (new_none n _), fun _ _ _ _ h => absurd h.obj6 (new_none n _)⟩
theorem plainI_true (A : List Int) (m : Int) (la lb : List PV) (hm : m = A.length) (ha : la = ipv A) (hb : lb = ipv A) (hA : (A.length : Int) < 1000000) :
    CallF (fun _ => Try.prog) 17 [.p (.vsl (.sym m) true la), .p (.vsl (.sym m) true lb)] [] 0 (fun r h n => r = .p (.bool true) ∧ h = [] ∧ n = 0) :=
  (plaini64_lx A A m m la lb hm hm (by rw [ha]; exact preI_ints A) (by rw [hb]; exact preI_ints A) hA).mono fun r h n ⟨⟨b, e1, h1⟩, e2, e3⟩ => ⟨by rw [e1, h1.2 rfl], e2, e3⟩
set_option maxHeartbeats 8000000 in
theorem arenaPlays_law (n k1 : Int) (ops : List (Int × Int × Int × Int × Int × Int)) (L1 : List PV) (hn : -9223372036854775808 ≤ n ∧ n ≤ 9223372036854775807) (hk1 : k1 = ops.length) (hL1 : L1 = sixes ops) (hkb : k1 ≤ 9223372036854775807) (hob : ∀ o ∈ ops, -9223372036854775808 ≤ o.2.2.2.2.2 ∧ o.2.2.2.2.2 ≤ 9223372036854775807) :
    CallF (fun _ => Try.prog) 3 [.p (.int .i64 (.sym n)), .p (.vsl (.sym k1) true L1)] [] 0 (fun r _ _ => r = .p (.bool true)) := by
  have hL1l : L1.length = 6 * ops.length := by rw [hL1, sixes_length]
  refine callF_of_bodyB tok Try.func3 (by kernel_rfl) rfl rfl rfl [11, 14] ?_; conv => cbv
  refine Fit.wrap fun xn hxn => ?_
  have hxn : xn = IntKind.u64.wrap n := hxn
  have hyn : 0 ≤ xn := by rw [hxn]; simp [IntKind.wrap, IntKind.bits, IntKind.signed]; omega
  clear hxn
  conv => cbv
  refine Sum.mk fun tn htn => ?_
  have htn : tn = xn % 6 := (show tn = xn.tmod 6 from htn).trans (Int.tmod_eq_emod_of_nonneg hyn)
  conv => cbv
  refine Fit.mk (by show (-9223372036854775808 : Int) ≤ tn; omega) (by show tn ≤ 9223372036854775807; omega) fun un hun => ?_
  have hun : un = tn := hun
  have h0n : 0 ≤ un := by omega
  have h1n : un < 6 := by omega
  clear hun htn hyn
  conv => cbv
  refine Fit.mk (by show (-9223372036854775808 : Int) ≤ 2 + un; omega) (by show 2 + un ≤ 9223372036854775807; omega) fun N hN => ?_
  have hN : N = 2 + un := hN
  have hN0 : 2 ≤ N := by omega
  have hN1 : N ≤ 7 := by omega
  clear hN h0n h1n
  obtain ⟨W, hW⟩ : ∃ W, W = 32 * N := ⟨_, rfl⟩
  obtain ⟨R0, hR0⟩ : ∃ R0, R0 = List.replicate N.toNat ((0, []) : Rw) := ⟨_, rfl⟩
  obtain ⟨ws0, hws0⟩ : ∃ ws0, ws0 = List.replicate W.toNat (0 : Int) := ⟨_, rfl⟩
  have hl0 : N = R0.length := by rw [hR0, List.length_replicate]; omega
  have hS0 : Sim R0 ws0 ws0 := by rw [hR0, hws0, show W.toNat = 32 * N.toNat by omega]; exact Sim.new _
  obtain ⟨L, hL⟩ : ∃ L, L = rpv R0 := ⟨_, rfl⟩
  obtain ⟨D, hD⟩ : ∃ D, D = ipv ws0 := ⟨_, rfl⟩
  conv => cbv
  refine callF_frame (newA_lx N W hN0 (by omega) hW L D (by rw [hL, hR0]) (by rw [hD, hws0])) [] rfl trivial rfl rfl (fun r h' n' ⟨e1, e2, e3⟩ => ?_)
  subst e1 e2 e3
  conv => cbv
  refine callF_frame (rnewA_lx N W hN0 (by omega) hW) [] rfl trivial rfl rfl (fun r h' n' hrr => ?_)
  obtain ⟨C, B, V, e1, e2, e3, hC, hB, hV⟩ := hrr
  subst e1 e2 e3
  rw [← hR0] at hC hB
  rw [← hws0] at hV
  conv => cbv
  refine callF_frame awake07_lx [] rfl trivial rfl rfl (fun r h' n' ⟨e1, e2, e3⟩ => ?_)
  subst e1 e2 e3
  conv => cbv
  refine LoopF.mk (fun kk s => ∃ (i : Int) (L D C B V : List PV) (R : List Rw) (ws vs : List Int), s = ⟨.p (.int .i64 (.sym N)) :: .p (.vsl (.sym k1) true L1) :: (undefs 3 ++ .ptr 0 (.lit 0) :: .undef :: .ptr 4 (.lit 0) :: .undef :: .p (.int .i64 (.sym i)) :: undefs 282), [(0, .mix [.ptr 1 (.lit 0), .sl 3 3 1 (.lit 0) (.sym W)]), (1, .mix [.sl 2 79 2 (.lit 0) (.sym N)]), (2, .pure true L), (3, .pure true D), (4, .mix [.ptr 5 (.lit 0), .sl 8 3 1 (.lit 0) (.sym W)]), (5, .mix [.sl 6 3 1 (.lit 0) (.sym N), .sl 7 70 8 (.lit 0) (.sym N)]), (6, .pure true C), (7, .pure true B), (8, .pure true V)], 9⟩ ∧ Sim R ws vs ∧ N = R.length ∧ L = rpv R ∧ D = ipv ws ∧ C = cpv R ∧ B = bpv R ∧ V = ipv vs ∧ 0 ≤ i ∧ i ≤ 60 ∧ kk = (60 - i).toNat) 60 _
    (Re.of [(0, 0), (1, 1), (2, 2), (3, 3), (4, 4), (5, 5), (6, 6), (7, 7), (8, 8)] [] (by first | exact Nat.zero_le _ | exact Nat.le_refl _ | decide | (dsimp only; decide)) rfl rfl (by (try (conv => cbv)); (repeat' (first | exact trivial | rfl | exact SEq.mk rfl | (exact SEq.mk (by first | assumption | (symm; assumption))) | (simp only [I.val]; done) | (simp only [I.val]; omega) | omega | assumption | (refine And.intro ?_ ?_) | exact Or.inl rfl | exact Or.inr (by assumption) | exact List.Mem.head _ | exact List.Mem.tail _ (List.Mem.head _) | exact ⟨_, rfl⟩ | exact ⟨_, rfl, Or.inl rfl⟩ | (refine ⟨_, rfl, Or.inr ?_⟩; (try (conv => cbv))) | (simp only [I.val] at *; first | omega | (subst_vars; rfl) | simp_all) | (refine Or.inr ?_; (try (conv => cbv)))))) (by (try (conv => cbv)); (repeat' (first | exact trivial | rfl | exact SEq.mk rfl | (exact SEq.mk (by first | assumption | (symm; assumption))) | (simp only [I.val]; done) | (simp only [I.val]; omega) | omega | assumption | (refine And.intro ?_ ?_) | exact Or.inl rfl | exact Or.inr (by assumption) | exact List.Mem.head _ | exact List.Mem.tail _ (List.Mem.head _) | exact ⟨_, rfl⟩ | exact ⟨_, rfl, Or.inl rfl⟩ | (refine ⟨_, rfl, Or.inr ?_⟩; (try (conv => cbv))) | (simp only [I.val] at *; first | omega | (subst_vars; rfl) | simp_all) | (refine Or.inr ?_; (try (conv => cbv))))))) ⟨0, L, D, C, B, V, R0, ws0, ws0, rfl, hS0, hl0, hL, hD, hC, hB, hV, by omega, by omega, by omega⟩ ?_
  clear hS0 hl0 hL hD hC hB hV hR0 hws0
  rintro kk s ⟨i, L, D, C, B, V, R, ws, vs, rfl, hS, hl, hL, hD, hC, hB, hV, hi0, hi1, hkk⟩
  have hR9 : R.length ≤ 1000 := by omega
  obtain ⟨m, hm⟩ : ∃ m : Int, m = objCount R := ⟨_, rfl⟩
  conv => cbv
  refine Br.mk (fun gi => ?_) (fun gi => ?_)
  case refine_2 =>
    conv => cbv
    refine RetF.mk [.p (.bool true)] [] 0 (Re.of [] [] (by first | exact Nat.zero_le _ | exact Nat.le_refl _ | decide | (dsimp only; decide)) rfl rfl (by (try (conv => cbv)); (repeat' (first | exact trivial | rfl | exact SEq.mk rfl | (exact SEq.mk (by first | assumption | (symm; assumption))) | (simp only [I.val]; done) | (simp only [I.val]; omega) | omega | assumption | (refine And.intro ?_ ?_) | exact Or.inl rfl | exact Or.inr (by assumption) | exact List.Mem.head _ | exact List.Mem.tail _ (List.Mem.head _) | exact ⟨_, rfl⟩ | exact ⟨_, rfl, Or.inl rfl⟩ | (refine ⟨_, rfl, Or.inr ?_⟩; (try (conv => cbv))) | (simp only [I.val] at *; first | omega | (subst_vars; rfl) | simp_all) | (refine Or.inr ?_; (try (conv => cbv)))))) (by (try (conv => cbv)); (repeat' (first | exact trivial | rfl | exact SEq.mk rfl | (exact SEq.mk (by first | assumption | (symm; assumption))) | (simp only [I.val]; done) | (simp only [I.val]; omega) | omega | assumption | (refine And.intro ?_ ?_) | exact Or.inl rfl | exact Or.inr (by assumption) | exact List.Mem.head _ | exact List.Mem.tail _ (List.Mem.head _) | exact ⟨_, rfl⟩ | exact ⟨_, rfl, Or.inl rfl⟩ | (refine ⟨_, rfl, Or.inr ?_⟩; (try (conv => cbv))) | (simp only [I.val] at *; first | omega | (subst_vars; rfl) | simp_all) | (refine Or.inr ?_; (try (conv => cbv))))))) rfl rfl
  have gi : i < k1 := gi
  conv => cbv
  refine Br.mk (fun gi2 => ?_) (fun gi2 => ?_)
  case refine_2 =>
    conv => cbv
    refine RetF.mk [.p (.bool true)] [] 0 (Re.of [] [] (by first | exact Nat.zero_le _ | exact Nat.le_refl _ | decide | (dsimp only; decide)) rfl rfl (by (try (conv => cbv)); (repeat' (first | exact trivial | rfl | exact SEq.mk rfl | (exact SEq.mk (by first | assumption | (symm; assumption))) | (simp only [I.val]; done) | (simp only [I.val]; omega) | omega | assumption | (refine And.intro ?_ ?_) | exact Or.inl rfl | exact Or.inr (by assumption) | exact List.Mem.head _ | exact List.Mem.tail _ (List.Mem.head _) | exact ⟨_, rfl⟩ | exact ⟨_, rfl, Or.inl rfl⟩ | (refine ⟨_, rfl, Or.inr ?_⟩; (try (conv => cbv))) | (simp only [I.val] at *; first | omega | (subst_vars; rfl) | simp_all) | (refine Or.inr ?_; (try (conv => cbv)))))) (by (try (conv => cbv)); (repeat' (first | exact trivial | rfl | exact SEq.mk rfl | (exact SEq.mk (by first | assumption | (symm; assumption))) | (simp only [I.val]; done) | (simp only [I.val]; omega) | omega | assumption | (refine And.intro ?_ ?_) | exact Or.inl rfl | exact Or.inr (by assumption) | exact List.Mem.head _ | exact List.Mem.tail _ (List.Mem.head _) | exact ⟨_, rfl⟩ | exact ⟨_, rfl, Or.inl rfl⟩ | (refine ⟨_, rfl, Or.inr ?_⟩; (try (conv => cbv))) | (simp only [I.val] at *; first | omega | (subst_vars; rfl) | simp_all) | (refine Or.inr ?_; (try (conv => cbv))))))) rfl rfl
  have gi2 : i < 60 := gi2
  obtain ⟨k', rfl⟩ : ∃ k', kk = k' + 1 := ⟨kk - 1, by omega⟩
  obtain ⟨⟨ok, oo, on, oa, oi, ow⟩, ho⟩ : ∃ o, ops[i.toNat]? = some o := ⟨_, List.getElem?_eq_getElem (by omega)⟩
  have how := hob _ (List.mem_of_getElem? ho)
  obtain ⟨c0, c1, c2, c3, c4, c5⟩ := sixes_get ops i.toNat _ ho
  rw [← hL1] at c0 c1 c2 c3 c4 c5
  dsimp only at c0 c1 c2 c3 c4 c5 how
  clear ho
  conv => cbv
  refine Need.mk ⟨hi0, by show i < k1; omega⟩ ?_
  conv => cbv
  refine Sum.mk fun w hw => ?_
  have hw : w = i * 6 := hw
  conv => cbv
  refine Cell.at (w + 0) _ c0 rfl (by omega) ?_
  conv => cbv
  refine Cell.at (w + 1) _ c1 rfl (by omega) ?_
  conv => cbv
  refine Cell.at (w + 2) _ c2 rfl (by omega) ?_
  conv => cbv
  refine Cell.at (w + 3) _ c3 rfl (by omega) ?_
  conv => cbv
  refine Cell.at (w + 4) _ c4 rfl (by omega) ?_
  conv => cbv
  refine Cell.at (w + 5) _ c5 rfl (by omega) ?_
  conv => cbv
  refine callF_frame (robjects_lx m R vs N W C B V hC hB hV hl hR9 hS.b hW hm) [(0, 4), (1, 5), (2, 6), (3, 7), (4, 8)] rfl (by simp [hmapOk, nget, hget, renB, okB, renV, renVs, rn, okVs, okV]) rfl rfl (fun r h' n' hrr => ?_)
  obtain ⟨O, e1, e2, e3, hO⟩ := hrr
  subst e1 e2 e3
  have hOl : O.length = objCount R := by rw [hO, ipv_length, objs_length hS.a.rows]
  have hm0 : 0 ≤ m ∧ m ≤ 56 := by have h8 := objsTo_le R R.length; rw [objs_length hS.a.rows] at h8; omega
  conv => cbv
  refine JoinF.mk (fun s => ∃ at_ : Int, s = ⟨.p (.int .i64 (.sym N)) :: .p (.vsl (.sym k1) true L1) :: (undefs 3 ++ .ptr 0 (.lit 0) :: .undef :: .ptr 4 (.lit 0) :: .undef :: .p (.int .i64 (.sym i)) :: .ptr 9 (.lit 0) :: undefs 281), [(0, .mix [.ptr 1 (.lit 0), .sl 3 3 1 (.lit 0) (.sym W)]), (1, .mix [.sl 2 79 2 (.lit 0) (.sym N)]), (2, .pure true L), (3, .pure true D), (4, .mix [.ptr 5 (.lit 0), .sl 8 3 1 (.lit 0) (.sym W)]), (5, .mix [.sl 6 3 1 (.lit 0) (.sym N), .sl 7 70 8 (.lit 0) (.sym N)]), (6, .pure true C), (7, .pure true B), (8, .pure true V), (9, .pure false [.int .i64 (.sym ok), .int .i64 (.sym oo), .int .i64 (.sym on), .int .i64 (.sym at_), .int .i64 (.sym oi), .int .i64 (.sym ow)])], 10⟩) ?_ ?_
  · conv => cbv
    refine Br.mk (fun g3 => ?_) (fun g3 => ?_)
    · have g3 : ok = 3 := g3
      conv => cbv
      refine Br.mk (fun gm => ?_) (fun gm => ?_)
      · have gm : 0 < m := gm
        conv => cbv
        refine Fit.wrap fun xa hxa => ?_
        have hxa : xa = IntKind.u64.wrap oa := hxa
        have hxa0 : 0 ≤ xa := by rw [hxa]; simp [IntKind.wrap, IntKind.bits, IntKind.signed]; omega
        clear hxa
        conv => cbv
        refine Fit.mk (by show (0 : Int) ≤ m; omega) (by show m ≤ 18446744073709551615; omega) fun mu hmu => ?_
        have hmu : mu = m := hmu
        conv => cbv
        refine Need.mk (show mu ≠ 0 by omega) ?_
        conv => cbv
        refine Sum.mk fun ya hya => ?_
        have hya : ya = xa % mu := (show ya = xa.tmod mu from hya).trans (Int.tmod_eq_emod_of_nonneg hxa0)
        have hya0 : 0 ≤ ya := by rw [hya]; exact Int.emod_nonneg _ (by omega)
        have hya1 : ya < m := by rw [hya, ← hmu]; exact Int.emod_lt_of_pos _ (by omega)
        conv => cbv
        refine Fit.mk (by show (-9223372036854775808 : Int) ≤ ya; omega) (by show ya ≤ 9223372036854775807; omega) fun za hza => ?_
        have hza : za = ya := hza
        obtain ⟨at_, hat⟩ : ∃ at_, (objsTo R R.length)[za.toNat]? = some at_ := ⟨_, List.getElem?_eq_getElem (by rw [← ipv_length, ← hO]; omega)⟩
        have hcO : O[za.toNat]? = some (.int .i64 (.sym at_)) := by rw [hO]; exact ipv_get hat
        conv => cbv
        refine Need.mk ⟨by show 0 ≤ za; omega, by show za < m; omega⟩ ?_
        conv => cbv
        refine Cell.at za _ hcO (by simp [I.val]) rfl ?_
        conv => cbv
        refine Joined.mk _ (Re.of [(0, 0), (1, 1), (2, 2), (3, 3), (4, 4), (5, 5), (6, 6), (7, 7), (8, 8), (9, 9)] [] (by first | exact Nat.zero_le _ | exact Nat.le_refl _ | decide | (dsimp only; decide)) rfl rfl (by (try (conv => cbv)); (repeat' (first | exact trivial | rfl | exact SEq.mk rfl | (exact SEq.mk (by first | assumption | (symm; assumption))) | (simp only [I.val]; done) | (simp only [I.val]; omega) | omega | assumption | (refine And.intro ?_ ?_) | exact Or.inl rfl | exact Or.inr (by assumption) | exact List.Mem.head _ | exact List.Mem.tail _ (List.Mem.head _) | exact ⟨_, rfl⟩ | exact ⟨_, rfl, Or.inl rfl⟩ | (refine ⟨_, rfl, Or.inr ?_⟩; (try (conv => cbv))) | (simp only [I.val] at *; first | omega | (subst_vars; rfl) | simp_all) | (refine Or.inr ?_; (try (conv => cbv)))))) (by (try (conv => cbv)); (repeat' (first | exact trivial | rfl | exact SEq.mk rfl | (exact SEq.mk (by first | assumption | (symm; assumption))) | (simp only [I.val]; done) | (simp only [I.val]; omega) | omega | assumption | (refine And.intro ?_ ?_) | exact Or.inl rfl | exact Or.inr (by assumption) | exact List.Mem.head _ | exact List.Mem.tail _ (List.Mem.head _) | exact ⟨_, rfl⟩ | exact ⟨_, rfl, Or.inl rfl⟩ | (refine ⟨_, rfl, Or.inr ?_⟩; (try (conv => cbv))) | (simp only [I.val] at *; first | omega | (subst_vars; rfl) | simp_all) | (refine Or.inr ?_; (try (conv => cbv))))))) ⟨at_, rfl⟩
      · have gm : ¬ 0 < m := gm
        conv => cbv
        refine Joined.mk _ (Re.of [(0, 0), (1, 1), (2, 2), (3, 3), (4, 4), (5, 5), (6, 6), (7, 7), (8, 8), (9, 9)] [] (by first | exact Nat.zero_le _ | exact Nat.le_refl _ | decide | (dsimp only; decide)) rfl rfl (by (try (conv => cbv)); (repeat' (first | exact trivial | rfl | exact SEq.mk rfl | (exact SEq.mk (by first | assumption | (symm; assumption))) | (simp only [I.val]; done) | (simp only [I.val]; omega) | omega | assumption | (refine And.intro ?_ ?_) | exact Or.inl rfl | exact Or.inr (by assumption) | exact List.Mem.head _ | exact List.Mem.tail _ (List.Mem.head _) | exact ⟨_, rfl⟩ | exact ⟨_, rfl, Or.inl rfl⟩ | (refine ⟨_, rfl, Or.inr ?_⟩; (try (conv => cbv))) | (simp only [I.val] at *; first | omega | (subst_vars; rfl) | simp_all) | (refine Or.inr ?_; (try (conv => cbv)))))) (by (try (conv => cbv)); (repeat' (first | exact trivial | rfl | exact SEq.mk rfl | (exact SEq.mk (by first | assumption | (symm; assumption))) | (simp only [I.val]; done) | (simp only [I.val]; omega) | omega | assumption | (refine And.intro ?_ ?_) | exact Or.inl rfl | exact Or.inr (by assumption) | exact List.Mem.head _ | exact List.Mem.tail _ (List.Mem.head _) | exact ⟨_, rfl⟩ | exact ⟨_, rfl, Or.inl rfl⟩ | (refine ⟨_, rfl, Or.inr ?_⟩; (try (conv => cbv))) | (simp only [I.val] at *; first | omega | (subst_vars; rfl) | simp_all) | (refine Or.inr ?_; (try (conv => cbv))))))) ⟨oa, rfl⟩
    · have g3 : ¬ ok = 3 := g3
      conv => cbv
      refine Br.mk (fun g4 => ?_) (fun g4 => ?_)
      · have g4 : ok = 4 := g4
        conv => cbv
        refine Br.mk (fun gm => ?_) (fun gm => ?_)
        · have gm : 0 < m := gm
          conv => cbv
          refine Fit.wrap fun xa hxa => ?_
          have hxa : xa = IntKind.u64.wrap oa := hxa
          have hxa0 : 0 ≤ xa := by rw [hxa]; simp [IntKind.wrap, IntKind.bits, IntKind.signed]; omega
          clear hxa
          conv => cbv
          refine Fit.mk (by show (0 : Int) ≤ m; omega) (by show m ≤ 18446744073709551615; omega) fun mu hmu => ?_
          have hmu : mu = m := hmu
          conv => cbv
          refine Need.mk (show mu ≠ 0 by omega) ?_
          conv => cbv
          refine Sum.mk fun ya hya => ?_
          have hya : ya = xa % mu := (show ya = xa.tmod mu from hya).trans (Int.tmod_eq_emod_of_nonneg hxa0)
          have hya0 : 0 ≤ ya := by rw [hya]; exact Int.emod_nonneg _ (by omega)
          have hya1 : ya < m := by rw [hya, ← hmu]; exact Int.emod_lt_of_pos _ (by omega)
          conv => cbv
          refine Fit.mk (by show (-9223372036854775808 : Int) ≤ ya; omega) (by show ya ≤ 9223372036854775807; omega) fun za hza => ?_
          have hza : za = ya := hza
          obtain ⟨at_, hat⟩ : ∃ at_, (objsTo R R.length)[za.toNat]? = some at_ := ⟨_, List.getElem?_eq_getElem (by rw [← ipv_length, ← hO]; omega)⟩
          have hcO : O[za.toNat]? = some (.int .i64 (.sym at_)) := by rw [hO]; exact ipv_get hat
          conv => cbv
          refine Need.mk ⟨by show 0 ≤ za; omega, by show za < m; omega⟩ ?_
          conv => cbv
          refine Cell.at za _ hcO (by simp [I.val]) rfl ?_
          conv => cbv
          refine Joined.mk _ (Re.of [(0, 0), (1, 1), (2, 2), (3, 3), (4, 4), (5, 5), (6, 6), (7, 7), (8, 8), (9, 9)] [] (by first | exact Nat.zero_le _ | exact Nat.le_refl _ | decide | (dsimp only; decide)) rfl rfl (by (try (conv => cbv)); (repeat' (first | exact trivial | rfl | exact SEq.mk rfl | (exact SEq.mk (by first | assumption | (symm; assumption))) | (simp only [I.val]; done) | (simp only [I.val]; omega) | omega | assumption | (refine And.intro ?_ ?_) | exact Or.inl rfl | exact Or.inr (by assumption) | exact List.Mem.head _ | exact List.Mem.tail _ (List.Mem.head _) | exact ⟨_, rfl⟩ | exact ⟨_, rfl, Or.inl rfl⟩ | (refine ⟨_, rfl, Or.inr ?_⟩; (try (conv => cbv))) | (simp only [I.val] at *; first | omega | (subst_vars; rfl) | simp_all) | (refine Or.inr ?_; (try (conv => cbv)))))) (by (try (conv => cbv)); (repeat' (first | exact trivial | rfl | exact SEq.mk rfl | (exact SEq.mk (by first | assumption | (symm; assumption))) | (simp only [I.val]; done) | (simp only [I.val]; omega) | omega | assumption | (refine And.intro ?_ ?_) | exact Or.inl rfl | exact Or.inr (by assumption) | exact List.Mem.head _ | exact List.Mem.tail _ (List.Mem.head _) | exact ⟨_, rfl⟩ | exact ⟨_, rfl, Or.inl rfl⟩ | (refine ⟨_, rfl, Or.inr ?_⟩; (try (conv => cbv))) | (simp only [I.val] at *; first | omega | (subst_vars; rfl) | simp_all) | (refine Or.inr ?_; (try (conv => cbv))))))) ⟨at_, rfl⟩
        · have gm : ¬ 0 < m := gm
          conv => cbv
          refine Joined.mk _ (Re.of [(0, 0), (1, 1), (2, 2), (3, 3), (4, 4), (5, 5), (6, 6), (7, 7), (8, 8), (9, 9)] [] (by first | exact Nat.zero_le _ | exact Nat.le_refl _ | decide | (dsimp only; decide)) rfl rfl (by (try (conv => cbv)); (repeat' (first | exact trivial | rfl | exact SEq.mk rfl | (exact SEq.mk (by first | assumption | (symm; assumption))) | (simp only [I.val]; done) | (simp only [I.val]; omega) | omega | assumption | (refine And.intro ?_ ?_) | exact Or.inl rfl | exact Or.inr (by assumption) | exact List.Mem.head _ | exact List.Mem.tail _ (List.Mem.head _) | exact ⟨_, rfl⟩ | exact ⟨_, rfl, Or.inl rfl⟩ | (refine ⟨_, rfl, Or.inr ?_⟩; (try (conv => cbv))) | (simp only [I.val] at *; first | omega | (subst_vars; rfl) | simp_all) | (refine Or.inr ?_; (try (conv => cbv)))))) (by (try (conv => cbv)); (repeat' (first | exact trivial | rfl | exact SEq.mk rfl | (exact SEq.mk (by first | assumption | (symm; assumption))) | (simp only [I.val]; done) | (simp only [I.val]; omega) | omega | assumption | (refine And.intro ?_ ?_) | exact Or.inl rfl | exact Or.inr (by assumption) | exact List.Mem.head _ | exact List.Mem.tail _ (List.Mem.head _) | exact ⟨_, rfl⟩ | exact ⟨_, rfl, Or.inl rfl⟩ | (refine ⟨_, rfl, Or.inr ?_⟩; (try (conv => cbv))) | (simp only [I.val] at *; first | omega | (subst_vars; rfl) | simp_all) | (refine Or.inr ?_; (try (conv => cbv))))))) ⟨oa, rfl⟩
      · have g4 : ¬ ok = 4 := g4
        conv => cbv
        refine Joined.mk _ (Re.of [(0, 0), (1, 1), (2, 2), (3, 3), (4, 4), (5, 5), (6, 6), (7, 7), (8, 8), (9, 9)] [] (by first | exact Nat.zero_le _ | exact Nat.le_refl _ | decide | (dsimp only; decide)) rfl rfl (by (try (conv => cbv)); (repeat' (first | exact trivial | rfl | exact SEq.mk rfl | (exact SEq.mk (by first | assumption | (symm; assumption))) | (simp only [I.val]; done) | (simp only [I.val]; omega) | omega | assumption | (refine And.intro ?_ ?_) | exact Or.inl rfl | exact Or.inr (by assumption) | exact List.Mem.head _ | exact List.Mem.tail _ (List.Mem.head _) | exact ⟨_, rfl⟩ | exact ⟨_, rfl, Or.inl rfl⟩ | (refine ⟨_, rfl, Or.inr ?_⟩; (try (conv => cbv))) | (simp only [I.val] at *; first | omega | (subst_vars; rfl) | simp_all) | (refine Or.inr ?_; (try (conv => cbv)))))) (by (try (conv => cbv)); (repeat' (first | exact trivial | rfl | exact SEq.mk rfl | (exact SEq.mk (by first | assumption | (symm; assumption))) | (simp only [I.val]; done) | (simp only [I.val]; omega) | omega | assumption | (refine And.intro ?_ ?_) | exact Or.inl rfl | exact Or.inr (by assumption) | exact List.Mem.head _ | exact List.Mem.tail _ (List.Mem.head _) | exact ⟨_, rfl⟩ | exact ⟨_, rfl, Or.inl rfl⟩ | (refine ⟨_, rfl, Or.inr ?_⟩; (try (conv => cbv))) | (simp only [I.val] at *; first | omega | (subst_vars; rfl) | simp_all) | (refine Or.inr ?_; (try (conv => cbv))))))) ⟨oa, rfl⟩
  rintro s ⟨at_, rfl⟩
  clear hO hOl
  conv => cbv
  refine JoinF.mk (fun s => ∃ (L' D' C' B' V' : List PV) (R' : List Rw) (ws' vs' : List Int), s = ⟨.p (.int .i64 (.sym N)) :: .p (.vsl (.sym k1) true L1) :: (undefs 3 ++ .ptr 0 (.lit 0) :: .undef :: .ptr 4 (.lit 0) :: .undef :: .p (.int .i64 (.sym i)) :: .ptr 9 (.lit 0) :: .undef :: .p (.bool true) :: undefs 279), [(0, .mix [.ptr 1 (.lit 0), .sl 3 3 1 (.lit 0) (.sym W)]), (1, .mix [.sl 2 79 2 (.lit 0) (.sym N)]), (2, .pure true L'), (3, .pure true D'), (4, .mix [.ptr 5 (.lit 0), .sl 8 3 1 (.lit 0) (.sym W)]), (5, .mix [.sl 6 3 1 (.lit 0) (.sym N), .sl 7 70 8 (.lit 0) (.sym N)]), (6, .pure true C'), (7, .pure true B'), (8, .pure true V'), (9, .pure false [.int .i64 (.sym ok), .int .i64 (.sym oo), .int .i64 (.sym on), .int .i64 (.sym at_), .int .i64 (.sym oi), .int .i64 (.sym ow)])], 10⟩ ∧ Sim R' ws' vs' ∧ N = R'.length ∧ L' = rpv R' ∧ D' = ipv ws' ∧ C' = cpv R' ∧ B' = bpv R' ∧ V' = ipv vs') ?_ ?_
  · conv => cbv
    refine Br.mk (fun q1 => ?_) (fun q1 => ?_)
    · have q1 : ok = 1 := q1
      conv => cbv
      refine drawn_sound tok (by kernel_rfl) [(3, [6, 5, 4]), (7, [])] [0, 1, 2, 4, 5, 6, 3, 7, 8, 9] (by kernel_rfl) ?_; conv => cbv
      refine callF_frame (freeA_lx at_ R ws N W L D hL hD hl hR9 hS.a hW) [(0, 0), (1, 1), (2, 2), (3, 3)] rfl (by simp [hmapOk, nget, hget, renB, okB, renV, renVs, rn, okVs, okV]) rfl rfl (fun r h' n' hrr => ?_)
      obtain ⟨e, R', L', e1, e2, e3, hL', hF⟩ := hrr
      subst e1 e2 e3
      conv => cbv
      refine callF_frame (rfreeA_lx R vs N at_ W C B V hC hB hV hl hR9 hS.b hW) [(0, 4), (1, 5), (2, 6), (3, 7), (4, 8)] rfl (by simp [hmapOk, nget, hget, renB, okB, renV, renVs, rn, okVs, okV]) rfl rfl (fun r h' n' hrr => ?_)
      obtain ⟨f, R2, C', B', e1, e2, e3, hC', hB', hF2⟩ := hrr
      obtain ⟨rfl, rfl⟩ := Freet.det hS.a.rows hF hF2
      subst e1 e2 e3
      obtain ⟨hS', hlR⟩ := hS.free hF
      clear hF hF2
      have hl' : N = R'.length := by rw [hlR]; exact hl
      conv => cbv
      refine Br.mk (fun g => ?_) (fun g => ?_)
      case refine_2 =>
        have gf : False := g rfl
        cases gf
      conv => cbv
      refine Joined.mk _ (Re.of [(0, 0), (1, 1), (2, 2), (3, 3), (4, 4), (5, 5), (6, 6), (7, 7), (8, 8), (9, 9)] [] (by first | exact Nat.zero_le _ | exact Nat.le_refl _ | decide | (dsimp only; decide)) rfl rfl (by (try (conv => cbv)); (repeat' (first | exact trivial | rfl | exact SEq.mk rfl | (exact SEq.mk (by first | assumption | (symm; assumption))) | (simp only [I.val]; done) | (simp only [I.val]; omega) | omega | assumption | (refine And.intro ?_ ?_) | exact Or.inl rfl | exact Or.inr (by assumption) | exact List.Mem.head _ | exact List.Mem.tail _ (List.Mem.head _) | exact ⟨_, rfl⟩ | exact ⟨_, rfl, Or.inl rfl⟩ | (refine ⟨_, rfl, Or.inr ?_⟩; (try (conv => cbv))) | (simp only [I.val] at *; first | omega | (subst_vars; rfl) | simp_all) | (refine Or.inr ?_; (try (conv => cbv)))))) (by (try (conv => cbv)); (repeat' (first | exact trivial | rfl | exact SEq.mk rfl | (exact SEq.mk (by first | assumption | (symm; assumption))) | (simp only [I.val]; done) | (simp only [I.val]; omega) | omega | assumption | (refine And.intro ?_ ?_) | exact Or.inl rfl | exact Or.inr (by assumption) | exact List.Mem.head _ | exact List.Mem.tail _ (List.Mem.head _) | exact ⟨_, rfl⟩ | exact ⟨_, rfl, Or.inl rfl⟩ | (refine ⟨_, rfl, Or.inr ?_⟩; (try (conv => cbv))) | (simp only [I.val] at *; first | omega | (subst_vars; rfl) | simp_all) | (refine Or.inr ?_; (try (conv => cbv))))))) ⟨L', D, C', B', V, R', ws, vs, rfl, hS', hl', hL', hD, hC', hB', hV⟩
    · have q1 : ¬ ok = 1 := q1
      conv => cbv
      refine Br.mk (fun q4 => ?_) (fun q4 => ?_)
      · have q4 : ok = 4 := q4
        conv => cbv
        refine drawn_sound tok (by kernel_rfl) [(3, [6, 5, 4]), (7, [])] [0, 1, 2, 4, 5, 6, 3, 7, 8, 9] (by kernel_rfl) ?_; conv => cbv
        refine callF_frame (freeA_lx at_ R ws N W L D hL hD hl hR9 hS.a hW) [(0, 0), (1, 1), (2, 2), (3, 3)] rfl (by simp [hmapOk, nget, hget, renB, okB, renV, renVs, rn, okVs, okV]) rfl rfl (fun r h' n' hrr => ?_)
        obtain ⟨e, R', L', e1, e2, e3, hL', hF⟩ := hrr
        subst e1 e2 e3
        conv => cbv
        refine callF_frame (rfreeA_lx R vs N at_ W C B V hC hB hV hl hR9 hS.b hW) [(0, 4), (1, 5), (2, 6), (3, 7), (4, 8)] rfl (by simp [hmapOk, nget, hget, renB, okB, renV, renVs, rn, okVs, okV]) rfl rfl (fun r h' n' hrr => ?_)
        obtain ⟨f, R2, C', B', e1, e2, e3, hC', hB', hF2⟩ := hrr
        obtain ⟨rfl, rfl⟩ := Freet.det hS.a.rows hF hF2
        subst e1 e2 e3
        obtain ⟨hS', hlR⟩ := hS.free hF
        clear hF hF2
        have hl' : N = R'.length := by rw [hlR]; exact hl
        conv => cbv
        refine Br.mk (fun g => ?_) (fun g => ?_)
        case refine_2 =>
          have gf : False := g rfl
          cases gf
        conv => cbv
        refine Joined.mk _ (Re.of [(0, 0), (1, 1), (2, 2), (3, 3), (4, 4), (5, 5), (6, 6), (7, 7), (8, 8), (9, 9)] [] (by first | exact Nat.zero_le _ | exact Nat.le_refl _ | decide | (dsimp only; decide)) rfl rfl (by (try (conv => cbv)); (repeat' (first | exact trivial | rfl | exact SEq.mk rfl | (exact SEq.mk (by first | assumption | (symm; assumption))) | (simp only [I.val]; done) | (simp only [I.val]; omega) | omega | assumption | (refine And.intro ?_ ?_) | exact Or.inl rfl | exact Or.inr (by assumption) | exact List.Mem.head _ | exact List.Mem.tail _ (List.Mem.head _) | exact ⟨_, rfl⟩ | exact ⟨_, rfl, Or.inl rfl⟩ | (refine ⟨_, rfl, Or.inr ?_⟩; (try (conv => cbv))) | (simp only [I.val] at *; first | omega | (subst_vars; rfl) | simp_all) | (refine Or.inr ?_; (try (conv => cbv)))))) (by (try (conv => cbv)); (repeat' (first | exact trivial | rfl | exact SEq.mk rfl | (exact SEq.mk (by first | assumption | (symm; assumption))) | (simp only [I.val]; done) | (simp only [I.val]; omega) | omega | assumption | (refine And.intro ?_ ?_) | exact Or.inl rfl | exact Or.inr (by assumption) | exact List.Mem.head _ | exact List.Mem.tail _ (List.Mem.head _) | exact ⟨_, rfl⟩ | exact ⟨_, rfl, Or.inl rfl⟩ | (refine ⟨_, rfl, Or.inr ?_⟩; (try (conv => cbv))) | (simp only [I.val] at *; first | omega | (subst_vars; rfl) | simp_all) | (refine Or.inr ?_; (try (conv => cbv))))))) ⟨L', D, C', B', V, R', ws, vs, rfl, hS', hl', hL', hD, hC', hB', hV⟩
      · have q4 : ¬ ok = 4 := q4
        conv => cbv
        refine Br.mk (fun q2 => ?_) (fun q2 => ?_)
        · have q2 : ok = 2 := q2
          conv => cbv
          refine drawn_sound tok (by kernel_rfl) [(7, [14, 13, 12, 11, 10, 9, 8]), (15, [])] [0, 1, 2, 3, 4, 5, 6, 8, 9, 10, 11, 12, 13, 14, 7, 15, 16, 17] (by kernel_rfl) ?_; conv => cbv
          refine callF_frame (store_lx oi ow R ws N at_ W L D hL hD hl hR9 hS.a hW) [(0, 0), (1, 1), (2, 2), (3, 3)] rfl (by simp [hmapOk, nget, hget, renB, okB, renV, renVs, rn, okVs, okV]) rfl rfl (fun r h' n' hrr => ?_)
          obtain ⟨e, ws', D', e1, e2, e3, hD', hT⟩ := hrr
          subst e1 e2 e3
          conv => cbv
          refine callF_frame (rstore_lx oi ow R vs N at_ W C B V hC hB hV hl hR9 hS.b hW) [(0, 4), (1, 5), (2, 6), (3, 7), (4, 8)] rfl (by simp [hmapOk, nget, hget, renB, okB, renV, renVs, rn, okVs, okV]) rfl rfl (fun r h' n' hrr => ?_)
          obtain ⟨f, vs', V', e1, e2, e3, hV', hT2⟩ := hrr
          subst e1 e2 e3
          obtain ⟨rfl, hS'⟩ := hS.store how hT hT2
          clear hT hT2
          conv => cbv
          refine Br.mk (fun g => ?_) (fun g => ?_)
          case refine_2 =>
            have gf : False := g rfl
            cases gf
          conv => cbv
          refine Joined.mk _ (Re.of [(0, 0), (1, 1), (2, 2), (3, 3), (4, 4), (5, 5), (6, 6), (7, 7), (8, 8), (9, 9)] [] (by first | exact Nat.zero_le _ | exact Nat.le_refl _ | decide | (dsimp only; decide)) rfl rfl (by (try (conv => cbv)); (repeat' (first | exact trivial | rfl | exact SEq.mk rfl | (exact SEq.mk (by first | assumption | (symm; assumption))) | (simp only [I.val]; done) | (simp only [I.val]; omega) | omega | assumption | (refine And.intro ?_ ?_) | exact Or.inl rfl | exact Or.inr (by assumption) | exact List.Mem.head _ | exact List.Mem.tail _ (List.Mem.head _) | exact ⟨_, rfl⟩ | exact ⟨_, rfl, Or.inl rfl⟩ | (refine ⟨_, rfl, Or.inr ?_⟩; (try (conv => cbv))) | (simp only [I.val] at *; first | omega | (subst_vars; rfl) | simp_all) | (refine Or.inr ?_; (try (conv => cbv)))))) (by (try (conv => cbv)); (repeat' (first | exact trivial | rfl | exact SEq.mk rfl | (exact SEq.mk (by first | assumption | (symm; assumption))) | (simp only [I.val]; done) | (simp only [I.val]; omega) | omega | assumption | (refine And.intro ?_ ?_) | exact Or.inl rfl | exact Or.inr (by assumption) | exact List.Mem.head _ | exact List.Mem.tail _ (List.Mem.head _) | exact ⟨_, rfl⟩ | exact ⟨_, rfl, Or.inl rfl⟩ | (refine ⟨_, rfl, Or.inr ?_⟩; (try (conv => cbv))) | (simp only [I.val] at *; first | omega | (subst_vars; rfl) | simp_all) | (refine Or.inr ?_; (try (conv => cbv))))))) ⟨L, D', C, B, V', R, ws', vs', rfl, hS', hl, hL, hD', hC, hB, hV'⟩
        · have q2 : ¬ ok = 2 := q2
          conv => cbv
          refine Br.mk (fun q3 => ?_) (fun q3 => ?_)
          · have q3 : ok = 3 := q3
            conv => cbv
            refine drawn_sound tok (by kernel_rfl) [(7, [14, 13, 12, 11, 10, 9, 8]), (15, [])] [0, 1, 2, 3, 4, 5, 6, 8, 9, 10, 11, 12, 13, 14, 7, 15, 16, 17] (by kernel_rfl) ?_; conv => cbv
            refine callF_frame (store_lx oi ow R ws N at_ W L D hL hD hl hR9 hS.a hW) [(0, 0), (1, 1), (2, 2), (3, 3)] rfl (by simp [hmapOk, nget, hget, renB, okB, renV, renVs, rn, okVs, okV]) rfl rfl (fun r h' n' hrr => ?_)
            obtain ⟨e, ws', D', e1, e2, e3, hD', hT⟩ := hrr
            subst e1 e2 e3
            conv => cbv
            refine callF_frame (rstore_lx oi ow R vs N at_ W C B V hC hB hV hl hR9 hS.b hW) [(0, 4), (1, 5), (2, 6), (3, 7), (4, 8)] rfl (by simp [hmapOk, nget, hget, renB, okB, renV, renVs, rn, okVs, okV]) rfl rfl (fun r h' n' hrr => ?_)
            obtain ⟨f, vs', V', e1, e2, e3, hV', hT2⟩ := hrr
            subst e1 e2 e3
            obtain ⟨rfl, hS'⟩ := hS.store how hT hT2
            clear hT hT2
            conv => cbv
            refine Br.mk (fun g => ?_) (fun g => ?_)
            case refine_2 =>
              have gf : False := g rfl
              cases gf
            conv => cbv
            refine Joined.mk _ (Re.of [(0, 0), (1, 1), (2, 2), (3, 3), (4, 4), (5, 5), (6, 6), (7, 7), (8, 8), (9, 9)] [] (by first | exact Nat.zero_le _ | exact Nat.le_refl _ | decide | (dsimp only; decide)) rfl rfl (by (try (conv => cbv)); (repeat' (first | exact trivial | rfl | exact SEq.mk rfl | (exact SEq.mk (by first | assumption | (symm; assumption))) | (simp only [I.val]; done) | (simp only [I.val]; omega) | omega | assumption | (refine And.intro ?_ ?_) | exact Or.inl rfl | exact Or.inr (by assumption) | exact List.Mem.head _ | exact List.Mem.tail _ (List.Mem.head _) | exact ⟨_, rfl⟩ | exact ⟨_, rfl, Or.inl rfl⟩ | (refine ⟨_, rfl, Or.inr ?_⟩; (try (conv => cbv))) | (simp only [I.val] at *; first | omega | (subst_vars; rfl) | simp_all) | (refine Or.inr ?_; (try (conv => cbv)))))) (by (try (conv => cbv)); (repeat' (first | exact trivial | rfl | exact SEq.mk rfl | (exact SEq.mk (by first | assumption | (symm; assumption))) | (simp only [I.val]; done) | (simp only [I.val]; omega) | omega | assumption | (refine And.intro ?_ ?_) | exact Or.inl rfl | exact Or.inr (by assumption) | exact List.Mem.head _ | exact List.Mem.tail _ (List.Mem.head _) | exact ⟨_, rfl⟩ | exact ⟨_, rfl, Or.inl rfl⟩ | (refine ⟨_, rfl, Or.inr ?_⟩; (try (conv => cbv))) | (simp only [I.val] at *; first | omega | (subst_vars; rfl) | simp_all) | (refine Or.inr ?_; (try (conv => cbv))))))) ⟨L, D', C, B, V', R, ws', vs', rfl, hS', hl, hL, hD', hC, hB, hV'⟩
          · have q3 : ¬ ok = 3 := q3
            conv => cbv
            refine callF_frame (allocA_lx oo on R ws N W L D hL hD hl hR9 hS.a hW) [(0, 0), (1, 1), (2, 2), (3, 3)] rfl (by simp [hmapOk, nget, hget, renB, okB, renV, renVs, rn, okVs, okV]) rfl rfl (fun r h' n' hrr => ?_)
            obtain ⟨x1, f1, R', ws', L', D', e1, e2, e3, hL', hD', hT⟩ := hrr
            subst e1 e2 e3
            conv => cbv
            refine callF_frame (rallocA_lx oo on R vs N W C B V hC hB hV hl hR9 hS.b hW) [(0, 4), (1, 5), (2, 6), (3, 7), (4, 8)] rfl (by simp [hmapOk, nget, hget, renB, okB, renV, renVs, rn, okVs, okV]) rfl rfl (fun r h' n' hrr => ?_)
            obtain ⟨x2, f2, R2, vs', C', B', V', e1, e2, e3, hC', hB', hV', hT2⟩ := hrr
            subst e1 e2 e3
            obtain ⟨rfl, rfl, rfl, hS', hlR⟩ := hS.alloc hT hT2
            have hl' : N = R'.length := by rw [hlR]; exact hl
            clear hT hT2
            conv => cbv
            refine Br.mk (fun g => ?_) (fun g => ?_)
            case refine_2 =>
              have gf : False := g rfl
              cases gf
            conv => cbv
            refine Br.mk (fun g => ?_) (fun g => ?_)
            case refine_2 =>
              have gf : False := g rfl
              cases gf
            conv => cbv
            refine Joined.mk _ (Re.of [(0, 0), (1, 1), (2, 2), (3, 3), (4, 4), (5, 5), (6, 6), (7, 7), (8, 8), (9, 9)] [] (by first | exact Nat.zero_le _ | exact Nat.le_refl _ | decide | (dsimp only; decide)) rfl rfl (by (try (conv => cbv)); (repeat' (first | exact trivial | rfl | exact SEq.mk rfl | (exact SEq.mk (by first | assumption | (symm; assumption))) | (simp only [I.val]; done) | (simp only [I.val]; omega) | omega | assumption | (refine And.intro ?_ ?_) | exact Or.inl rfl | exact Or.inr (by assumption) | exact List.Mem.head _ | exact List.Mem.tail _ (List.Mem.head _) | exact ⟨_, rfl⟩ | exact ⟨_, rfl, Or.inl rfl⟩ | (refine ⟨_, rfl, Or.inr ?_⟩; (try (conv => cbv))) | (simp only [I.val] at *; first | omega | (subst_vars; rfl) | simp_all) | (refine Or.inr ?_; (try (conv => cbv)))))) (by (try (conv => cbv)); (repeat' (first | exact trivial | rfl | exact SEq.mk rfl | (exact SEq.mk (by first | assumption | (symm; assumption))) | (simp only [I.val]; done) | (simp only [I.val]; omega) | omega | assumption | (refine And.intro ?_ ?_) | exact Or.inl rfl | exact Or.inr (by assumption) | exact List.Mem.head _ | exact List.Mem.tail _ (List.Mem.head _) | exact ⟨_, rfl⟩ | exact ⟨_, rfl, Or.inl rfl⟩ | (refine ⟨_, rfl, Or.inr ?_⟩; (try (conv => cbv))) | (simp only [I.val] at *; first | omega | (subst_vars; rfl) | simp_all) | (refine Or.inr ?_; (try (conv => cbv))))))) ⟨L', D', C', B', V', R', ws', vs', rfl, hS', hl', hL', hD', hC', hB', hV'⟩
  rintro s ⟨L', D', C', B', V', R', ws', vs', rfl, hS', hl', hL', hD', hC', hB', hV'⟩
  clear hS hl hL hD hC hB hV hR9 hm hm0 m R ws vs L D C B V O how
  conv => cbv
  have hR9' : R'.length ≤ 1000 := by omega
  obtain ⟨m', hm'⟩ : ∃ m' : Int, m' = objCount R' := ⟨_, rfl⟩
  have hm56 : 0 ≤ m' ∧ m' ≤ 56 := by have h8 := objsTo_le R' R'.length; rw [objs_length hS'.a.rows] at h8; omega
  obtain ⟨As, hAs⟩ : ∃ As, As = objsTo R' R'.length := ⟨_, rfl⟩
  have hAl : m' = As.length := by rw [hAs, objs_length hS'.a.rows]; exact hm'
  obtain ⟨v, hv⟩ : ∃ v, v = wsum R' := ⟨_, rfl⟩
  refine callF_frame (robjects_lx m' R' vs' N W C' B' V' hC' hB' hV' hl' hR9' hS'.b hW hm') [(0, 4), (1, 5), (2, 6), (3, 7), (4, 8)] rfl (by simp [hmapOk, nget, hget, renB, okB, renV, renVs, rn, okVs, okV]) rfl rfl (fun r h' n' hrr => ?_)
  obtain ⟨O', e1, e2, e3, hO'⟩ := hrr
  rw [← hAs] at hO'
  subst e1 e2 e3
  conv => cbv
  refine drawn_sound tok (by kernel_rfl) [(4, [5]), (6, []), (11, [15, 14, 13, 12]), (16, []), (21, [26, 25, 24, 23, 22]), (33, [36, 35, 34]), (37, []), (44, [47, 46, 45]), (48, [])] [0, 1, 2, 3, 5, 4, 6, 7, 8, 9, 10, 12, 13, 14, 15, 11, 16, 17, 18, 19, 20, 22, 23, 24, 25, 26, 21, 27, 28, 29, 30, 31, 32, 34, 35, 36, 33, 37, 38, 39, 40, 41, 42, 43, 45, 46, 47, 44, 48, 49, 50] (drawnOKF_ok (by kernel_rfl)) ?_; conv => cbv
  refine callF_frame (objects_lx m' R' N W L' D' hL' hl' hR9' hS'.a.rows hW hm') [(0, 0), (1, 1), (2, 2), (3, 3)] rfl (by simp [hmapOk, nget, hget, renB, okB, renV, renVs, rn, okVs, okV]) rfl rfl (fun r h' n' hrr => ?_)
  obtain ⟨O2, e1, e2, e3, hO2⟩ := hrr
  rw [← hAs] at hO2
  subst e1 e2 e3
  conv => cbv
  refine callF_lend (plainI_true As m' O2 O' hAl hO2 hO' (by omega)) (by simp [lends, lendV, hget, I.val, pvle]) (fun r h' n' ⟨e1, e2, e3⟩ => by subst e1 e2; exact ⟨trivial, trivial⟩) (fun r h' n' ⟨e1, e2, e3⟩ => ?_)
  subst e1 e2 e3
  conv => cbv
  refine callF_frame (usedA_lx R' ws' N W L' D' hL' hD' hl' hR9' hS'.a hW v hv) [(0, 0), (1, 1), (2, 2), (3, 3)] rfl (by simp [hmapOk, nget, hget, renB, okB, renV, renVs, rn, okVs, okV]) rfl rfl (fun r h' n' ⟨e1, e2, e3⟩ => ?_)
  subst e1 e2 e3
  conv => cbv
  refine callF_frame (rwords_lx R' N C' B' hC' hB' hl' hR9' (rok_of hS'.a.rows) v hv) [(0, 5), (1, 6), (2, 7)] rfl (by simp [hmapOk, nget, hget, renB, okB, renV, renVs, rn, okVs, okV]) rfl rfl (fun r h' n' ⟨e1, e2, e3⟩ => ?_)
  subst e1 e2 e3
  conv => cbv
  refine Br.mk (fun g => ?_) (fun g => ?_)
  case refine_1 =>
    have gf : False := g rfl
    cases gf
  conv => cbv
  refine callF_frame (wordsA_lx R' ws' N W L' D' hL' hD' hl' hR9' hS'.a hW) [(0, 0), (1, 1), (2, 2), (3, 3)] rfl (by simp [hmapOk, nget, hget, renB, okB, renV, renVs, rn, okVs, okV]) rfl rfl (fun r h' n' ⟨e1, e2, e3⟩ => ?_)
  subst e1 e2 e3
  conv => cbv
  refine Br.mk (fun g => ?_) (fun g => ?_)
  case refine_1 =>
    have gf : False := g rfl
    cases gf
  conv => cbv
  refine callF_frame (kind_lx R' ws' N at_ W L' D' hL' hD' hl' hR9' hS'.a hW) [(0, 0), (1, 1), (2, 2), (3, 3)] rfl (by simp [hmapOk, nget, hget, renB, okB, renV, renVs, rn, okVs, okV]) rfl rfl (fun r h' n' hrr => ?_)
  obtain ⟨x1, e1, e2, e3, hx1⟩ := hrr
  subst e1 e2 e3
  conv => cbv
  refine callF_frame (rkind_lx R' vs' N at_ W C' B' V' hC' hB' hV' hl' hR9' hS'.b hW) [(0, 4), (1, 5), (2, 6), (3, 7), (4, 8)] rfl (by simp [hmapOk, nget, hget, renB, okB, renV, renVs, rn, okVs, okV]) rfl rfl (fun r h' n' hrr => ?_)
  obtain ⟨x2, e1, e2, e3, hx2⟩ := hrr
  subst e1 e2 e3
  obtain rfl := hS'.kind hx1 hx2
  clear hx1 hx2
  conv => cbv
  refine Br.mk (fun g => ?_) (fun g => ?_)
  case refine_1 =>
    have gf : False := g rfl
    cases gf
  conv => cbv
  refine callF_frame (len_lx R' ws' N at_ W L' D' hL' hD' hl' hR9' hS'.a hW) [(0, 0), (1, 1), (2, 2), (3, 3)] rfl (by simp [hmapOk, nget, hget, renB, okB, renV, renVs, rn, okVs, okV]) rfl rfl (fun r h' n' hrr => ?_)
  obtain ⟨x2, e1, e2, e3, hx1⟩ := hrr
  subst e1 e2 e3
  conv => cbv
  refine callF_frame (rlen_lx R' vs' N at_ W C' B' V' hC' hB' hV' hl' hR9' hS'.b hW) [(0, 4), (1, 5), (2, 6), (3, 7), (4, 8)] rfl (by simp [hmapOk, nget, hget, renB, okB, renV, renVs, rn, okVs, okV]) rfl rfl (fun r h' n' hrr => ?_)
  obtain ⟨x3, e1, e2, e3, hx2⟩ := hrr
  subst e1 e2 e3
  obtain rfl := hS'.len hx1 hx2
  clear hx1 hx2
  conv => cbv
  refine Br.mk (fun g => ?_) (fun g => ?_)
  case refine_1 =>
    have gf : False := g rfl
    cases gf
  conv => cbv
  refine LoopF.mk (fun km s => ∃ k : Int, s = ⟨.p (.int .i64 (.sym N)) :: .p (.vsl (.sym k1) true L1) :: (undefs 3 ++ .ptr 0 (.lit 0) :: .undef :: .ptr 4 (.lit 0) :: .undef :: .p (.int .i64 (.sym i)) :: .ptr 9 (.lit 0) :: .sl 10 3 1 (.lit 0) (.sym m') :: (undefs 5 ++ .p (.int .i64 (.sym k)) :: undefs 274)), [(0, .mix [.ptr 1 (.lit 0), .sl 3 3 1 (.lit 0) (.sym W)]), (1, .mix [.sl 2 79 2 (.lit 0) (.sym N)]), (2, .pure true L'), (3, .pure true D'), (4, .mix [.ptr 5 (.lit 0), .sl 8 3 1 (.lit 0) (.sym W)]), (5, .mix [.sl 6 3 1 (.lit 0) (.sym N), .sl 7 70 8 (.lit 0) (.sym N)]), (6, .pure true C'), (7, .pure true B'), (8, .pure true V'), (9, .pure false [.int .i64 (.sym ok), .int .i64 (.sym oo), .int .i64 (.sym on), .int .i64 (.sym at_), .int .i64 (.sym oi), .int .i64 (.sym ow)]), (10, .pure true O')], 11⟩ ∧ 0 ≤ k ∧ k ≤ m' ∧ km = (m' - k).toNat) m'.toNat _
    (Re.of [(0, 0), (1, 1), (2, 2), (3, 3), (4, 4), (5, 5), (6, 6), (7, 7), (8, 8), (9, 9), (10, 10)] [] (by first | exact Nat.zero_le _ | exact Nat.le_refl _ | decide | (dsimp only; decide)) rfl rfl (by (try (conv => cbv)); (repeat' (first | exact trivial | rfl | exact SEq.mk rfl | (exact SEq.mk (by first | assumption | (symm; assumption))) | (simp only [I.val]; done) | (simp only [I.val]; omega) | omega | assumption | (refine And.intro ?_ ?_) | exact Or.inl rfl | exact Or.inr (by assumption) | exact List.Mem.head _ | exact List.Mem.tail _ (List.Mem.head _) | exact ⟨_, rfl⟩ | exact ⟨_, rfl, Or.inl rfl⟩ | (refine ⟨_, rfl, Or.inr ?_⟩; (try (conv => cbv))) | (simp only [I.val] at *; first | omega | (subst_vars; rfl) | simp_all) | (refine Or.inr ?_; (try (conv => cbv)))))) (by (try (conv => cbv)); (repeat' (first | exact trivial | rfl | exact SEq.mk rfl | (exact SEq.mk (by first | assumption | (symm; assumption))) | (simp only [I.val]; done) | (simp only [I.val]; omega) | omega | assumption | (refine And.intro ?_ ?_) | exact Or.inl rfl | exact Or.inr (by assumption) | exact List.Mem.head _ | exact List.Mem.tail _ (List.Mem.head _) | exact ⟨_, rfl⟩ | exact ⟨_, rfl, Or.inl rfl⟩ | (refine ⟨_, rfl, Or.inr ?_⟩; (try (conv => cbv))) | (simp only [I.val] at *; first | omega | (subst_vars; rfl) | simp_all) | (refine Or.inr ?_; (try (conv => cbv))))))) ⟨0, rfl, by omega, by omega, by omega⟩ ?_
  rintro km s ⟨k, rfl, hk0, hk1, hkm⟩
  conv => cbv
  refine Br.mk (fun gk => ?_) (fun gk => ?_)
  · have gk : k < m' := gk
    obtain ⟨km', rfl⟩ : ∃ k', km = k' + 1 := ⟨km - 1, by omega⟩
    obtain ⟨a, ha⟩ : ∃ a, As[k.toNat]? = some a := ⟨_, List.getElem?_eq_getElem (by omega)⟩
    have hcK : O'[k.toNat]? = some (.int .i64 (.sym a)) := by rw [hO']; exact ipv_get ha
    have haO : IsObj R' a := (objs_mem hS'.a.rows a).1 (hAs ▸ List.mem_of_getElem? ha)
    obtain ⟨kk0, ll0, hKv⟩ := Kept.of hS'.b haO
    have hll := hKv.bounds hS'.b
    conv => cbv
    refine LoopF.mk (fun kq s => ∃ q : Int, s = ⟨.p (.int .i64 (.sym N)) :: .p (.vsl (.sym k1) true L1) :: (undefs 3 ++ .ptr 0 (.lit 0) :: .undef :: .ptr 4 (.lit 0) :: .undef :: .p (.int .i64 (.sym i)) :: .ptr 9 (.lit 0) :: .sl 10 3 1 (.lit 0) (.sym m') :: (undefs 5 ++ .p (.int .i64 (.sym k)) :: .p (.int .i64 (.sym q)) :: undefs 273)), [(0, .mix [.ptr 1 (.lit 0), .sl 3 3 1 (.lit 0) (.sym W)]), (1, .mix [.sl 2 79 2 (.lit 0) (.sym N)]), (2, .pure true L'), (3, .pure true D'), (4, .mix [.ptr 5 (.lit 0), .sl 8 3 1 (.lit 0) (.sym W)]), (5, .mix [.sl 6 3 1 (.lit 0) (.sym N), .sl 7 70 8 (.lit 0) (.sym N)]), (6, .pure true C'), (7, .pure true B'), (8, .pure true V'), (9, .pure false [.int .i64 (.sym ok), .int .i64 (.sym oo), .int .i64 (.sym on), .int .i64 (.sym at_), .int .i64 (.sym oi), .int .i64 (.sym ow)]), (10, .pure true O')], 11⟩ ∧ -1 ≤ q ∧ q ≤ 32 ∧ kq = (32 - q).toNat) 33 _
      (Re.of [(0, 0), (1, 1), (2, 2), (3, 3), (4, 4), (5, 5), (6, 6), (7, 7), (8, 8), (9, 9), (10, 10)] [] (by first | exact Nat.zero_le _ | exact Nat.le_refl _ | decide | (dsimp only; decide)) rfl rfl (by (try (conv => cbv)); (repeat' (first | exact trivial | rfl | exact SEq.mk rfl | (exact SEq.mk (by first | assumption | (symm; assumption))) | (simp only [I.val]; done) | (simp only [I.val]; omega) | omega | assumption | (refine And.intro ?_ ?_) | exact Or.inl rfl | exact Or.inr (by assumption) | exact List.Mem.head _ | exact List.Mem.tail _ (List.Mem.head _) | exact ⟨_, rfl⟩ | exact ⟨_, rfl, Or.inl rfl⟩ | (refine ⟨_, rfl, Or.inr ?_⟩; (try (conv => cbv))) | (simp only [I.val] at *; first | omega | (subst_vars; rfl) | simp_all) | (refine Or.inr ?_; (try (conv => cbv)))))) (by (try (conv => cbv)); (repeat' (first | exact trivial | rfl | exact SEq.mk rfl | (exact SEq.mk (by first | assumption | (symm; assumption))) | (simp only [I.val]; done) | (simp only [I.val]; omega) | omega | assumption | (refine And.intro ?_ ?_) | exact Or.inl rfl | exact Or.inr (by assumption) | exact List.Mem.head _ | exact List.Mem.tail _ (List.Mem.head _) | exact ⟨_, rfl⟩ | exact ⟨_, rfl, Or.inl rfl⟩ | (refine ⟨_, rfl, Or.inr ?_⟩; (try (conv => cbv))) | (simp only [I.val] at *; first | omega | (subst_vars; rfl) | simp_all) | (refine Or.inr ?_; (try (conv => cbv))))))) ⟨-1, rfl, by omega, by omega, by omega⟩ ?_
    rintro kq s ⟨q, rfl, hq0, hq1, hkq⟩
    conv => cbv
    refine Need.mk ⟨hk0, gk⟩ ?_
    conv => cbv
    refine Cell.at k _ hcK (by simp [I.val]) rfl ?_
    conv => cbv
    refine callF_frame (rlen_lx R' vs' N a W C' B' V' hC' hB' hV' hl' hR9' hS'.b hW) [(0, 4), (1, 5), (2, 6), (3, 7), (4, 8)] rfl (by simp [hmapOk, nget, hget, renB, okB, renV, renVs, rn, okVs, okV]) rfl rfl (fun r h' n' hrr => ?_)
    obtain ⟨y, e1, e2, e3, hy⟩ := hrr
    subst e1 e2 e3
    obtain rfl := lenR_of6 hKv hy
    conv => cbv
    refine Br.mk (fun gq => ?_) (fun gq => ?_)
    · have gq : q ≤ y := gq
      obtain ⟨kq', rfl⟩ : ∃ k', kq = k' + 1 := ⟨kq - 1, by omega⟩
      conv => cbv
      refine Need.mk ⟨hk0, gk⟩ ?_
      conv => cbv
      refine Cell.at k _ hcK (by simp [I.val]) rfl ?_
      conv => cbv
      refine callF_frame (load_lx q R' ws' N a W L' D' hL' hD' hl' hR9' hS'.a hW) [(0, 0), (1, 1), (2, 2), (3, 3)] rfl (by simp [hmapOk, nget, hget, renB, okB, renV, renVs, rn, okVs, okV]) rfl rfl (fun r h' n' hrr => ?_)
      obtain ⟨x2, g2, e1, e2, e3, hx1⟩ := hrr
      subst e1 e2 e3
      conv => cbv
      refine Need.mk ⟨hk0, gk⟩ ?_
      conv => cbv
      refine Cell.at k _ hcK (by simp [I.val]) rfl ?_
      conv => cbv
      refine callF_frame (rload_lx q R' vs' N a W C' B' V' hC' hB' hV' hl' hR9' hS'.b hW) [(0, 4), (1, 5), (2, 6), (3, 7), (4, 8)] rfl (by simp [hmapOk, nget, hget, renB, okB, renV, renVs, rn, okVs, okV]) rfl rfl (fun r h' n' hrr => ?_)
      obtain ⟨x3, g3, e1, e2, e3, hx2⟩ := hrr
      subst e1 e2 e3
      obtain ⟨rfl, rfl⟩ := hS'.load hx1 hx2
      clear hx1 hx2
      conv => cbv
      refine drawn_sound tok (by kernel_rfl) [(14, [19, 18, 17, 16, 15]), (20, [])] [0, 1, 2, 3, 4, 5, 6, 7, 8, 9, 10, 11, 12, 13, 15, 16, 17, 18, 19, 14, 20, 21, 22] (drawnOKF_ok (by kernel_rfl)) ?_; conv => cbv
      refine Br.mk (fun g => ?_) (fun g => ?_)
      case refine_1 =>
        have gf : False := g rfl
        cases gf
      conv => cbv
      refine Br.mk (fun g => ?_) (fun g => ?_)
      case refine_1 =>
        have gf : False := g rfl
        cases gf
      conv => cbv
      refine Need.mk ⟨hk0, gk⟩ ?_
      conv => cbv
      refine Cell.at k _ hcK (by simp [I.val]) rfl ?_
      conv => cbv
      refine Need.mk ⟨hk0, gk⟩ ?_
      conv => cbv
      refine Cell.at k _ hcK (by simp [I.val]) rfl ?_
      conv => cbv
      refine callF_frame (kind_lx R' ws' N a W L' D' hL' hD' hl' hR9' hS'.a hW) [(0, 0), (1, 1), (2, 2), (3, 3)] rfl (by simp [hmapOk, nget, hget, renB, okB, renV, renVs, rn, okVs, okV]) rfl rfl (fun r h' n' hrr => ?_)
      obtain ⟨x4, e1, e2, e3, hx1⟩ := hrr
      subst e1 e2 e3
      conv => cbv
      refine callF_frame (rkind_lx R' vs' N a W C' B' V' hC' hB' hV' hl' hR9' hS'.b hW) [(0, 4), (1, 5), (2, 6), (3, 7), (4, 8)] rfl (by simp [hmapOk, nget, hget, renB, okB, renV, renVs, rn, okVs, okV]) rfl rfl (fun r h' n' hrr => ?_)
      obtain ⟨x5, e1, e2, e3, hx2⟩ := hrr
      subst e1 e2 e3
      obtain rfl := hS'.kind hx1 hx2
      clear hx1 hx2
      conv => cbv
      refine Br.mk (fun g => ?_) (fun g => ?_)
      case refine_1 =>
        have gf : False := g rfl
        cases gf
      conv => cbv
      refine Fit.mk (by show (-9223372036854775808 : Int) ≤ q + 1; omega) (by show q + 1 ≤ 9223372036854775807; omega) fun q2 hq2 => ?_
      have hq2 : q2 = q + 1 := hq2
      conv => cbv
      refine Again.mk kq' _ (Nat.lt_succ_self _) (Re.of [(0, 0), (1, 1), (2, 2), (3, 3), (4, 4), (5, 5), (6, 6), (7, 7), (8, 8), (9, 9), (10, 10)] [] (by first | exact Nat.zero_le _ | exact Nat.le_refl _ | decide | (dsimp only; decide)) rfl rfl (by (try (conv => cbv)); (repeat' (first | exact trivial | rfl | exact SEq.mk rfl | (exact SEq.mk (by first | assumption | (symm; assumption))) | (simp only [I.val]; done) | (simp only [I.val]; omega) | omega | assumption | (refine And.intro ?_ ?_) | exact Or.inl rfl | exact Or.inr (by assumption) | exact List.Mem.head _ | exact List.Mem.tail _ (List.Mem.head _) | exact ⟨_, rfl⟩ | exact ⟨_, rfl, Or.inl rfl⟩ | (refine ⟨_, rfl, Or.inr ?_⟩; (try (conv => cbv))) | (simp only [I.val] at *; first | omega | (subst_vars; rfl) | simp_all) | (refine Or.inr ?_; (try (conv => cbv)))))) (by (try (conv => cbv)); (repeat' (first | exact trivial | rfl | exact SEq.mk rfl | (exact SEq.mk (by first | assumption | (symm; assumption))) | (simp only [I.val]; done) | (simp only [I.val]; omega) | omega | assumption | (refine And.intro ?_ ?_) | exact Or.inl rfl | exact Or.inr (by assumption) | exact List.Mem.head _ | exact List.Mem.tail _ (List.Mem.head _) | exact ⟨_, rfl⟩ | exact ⟨_, rfl, Or.inl rfl⟩ | (refine ⟨_, rfl, Or.inr ?_⟩; (try (conv => cbv))) | (simp only [I.val] at *; first | omega | (subst_vars; rfl) | simp_all) | (refine Or.inr ?_; (try (conv => cbv))))))) ⟨q2, rfl, by omega, by omega, by omega⟩
    · have gq : ¬ q ≤ y := gq
      conv => cbv
      refine Fit.mk (by show (-9223372036854775808 : Int) ≤ k + 1; omega) (by show k + 1 ≤ 9223372036854775807; omega) fun k2 hk2 => ?_
      have hk2 : k2 = k + 1 := hk2
      conv => cbv
      refine Again.mk km' _ (Nat.lt_succ_self _) (Re.of [(0, 0), (1, 1), (2, 2), (3, 3), (4, 4), (5, 5), (6, 6), (7, 7), (8, 8), (9, 9), (10, 10)] [] (by first | exact Nat.zero_le _ | exact Nat.le_refl _ | decide | (dsimp only; decide)) rfl rfl (by (try (conv => cbv)); (repeat' (first | exact trivial | rfl | exact SEq.mk rfl | (exact SEq.mk (by first | assumption | (symm; assumption))) | (simp only [I.val]; done) | (simp only [I.val]; omega) | omega | assumption | (refine And.intro ?_ ?_) | exact Or.inl rfl | exact Or.inr (by assumption) | exact List.Mem.head _ | exact List.Mem.tail _ (List.Mem.head _) | exact ⟨_, rfl⟩ | exact ⟨_, rfl, Or.inl rfl⟩ | (refine ⟨_, rfl, Or.inr ?_⟩; (try (conv => cbv))) | (simp only [I.val] at *; first | omega | (subst_vars; rfl) | simp_all) | (refine Or.inr ?_; (try (conv => cbv)))))) (by (try (conv => cbv)); (repeat' (first | exact trivial | rfl | exact SEq.mk rfl | (exact SEq.mk (by first | assumption | (symm; assumption))) | (simp only [I.val]; done) | (simp only [I.val]; omega) | omega | assumption | (refine And.intro ?_ ?_) | exact Or.inl rfl | exact Or.inr (by assumption) | exact List.Mem.head _ | exact List.Mem.tail _ (List.Mem.head _) | exact ⟨_, rfl⟩ | exact ⟨_, rfl, Or.inl rfl⟩ | (refine ⟨_, rfl, Or.inr ?_⟩; (try (conv => cbv))) | (simp only [I.val] at *; first | omega | (subst_vars; rfl) | simp_all) | (refine Or.inr ?_; (try (conv => cbv))))))) ⟨k2, rfl, by omega, by omega, by omega⟩
  · have gk : ¬ k < m' := gk
    conv => cbv
    refine callF_frame (load_lx oi R' ws' N at_ W L' D' hL' hD' hl' hR9' hS'.a hW) [(0, 0), (1, 1), (2, 2), (3, 3)] rfl (by simp [hmapOk, nget, hget, renB, okB, renV, renVs, rn, okVs, okV]) rfl rfl (fun r h' n' hrr => ?_)
    obtain ⟨x2, g2, e1, e2, e3, hx1⟩ := hrr
    subst e1 e2 e3
    conv => cbv
    refine callF_frame (rload_lx oi R' vs' N at_ W C' B' V' hC' hB' hV' hl' hR9' hS'.b hW) [(0, 4), (1, 5), (2, 6), (3, 7), (4, 8)] rfl (by simp [hmapOk, nget, hget, renB, okB, renV, renVs, rn, okVs, okV]) rfl rfl (fun r h' n' hrr => ?_)
    obtain ⟨x3, g3, e1, e2, e3, hx2⟩ := hrr
    subst e1 e2 e3
    obtain ⟨rfl, rfl⟩ := hS'.load hx1 hx2
    clear hx1 hx2
    conv => cbv
    refine Br.mk (fun g => ?_) (fun g => ?_)
    case refine_1 =>
      have gf : False := g rfl
      cases gf
    conv => cbv
    refine Br.mk (fun g => ?_) (fun g => ?_)
    case refine_1 =>
      have gf : False := g rfl
      cases gf
    conv => cbv
    refine Fit.mk (by show (-9223372036854775808 : Int) ≤ i + 1; omega) (by show i + 1 ≤ 9223372036854775807; omega) fun i2 hi2 => ?_
    have hi2 : i2 = i + 1 := hi2
    conv => cbv
    refine Again.mk k' _ (Nat.lt_succ_self _) (Re.of [(0, 0), (1, 1), (2, 2), (3, 3), (4, 4), (5, 5), (6, 6), (7, 7), (8, 8)] [] (by first | exact Nat.zero_le _ | exact Nat.le_refl _ | decide | (dsimp only; decide)) rfl rfl (by (try (conv => cbv)); (repeat' (first | exact trivial | rfl | exact SEq.mk rfl | (exact SEq.mk (by first | assumption | (symm; assumption))) | (simp only [I.val]; done) | (simp only [I.val]; omega) | omega | assumption | (refine And.intro ?_ ?_) | exact Or.inl rfl | exact Or.inr (by assumption) | exact List.Mem.head _ | exact List.Mem.tail _ (List.Mem.head _) | exact ⟨_, rfl⟩ | exact ⟨_, rfl, Or.inl rfl⟩ | (refine ⟨_, rfl, Or.inr ?_⟩; (try (conv => cbv))) | (simp only [I.val] at *; first | omega | (subst_vars; rfl) | simp_all) | (refine Or.inr ?_; (try (conv => cbv)))))) (by (try (conv => cbv)); (repeat' (first | exact trivial | rfl | exact SEq.mk rfl | (exact SEq.mk (by first | assumption | (symm; assumption))) | (simp only [I.val]; done) | (simp only [I.val]; omega) | omega | assumption | (refine And.intro ?_ ?_) | exact Or.inl rfl | exact Or.inr (by assumption) | exact List.Mem.head _ | exact List.Mem.tail _ (List.Mem.head _) | exact ⟨_, rfl⟩ | exact ⟨_, rfl, Or.inl rfl⟩ | (refine ⟨_, rfl, Or.inr ?_⟩; (try (conv => cbv))) | (simp only [I.val] at *; first | omega | (subst_vars; rfl) | simp_all) | (refine Or.inr ?_; (try (conv => cbv))))))) ⟨i2, L', D', C', B', V', R', ws', vs', rfl, hS', hl', hL', hD', hC', hB', hV', by omega, by omega, by omega⟩
end Go.Proofs.Ytlakoemonbadiaa
