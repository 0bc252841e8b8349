/-
  Layer 3: the reference's Valid.
-/
import Derived.Test.YtfjdifeofnpcnaaDoorCd0

namespace Go.Proofs.YtfjdifeofnpcnaaDoor

open Go Go.LX
set_option maxRecDepth 100000
set_option linter.unusedVariables false
set_option linter.unusedSimpArgs false

set_option maxHeartbeats 8000000 in
theorem shaped1_2 (X : Is) (op a b n : Int) (h1 : op = X.op) (h2 : a = X.a) (h3 : b = X.b) (h4 : n = X.n) (hcs : X.cs = []) (hsh : shapeV op = [110]) : CallF (fun _ => Tryd.prog) 40 [.agg [.p (.int .i64 (.sym op)), .p (.int .i64 (.sym a)), .p (.int .i64 (.sym b)), .p (.int .i64 (.sym n)), .p (.vsl (.sym 0) true [])]] [] 0 (fun r h n' => (∃ q : Bool, r = .p (.bool q) ∧ (q = true ↔ Shp X)) ∧ h = [] ∧ n' = 0) := by
  refine callF_of_body tok Tryd.func40 (by kernel_rfl) rfl rfl rfl ?_; conv => cbv
  refine Br.mk (fun g => ?_) (fun g => ?_)
  · have g : op = 21 := g
    have gf : False := by rw [g] at hsh; exact absurd hsh (by decide)
    cases gf
  · have g : ¬ op = 21 := g
    conv => cbv
    refine callF_frame forms_lx [] rfl trivial rfl rfl (fun r2 h' n' ⟨e1, e2, e3⟩ => ?_)
    subst e1 e2 e3
    obtain ⟨FV, hFV⟩ : ∃ FV, FV = formsV := ⟨_, rfl⟩
    rw [← hFV]
    conv => cbv
    refine LoopF.mk (fun kk st => ∃ i : Int, st = ⟨.undef :: .ptr 0 (.lit 0) :: (undefs 4 ++ .p (.vsl (.sym 21) true FV) :: .p (.int .i64 (.sym i)) :: undefs 201), [(0, .pure false [.int .i64 (.sym op), .int .i64 (.sym a), .int .i64 (.sym b), .int .i64 (.sym n), .vsl (.sym 0) true []])], 1⟩ ∧ (∀ (k : Nat) (f : Fm), k < i.toNat → formsL[k]? = some f → f.op ≠ op) ∧ 0 ≤ i ∧ i ≤ 21 ∧ kk = (21 - i).toNat) 21 _
      (Re.at [(0, 0)] []) ⟨0, rfl, (fun k f hk => absurd hk (Nat.not_lt_zero _)), by omega, by omega, by omega⟩ ?_
    rintro kk st ⟨i, rfl, hno, h0, hi21, hkk⟩
    conv => cbv
    refine Br.mk (fun g2 => ?_) (fun g2 => ?_)
    case refine_2 =>
      have g2 : ¬ i < 21 := g2
      have hns : ¬ Shp X := fun hs => by
        unfold Shp at hs
        rw [if_neg (by omega)] at hs
        obtain ⟨k, f, hf, hfo⟩ := forms_cover op (by omega) g
        refine hno k f ?_ hf hfo
        have := (List.getElem?_eq_some_iff.1 hf).1
        have h21 : formsL.length = 21 := rfl
        omega
      conv => cbv
      refine RetF.mk [.p (.bool false)] [] 0 (Re.at [] []) rfl ⟨⟨false, rfl, by simp only [Bool.false_eq_true, false_iff]; exact hns⟩, rfl, rfl⟩
    have g2 : i < 21 := g2
    obtain ⟨f, hf⟩ : ∃ f, formsL[i.toNat]? = some f := ⟨_, List.getElem?_eq_getElem (by show i.toNat < 21; omega)⟩
    have hfg := formsV_get _ _ hf
    have hfa := forms_args _ _ hf
    have hfr := forms_op _ _ hf
    rw [← hFV] at hfg
    obtain ⟨fo, hfo⟩ : ∃ q, q = f.op := ⟨_, rfl⟩
    obtain ⟨fl, hfl⟩ : ∃ q : Int, q = f.letter.toNat := ⟨_, rfl⟩
    obtain ⟨fa, hfad⟩ : ∃ q, q = bytesOfL f.args := ⟨_, rfl⟩
    rw [← hfo, ← hfl, ← hfad] at hfg
    rw [← hfo] at hfa hfr
    obtain ⟨k', rfl⟩ : ∃ k', kk = k' + 1 := ⟨kk - 1, by omega⟩
    conv => cbv
    refine draw_sound tok (by kernel_rfl) rfl (by kernel_rfl) ?_
    conv => cbv
    refine Need.mk ⟨by show (0 : Int) ≤ i; omega, by show i < 21; omega⟩ ?_
    conv => cbv
    refine Sum.mk fun w1 hw1 => ?_
    have hw1 : w1 = i * 3 := hw1
    conv => cbv
    refine Cell.at w1 (i.toNat * 3) hfg.1 (by simp [I.val]) (by omega) ?_
    conv => cbv
    refine Br.mk (fun g3 => ?_) (fun g3 => ?_)
    case refine_1 =>
      have g3 : ¬ fo = op := g3
      conv => cbv
      refine Fit.mk (by show (-9223372036854775808 : Int) ≤ i + 1; omega) (by show i + 1 ≤ 9223372036854775807; omega) fun i2 hi2 => ?_
      have hi2 : i2 = i + 1 := hi2
      conv => cbv
      refine Again.mk k' _ (Nat.lt_succ_self _) (Re.at [(0, 0)] []) ⟨i2, rfl, (fun k f2 hk hf2 => ?_), by omega, by omega, by omega⟩
      by_cases hkk2 : k = i.toNat
      · rw [hkk2, hf] at hf2; cases hf2; exact fun h => g3 (by rw [hfo, h])
      · exact hno k f2 (by omega) hf2
    have g3 : fo = op := Classical.byContradiction g3
    have hsi := shp_iff X (by omega) (by omega) hcs
    rw [← h1, ← g3, ← h2, ← h3, ← h4] at hsi
    have hfas : (fa.size : Int) = f.args.length := by rw [hfad, bol_size]
    conv => cbv
    rcases hfa with ⟨ea, es⟩ | ⟨ea, es⟩ | ⟨ea, es⟩ | ⟨ea, es⟩ | ⟨ea, es⟩ | ⟨ea, es⟩
    · have gf : False := by rw [g3, hsh] at es; exact absurd es (by decide)
      cases gf
    · have gf : False := by rw [g3, hsh] at es; exact absurd es (by decide)
      cases gf
    · rw [ea] at hfas hfad
      rw [es] at hsi
      refine LoopF.rounds 2 ?_
      conv => cbv
      refine Need.mk ⟨by show (0 : Int) ≤ i; omega, by show i < 21; omega⟩ ?_
      conv => cbv
      refine Sum.mk fun u1 hu1 => ?_
      have hu1 : u1 = i * 3 := hu1
      conv => cbv
      refine Sum.mk fun v1 hv1 => ?_
      have hv1 : v1 = u1 + 2 := hv1
      conv => cbv
      refine Cell.at v1 (i.toNat * 3 + 2) hfg.2.2 (by simp [I.val]) (by omega) ?_
      conv => cbv
      refine Sum.mk fun z1 hz1 => ?_
      have hz1 : z1 = 1 := (show z1 = (fa.size : Int) from hz1).trans hfas
      conv => cbv
      refine Br.yes (by show 0 < z1; omega) ?_
      conv => cbv
      refine Need.mk ⟨by show (0 : Int) ≤ i; omega, by show i < 21; omega⟩ ?_
      conv => cbv
      refine Sum.mk fun u2 hu2 => ?_
      have hu2 : u2 = i * 3 := hu2
      conv => cbv
      refine Sum.mk fun v2 hv2 => ?_
      have hv2 : v2 = u2 + 2 := hv2
      conv => cbv
      refine Cell.at v2 (i.toNat * 3 + 2) hfg.2.2 (by simp [I.val]) (by omega) ?_
      conv => cbv
      refine Need.mk ⟨by show (0 : Int) ≤ 0; omega, by show (0 : Int) < (fa.size : Int); rw [hfas]; decide⟩ ?_
      conv => cbv
      refine Sum.mk fun y2 hy2 => ?_
      have hy2 : y2 = 78 := by
        have : y2 = ((fa.get! (0 : Int).toNat).toNat : Int) := hy2
        rw [this, hfad, bol_get _ _ 78 rfl]; rfl
      conv => cbv
      refine Br.no (by show ¬ y2 = 97; omega) ?_
      conv => cbv
      refine Br.no (by show ¬ y2 = 98; omega) ?_
      conv => cbv
      refine Br.yes (by show y2 = 78; omega) ?_
      conv => cbv
      refine Br.no (by show ¬ y2 = 110; omega) ?_
      conv => cbv
      refine Need.mk ⟨by show (0 : Int) ≤ i; omega, by show i < 21; omega⟩ ?_
      conv => cbv
      refine Sum.mk fun u3 hu3 => ?_
      have hu3 : u3 = i * 3 := hu3
      conv => cbv
      refine Sum.mk fun v3 hv3 => ?_
      have hv3 : v3 = u3 + 2 := hv3
      conv => cbv
      refine Cell.at v3 (i.toNat * 3 + 2) hfg.2.2 (by simp [I.val]) (by omega) ?_
      conv => cbv
      refine Sum.mk fun z3 hz3 => ?_
      have hz3 : z3 = 1 := (show z3 = (fa.size : Int) from hz3).trans hfas
      conv => cbv
      refine Br.no (by show ¬ 1 < z3; omega) ?_
      conv => cbv
      refine callF_frame (within_lx a 6) [] rfl trivial rfl rfl (fun r2 h' n' hrr => ?_)
      obtain ⟨⟨qa, e1, hqa⟩, e2, e3⟩ := hrr
      subst e1 e2 e3
      cases qa with
      | false =>
        have hna : ¬ (0 ≤ a ∧ a < 6) := fun h => by have := hqa.2 h; cases this
        conv => cbv
        have hns : ¬ Shp X := by rw [hsi]; simp; omega
        refine RetF.mk [.p (.bool false)] [] 0 (Re.at [] []) rfl ⟨⟨false, rfl, by simp only [Bool.false_eq_true, false_iff]; exact hns⟩, rfl, rfl⟩
      | true =>
      have hya : 0 ≤ a ∧ a < 6 := hqa.1 rfl
      conv => cbv
      refine callF_frame (within_lx b 6) [] rfl trivial rfl rfl (fun r2 h' n' hrr => ?_)
      obtain ⟨⟨qb, e1, hqb⟩, e2, e3⟩ := hrr
      subst e1 e2 e3
      cases qb with
      | false =>
        have hnb : ¬ (0 ≤ b ∧ b < 6) := fun h => by have := hqb.2 h; cases this
        conv => cbv
        have hns : ¬ Shp X := by rw [hsi]; simp; omega
        refine RetF.mk [.p (.bool false)] [] 0 (Re.at [] []) rfl ⟨⟨false, rfl, by simp only [Bool.false_eq_true, false_iff]; exact hns⟩, rfl, rfl⟩
      | true =>
      have hyb : 0 ≤ b ∧ b < 6 := hqb.1 rfl
      conv => cbv
      refine callF_frame (within_lx n 10000) [] rfl trivial rfl rfl (fun r2 h' n' hrr => ?_)
      obtain ⟨⟨qn, e1, hqn⟩, e2, e3⟩ := hrr
      subst e1 e2 e3
      cases qn with
      | false =>
        have hnn : ¬ (0 ≤ n ∧ n < 10000) := fun h => by have := hqn.2 h; cases this
        conv => cbv
        have hns : ¬ Shp X := by rw [hsi]; simp; omega
        refine RetF.mk [.p (.bool false)] [] 0 (Re.at [] []) rfl ⟨⟨false, rfl, by simp only [Bool.false_eq_true, false_iff]; exact hns⟩, rfl, rfl⟩
      | true =>
      have hyn : 0 ≤ n ∧ n < 10000 := hqn.1 rfl
      conv => cbv
      refine Br.yes rfl ?_
      conv => cbv
      refine Br.mk (fun g31 => ?_) (fun g31 => ?_)
      case refine_2 =>
        have g31 : ¬ a = 0 := g31
        conv => cbv
        have hns : ¬ Shp X := by rw [hsi]; simp; omega
        refine RetF.mk [.p (.bool false)] [] 0 (Re.at [] []) rfl ⟨⟨false, rfl, by simp only [Bool.false_eq_true, false_iff]; exact hns⟩, rfl, rfl⟩
      have g31 : a = 0 := g31
      conv => cbv
      refine Br.mk (fun g32 => ?_) (fun g32 => ?_)
      case refine_2 =>
        have g32 : ¬ b = 0 := g32
        conv => cbv
        have hns : ¬ Shp X := by rw [hsi]; simp; omega
        refine RetF.mk [.p (.bool false)] [] 0 (Re.at [] []) rfl ⟨⟨false, rfl, by simp only [Bool.false_eq_true, false_iff]; exact hns⟩, rfl, rfl⟩
      have g32 : b = 0 := g32
      conv => cbv
      have hyes : Shp X := by rw [hsi]; simp; omega
      refine RetF.mk [.p (.bool true)] [] 0 (Re.at [] []) rfl ⟨⟨true, rfl, by simp [hyes]⟩, rfl, rfl⟩
    · have gf : False := by rw [g3, hsh] at es; exact absurd es (by decide)
      cases gf
    · have gf : False := by rw [g3, hsh] at es; exact absurd es (by decide)
      cases gf
    · have gf : False := by rw [g3, hsh] at es; exact absurd es (by decide)
      cases gf
set_option maxHeartbeats 8000000 in
theorem shaped1_3 (X : Is) (op a b n : Int) (h1 : op = X.op) (h2 : a = X.a) (h3 : b = X.b) (h4 : n = X.n) (hcs : X.cs = []) (hsh : shapeV op = [97]) : CallF (fun _ => Tryd.prog) 40 [.agg [.p (.int .i64 (.sym op)), .p (.int .i64 (.sym a)), .p (.int .i64 (.sym b)), .p (.int .i64 (.sym n)), .p (.vsl (.sym 0) true [])]] [] 0 (fun r h n' => (∃ q : Bool, r = .p (.bool q) ∧ (q = true ↔ Shp X)) ∧ h = [] ∧ n' = 0) := by
  refine callF_of_body tok Tryd.func40 (by kernel_rfl) rfl rfl rfl ?_; conv => cbv
  refine Br.mk (fun g => ?_) (fun g => ?_)
  · have g : op = 21 := g
    have gf : False := by rw [g] at hsh; exact absurd hsh (by decide)
    cases gf
  · have g : ¬ op = 21 := g
    conv => cbv
    refine callF_frame forms_lx [] rfl trivial rfl rfl (fun r2 h' n' ⟨e1, e2, e3⟩ => ?_)
    subst e1 e2 e3
    obtain ⟨FV, hFV⟩ : ∃ FV, FV = formsV := ⟨_, rfl⟩
    rw [← hFV]
    conv => cbv
    refine LoopF.mk (fun kk st => ∃ i : Int, st = ⟨.undef :: .ptr 0 (.lit 0) :: (undefs 4 ++ .p (.vsl (.sym 21) true FV) :: .p (.int .i64 (.sym i)) :: undefs 201), [(0, .pure false [.int .i64 (.sym op), .int .i64 (.sym a), .int .i64 (.sym b), .int .i64 (.sym n), .vsl (.sym 0) true []])], 1⟩ ∧ (∀ (k : Nat) (f : Fm), k < i.toNat → formsL[k]? = some f → f.op ≠ op) ∧ 0 ≤ i ∧ i ≤ 21 ∧ kk = (21 - i).toNat) 21 _
      (Re.at [(0, 0)] []) ⟨0, rfl, (fun k f hk => absurd hk (Nat.not_lt_zero _)), by omega, by omega, by omega⟩ ?_
    rintro kk st ⟨i, rfl, hno, h0, hi21, hkk⟩
    conv => cbv
    refine Br.mk (fun g2 => ?_) (fun g2 => ?_)
    case refine_2 =>
      have g2 : ¬ i < 21 := g2
      have hns : ¬ Shp X := fun hs => by
        unfold Shp at hs
        rw [if_neg (by omega)] at hs
        obtain ⟨k, f, hf, hfo⟩ := forms_cover op (by omega) g
        refine hno k f ?_ hf hfo
        have := (List.getElem?_eq_some_iff.1 hf).1
        have h21 : formsL.length = 21 := rfl
        omega
      conv => cbv
      refine RetF.mk [.p (.bool false)] [] 0 (Re.at [] []) rfl ⟨⟨false, rfl, by simp only [Bool.false_eq_true, false_iff]; exact hns⟩, rfl, rfl⟩
    have g2 : i < 21 := g2
    obtain ⟨f, hf⟩ : ∃ f, formsL[i.toNat]? = some f := ⟨_, List.getElem?_eq_getElem (by show i.toNat < 21; omega)⟩
    have hfg := formsV_get _ _ hf
    have hfa := forms_args _ _ hf
    have hfr := forms_op _ _ hf
    rw [← hFV] at hfg
    obtain ⟨fo, hfo⟩ : ∃ q, q = f.op := ⟨_, rfl⟩
    obtain ⟨fl, hfl⟩ : ∃ q : Int, q = f.letter.toNat := ⟨_, rfl⟩
    obtain ⟨fa, hfad⟩ : ∃ q, q = bytesOfL f.args := ⟨_, rfl⟩
    rw [← hfo, ← hfl, ← hfad] at hfg
    rw [← hfo] at hfa hfr
    obtain ⟨k', rfl⟩ : ∃ k', kk = k' + 1 := ⟨kk - 1, by omega⟩
    conv => cbv
    refine draw_sound tok (by kernel_rfl) rfl (by kernel_rfl) ?_
    conv => cbv
    refine Need.mk ⟨by show (0 : Int) ≤ i; omega, by show i < 21; omega⟩ ?_
    conv => cbv
    refine Sum.mk fun w1 hw1 => ?_
    have hw1 : w1 = i * 3 := hw1
    conv => cbv
    refine Cell.at w1 (i.toNat * 3) hfg.1 (by simp [I.val]) (by omega) ?_
    conv => cbv
    refine Br.mk (fun g3 => ?_) (fun g3 => ?_)
    case refine_1 =>
      have g3 : ¬ fo = op := g3
      conv => cbv
      refine Fit.mk (by show (-9223372036854775808 : Int) ≤ i + 1; omega) (by show i + 1 ≤ 9223372036854775807; omega) fun i2 hi2 => ?_
      have hi2 : i2 = i + 1 := hi2
      conv => cbv
      refine Again.mk k' _ (Nat.lt_succ_self _) (Re.at [(0, 0)] []) ⟨i2, rfl, (fun k f2 hk hf2 => ?_), by omega, by omega, by omega⟩
      by_cases hkk2 : k = i.toNat
      · rw [hkk2, hf] at hf2; cases hf2; exact fun h => g3 (by rw [hfo, h])
      · exact hno k f2 (by omega) hf2
    have g3 : fo = op := Classical.byContradiction g3
    have hsi := shp_iff X (by omega) (by omega) hcs
    rw [← h1, ← g3, ← h2, ← h3, ← h4] at hsi
    have hfas : (fa.size : Int) = f.args.length := by rw [hfad, bol_size]
    conv => cbv
    rcases hfa with ⟨ea, es⟩ | ⟨ea, es⟩ | ⟨ea, es⟩ | ⟨ea, es⟩ | ⟨ea, es⟩ | ⟨ea, es⟩
    · have gf : False := by rw [g3, hsh] at es; exact absurd es (by decide)
      cases gf
    · have gf : False := by rw [g3, hsh] at es; exact absurd es (by decide)
      cases gf
    · have gf : False := by rw [g3, hsh] at es; exact absurd es (by decide)
      cases gf
    · rw [ea] at hfas hfad
      rw [es] at hsi
      refine LoopF.rounds 2 ?_
      conv => cbv
      refine Need.mk ⟨by show (0 : Int) ≤ i; omega, by show i < 21; omega⟩ ?_
      conv => cbv
      refine Sum.mk fun u1 hu1 => ?_
      have hu1 : u1 = i * 3 := hu1
      conv => cbv
      refine Sum.mk fun v1 hv1 => ?_
      have hv1 : v1 = u1 + 2 := hv1
      conv => cbv
      refine Cell.at v1 (i.toNat * 3 + 2) hfg.2.2 (by simp [I.val]) (by omega) ?_
      conv => cbv
      refine Sum.mk fun z1 hz1 => ?_
      have hz1 : z1 = 1 := (show z1 = (fa.size : Int) from hz1).trans hfas
      conv => cbv
      refine Br.yes (by show 0 < z1; omega) ?_
      conv => cbv
      refine Need.mk ⟨by show (0 : Int) ≤ i; omega, by show i < 21; omega⟩ ?_
      conv => cbv
      refine Sum.mk fun u2 hu2 => ?_
      have hu2 : u2 = i * 3 := hu2
      conv => cbv
      refine Sum.mk fun v2 hv2 => ?_
      have hv2 : v2 = u2 + 2 := hv2
      conv => cbv
      refine Cell.at v2 (i.toNat * 3 + 2) hfg.2.2 (by simp [I.val]) (by omega) ?_
      conv => cbv
      refine Need.mk ⟨by show (0 : Int) ≤ 0; omega, by show (0 : Int) < (fa.size : Int); rw [hfas]; decide⟩ ?_
      conv => cbv
      refine Sum.mk fun y2 hy2 => ?_
      have hy2 : y2 = 97 := by
        have : y2 = ((fa.get! (0 : Int).toNat).toNat : Int) := hy2
        rw [this, hfad, bol_get _ _ 97 rfl]; rfl
      conv => cbv
      refine Br.yes (by show y2 = 97; omega) ?_
      conv => cbv
      refine Br.no (by show ¬ y2 = 98; omega) ?_
      conv => cbv
      refine Br.no (by show ¬ y2 = 78; omega) ?_
      conv => cbv
      refine Br.no (by show ¬ y2 = 110; omega) ?_
      conv => cbv
      refine Br.no (by show ¬ y2 = 110; omega) ?_
      conv => cbv
      refine Need.mk ⟨by show (0 : Int) ≤ i; omega, by show i < 21; omega⟩ ?_
      conv => cbv
      refine Sum.mk fun u3 hu3 => ?_
      have hu3 : u3 = i * 3 := hu3
      conv => cbv
      refine Sum.mk fun v3 hv3 => ?_
      have hv3 : v3 = u3 + 2 := hv3
      conv => cbv
      refine Cell.at v3 (i.toNat * 3 + 2) hfg.2.2 (by simp [I.val]) (by omega) ?_
      conv => cbv
      refine Sum.mk fun z3 hz3 => ?_
      have hz3 : z3 = 1 := (show z3 = (fa.size : Int) from hz3).trans hfas
      conv => cbv
      refine Br.no (by show ¬ 1 < z3; omega) ?_
      conv => cbv
      refine callF_frame (within_lx a 6) [] rfl trivial rfl rfl (fun r2 h' n' hrr => ?_)
      obtain ⟨⟨qa, e1, hqa⟩, e2, e3⟩ := hrr
      subst e1 e2 e3
      cases qa with
      | false =>
        have hna : ¬ (0 ≤ a ∧ a < 6) := fun h => by have := hqa.2 h; cases this
        conv => cbv
        have hns : ¬ Shp X := by rw [hsi]; simp; omega
        refine RetF.mk [.p (.bool false)] [] 0 (Re.at [] []) rfl ⟨⟨false, rfl, by simp only [Bool.false_eq_true, false_iff]; exact hns⟩, rfl, rfl⟩
      | true =>
      have hya : 0 ≤ a ∧ a < 6 := hqa.1 rfl
      conv => cbv
      refine callF_frame (within_lx b 6) [] rfl trivial rfl rfl (fun r2 h' n' hrr => ?_)
      obtain ⟨⟨qb, e1, hqb⟩, e2, e3⟩ := hrr
      subst e1 e2 e3
      cases qb with
      | false =>
        have hnb : ¬ (0 ≤ b ∧ b < 6) := fun h => by have := hqb.2 h; cases this
        conv => cbv
        have hns : ¬ Shp X := by rw [hsi]; simp; omega
        refine RetF.mk [.p (.bool false)] [] 0 (Re.at [] []) rfl ⟨⟨false, rfl, by simp only [Bool.false_eq_true, false_iff]; exact hns⟩, rfl, rfl⟩
      | true =>
      have hyb : 0 ≤ b ∧ b < 6 := hqb.1 rfl
      conv => cbv
      refine callF_frame (within_lx n 10000) [] rfl trivial rfl rfl (fun r2 h' n' hrr => ?_)
      obtain ⟨⟨qn, e1, hqn⟩, e2, e3⟩ := hrr
      subst e1 e2 e3
      cases qn with
      | false =>
        have hnn : ¬ (0 ≤ n ∧ n < 10000) := fun h => by have := hqn.2 h; cases this
        conv => cbv
        have hns : ¬ Shp X := by rw [hsi]; simp; omega
        refine RetF.mk [.p (.bool false)] [] 0 (Re.at [] []) rfl ⟨⟨false, rfl, by simp only [Bool.false_eq_true, false_iff]; exact hns⟩, rfl, rfl⟩
      | true =>
      have hyn : 0 ≤ n ∧ n < 10000 := hqn.1 rfl
      conv => cbv
      refine Br.yes rfl ?_
      conv => cbv
      refine Br.mk (fun g32 => ?_) (fun g32 => ?_)
      case refine_2 =>
        have g32 : ¬ b = 0 := g32
        conv => cbv
        have hns : ¬ Shp X := by rw [hsi]; simp; omega
        refine RetF.mk [.p (.bool false)] [] 0 (Re.at [] []) rfl ⟨⟨false, rfl, by simp only [Bool.false_eq_true, false_iff]; exact hns⟩, rfl, rfl⟩
      have g32 : b = 0 := g32
      conv => cbv
      refine Br.mk (fun g33 => ?_) (fun g33 => ?_)
      case refine_2 =>
        have g33 : ¬ n = 0 := g33
        conv => cbv
        have hns : ¬ Shp X := by rw [hsi]; simp; omega
        refine RetF.mk [.p (.bool false)] [] 0 (Re.at [] []) rfl ⟨⟨false, rfl, by simp only [Bool.false_eq_true, false_iff]; exact hns⟩, rfl, rfl⟩
      have g33 : n = 0 := g33
      conv => cbv
      have hyes : Shp X := by rw [hsi]; simp; omega
      refine RetF.mk [.p (.bool true)] [] 0 (Re.at [] []) rfl ⟨⟨true, rfl, by simp [hyes]⟩, rfl, rfl⟩
    · have gf : False := by rw [g3, hsh] at es; exact absurd es (by decide)
      cases gf
    · have gf : False := by rw [g3, hsh] at es; exact absurd es (by decide)
      cases gf
end Go.Proofs.YtfjdifeofnpcnaaDoor
