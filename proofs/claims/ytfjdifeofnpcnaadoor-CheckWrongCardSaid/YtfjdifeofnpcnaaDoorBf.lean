/-
  The ground of the proof, part 6: the calculus and what is proved with it.
-/
import Derived.Test.YtfjdifeofnpcnaaDoorBe
import Derived.Test.YtfjdifeofnpcnaaDoorBd
import Derived.Shelf.Strings.Builder1
import Derived.Shelf.Strings.BuilderF
import Derived.Shelf.Strings.BuilderK
import Derived.Shelf.LaysM
import Derived.Shelf.Strconv.Itoa3
import Derived.Test.YtfjdifeofnpcnaaDoorProg
import Derived.Lib.AtoiErrMem
import Derived.Lib.LaidTab
import Derived.Lib.ItoaLen
import Derived.Test.YtfjdifeofnpcnaaDoorBc
import Derived.WalkKit
import Derived.ProofKit
import Derived.OpenShut
import Derived.IntWalk
import Derived.Below
import Derived.Deep.Draws
import Derived.Laws.BitsLemmas
import Derived.Laws.BitsAllLaws
import Derived.Laws.OwnMore
import Derived.Deep.AppendLies
import Derived.Lib.Hide
import Derived.Carry
import Derived.SliceStrings
import Derived.ChangeSlices
/-
  Layer 2: the reference's choice.
-/
namespace Go.Proofs.YtfjdifeofnpcnaaDoor

open Go Go.LX
set_option maxRecDepth 100000
set_option linter.unusedVariables false
set_option linter.unusedSimpArgs false

theorem takeF_r (k d : UInt8) (y : List UInt8) (h : k = 97 ∨ k = 98) : takeF k (d :: y) = (regO d).map fun v => (v, y) := by unfold takeF; rw [if_pos h]
theorem takeF_n (y : List UInt8) : takeF 110 y = (numO (lead y)).map fun v => (v, tail y) := by unfold takeF; rw [if_neg (by decide), if_neg (by decide)]
theorem rd_sr (d e : UInt8) (y : List UInt8) : rdB [97, 98, 110] (d :: e :: y) .zero = match regO d, regO e with
    | some a, some b => (numO (lead y)).map fun v => (⟨a, b, v⟩, tail y)
    | _, _ => none := by
  rw [rdB, takeF_r 97 d _ (by decide)]
  cases regO d with
  | none => rfl
  | some a =>
    show rdB [98, 110] (e :: y) _ = _
    rw [rdB, takeF_r 98 e _ (by decide)]
    cases regO e with
    | none => rfl
    | some b =>
      show rdB [110] y _ = _
      rw [rdB, takeF_n]
      cases numO (lead y) <;> rfl
theorem rd_short (y : List UInt8) (h : y.length < 2) : rdB [97, 98, 110] y .zero = none := by
  cases y with
  | nil => rfl
  | cons d y =>
    cases y with
    | nil =>
      rw [rdB, takeF_r 97 d _ (by decide)]
      cases regO d <;> rfl
    | cons e y => simp only [List.length_cons] at h; omega
theorem rd_e (y : List UInt8) : rdB [110] y .zero = (numO (lead y)).map fun v => (⟨0, 0, v⟩, tail y) := by
  rw [rdB, takeF_n]
  cases numO (lead y) <;> rfl
set_option maxHeartbeats 8000000 in
theorem choice_lx (s : List UInt8) (z : ByteArray) (f0 : Nat) (hz : z = bytesOfL s) (hlen : s.length ≤ 2000) (hf0 : s.length < f0) :
    CallF (fun _ => Tryd.prog) 59 [.p (.str fun _ => z)] [] 0 (fun r h n => OptX ((choiceB f0 s []).map fun cs => ⟨21, 0, 0, 0, cs⟩) r ∧ h = [] ∧ n = 0) := by
  refine callF_of_body tok Tryd.func59 (by kernel_rfl) rfl rfl rfl ?_; conv => cbv
  refine LoopF.mk (fun kk st => ∃ (j : Int) (M : List PV) (y : List UInt8) (yz : ByteArray) (cs : List Cs), st = ⟨.p (.str fun _ => yz) :: .undef :: .ptr 0 (.lit 0) :: .p (.bool false) :: .ptr 1 (.lit 0) :: undefs 93, [(2, .pure true M), (1, .mix [.p (.int .i64 (.lit 21)), .p (.int .i64 (.lit 0)), .p (.int .i64 (.lit 0)), .p (.int .i64 (.lit 0)), .sl 2 38 4 (.lit 0) (.sym j)]), (0, .pure false [.int .i64 (.lit 0), .int .i64 (.lit 0), .int .i64 (.lit 0), .int .i64 (.lit 0), .nils])], 3⟩ ∧ choiceB f0 s [] = choiceB kk y cs ∧ yz = bytesOfL y ∧ M = csV cs ∧ j = cs.length ∧ 0 ≤ j ∧ j + y.length ≤ 2000 ∧ y.length < kk) f0 _
    (Re.at [(0, 0), (1, 1)] [2]) ⟨0, [], s, z, [], rfl, rfl, hz, rfl, rfl, by omega, by omega, hf0⟩ ?_
  rintro kk st ⟨j, M, y, yz, cs, rfl, hc, hyz, hM, hj, hj0, hjy, hyk⟩
  have hyzs : (yz.size : Int) = y.length := by rw [hyz, bol_size]
  obtain ⟨k', rfl⟩ : ∃ k', kk = k' + 1 := ⟨kk - 1, by omega⟩
  conv => cbv
  refine Br.mk (fun g => ?_) (fun g => ?_)
  case refine_2 =>
    have g : yz = ⟨#[]⟩ := Classical.byContradiction g
    have hy0 : y = [] := by rw [hyz] at g; exact (bol_nil y).1 g
    rw [hy0] at hc
    conv => cbv
    refine drawn_sound tok (by kernel_rfl) [(5, [4, 3, 2, 1])] [0, 1, 2, 3, 4, 5, 6] (by kernel_rfl) ?_; conv => cbv
    refine Br.mk (fun g5 => ?_) (fun g5 => ?_)
    · have g5 : 0 < j := g5
      have e : (choiceB f0 s []).map (fun cs => (⟨21, 0, 0, 0, cs⟩ : Is)) = some ⟨21, 0, 0, 0, cs⟩ := by
        rw [hc, choiceB, if_neg]; · rfl
        cases cs with
        | nil => rw [hj] at g5; exact absurd g5 (by decide)
        | cons c cs => simp
      conv => cbv
      refine RetF.mk [.agg [.p (.int .i64 (.sym 21)), .p (.int .i64 (.sym 0)), .p (.int .i64 (.sym 0)), .p (.int .i64 (.sym 0)), .p (.vsl (.sym j) true M)], .p (.bool true)] [] 0 (Re.at [] []) rfl ⟨.yes ⟨21, 0, 0, 0, cs⟩ j M e hj hM, rfl, rfl⟩
    · have g5 : ¬ 0 < j := g5
      have e : (choiceB f0 s []).map (fun cs => (⟨21, 0, 0, 0, cs⟩ : Is)) = none := by
        rw [hc, choiceB, if_pos]; · rfl
        cases cs with
        | nil => rfl
        | cons c cs => rw [hj, List.length_cons] at g5; omega
      conv => cbv
      refine RetF.mk [.agg [.p (.int .i64 (.sym 21)), .p (.int .i64 (.sym 0)), .p (.int .i64 (.sym 0)), .p (.int .i64 (.sym 0)), .p (.vsl (.sym j) true M)], .p (.bool false)] [] 0 (Re.at [] []) rfl ⟨.no 21 0 0 0 j M e, rfl, rfl⟩
  have g : ¬ yz = ⟨#[]⟩ := g
  obtain ⟨c, y1, hy1⟩ : ∃ c y1, y = c :: y1 := by
    cases y with
    | nil => exact absurd (by rw [hyz]; rfl) g
    | cons c y1 => exact ⟨c, y1, rfl⟩
  have hy1l : y.length = y1.length + 1 := by rw [hy1, List.length_cons]
  conv => cbv
  have hcs : choiceB (k' + 1) y cs = if caseV [c] = 0 then none else match rdB (cshape (caseV [c])) y1 .zero with
    | none => none
    | some (f, q) => if caseV [c] = 3 ∧ q.isEmpty = false then none else choiceB k' q (cs ++ [⟨caseV [c], f.a, f.b, f.n⟩]) := by rw [hy1, choiceB]; rfl
  rw [hcs] at hc
  clear hcs
  refine Need.mk ⟨by show (0 : Int) ≤ 0; omega, by show (0 : Int) < (yz.size : Int); omega⟩ ?_
  conv => cbv
  refine Sum.mk fun w hw => ?_
  have hw : w = (c.toNat : Int) := by
    have : w = ((yz.get! (0 : Int).toNat).toNat : Int) := hw
    rw [this, hyz, bol_get y _ c (by rw [hy1]; rfl)]
  conv => cbv
  refine Br.mk (fun g2 => ?_) (fun g2 => ?_)
  · have g2 : w = 115 := g2
    have hcc : c = 115 := UInt8.toNat_inj.1 (by show c.toNat = 115; omega)
    have hcv : caseV [c] = 1 := by rw [hcc]; rfl
    rw [hcv, if_neg (by decide)] at hc
    have hc : choiceB f0 s [] = match rdB [97, 98, 110] y1 .zero with
      | none => none
      | some (f, q) => choiceB k' q (cs ++ [⟨1, f.a, f.b, f.n⟩]) := by
      rw [hc]
      show (match rdB [97, 98, 110] y1 .zero with | none => none | some (f, q) => _) = _
      cases rdB [97, 98, 110] y1 .zero with
      | none => rfl
      | some x => simp
    conv => cbv
    refine Need.mk ⟨by show (0 : Int) ≤ 0; omega, by show (0 : Int) < (yz.size : Int); omega⟩ ?_
    conv => cbv
    refine Sum.mk fun w5 hw5 => ?_
    have hw5 : w5 = (c.toNat : Int) := by
      have : w5 = ((yz.get! (0 : Int).toNat).toNat : Int) := hw5
      rw [this, hyz, bol_get y _ c (by rw [hy1]; rfl)]
    conv => cbv
    refine Br.no (by show ¬ w5 = 114; rw [hw5, hcc]; decide) ?_
    conv => cbv
    refine Sum.mk fun ys hys => ?_
    have hys : ys = (y.length : Int) := (show ys = (yz.size : Int) from hys).trans hyzs
    conv => cbv
    refine Br.mk (fun g6 => ?_) (fun g6 => ?_)
    · have g6 : ys < 3 := g6
      have e : (choiceB f0 s []).map (fun cs => (⟨21, 0, 0, 0, cs⟩ : Is)) = none := by rw [hc, rd_short y1 (by rw [hy1, List.length_cons] at hys; omega)]; rfl
      conv => cbv
      refine RetF.mk [.agg [.p (.int .i64 (.sym 0)), .p (.int .i64 (.sym 0)), .p (.int .i64 (.sym 0)), .p (.int .i64 (.sym 0)), .p (.vsl (.sym 0) true [])], .p (.bool false)] [] 0 (Re.at [] []) rfl ⟨.no 0 0 0 0 0 [] e, rfl, rfl⟩
    have g6 : ¬ ys < 3 := g6
    obtain ⟨d, e, y4, hy4⟩ : ∃ d e y4, y1 = d :: e :: y4 := by
      cases y1 with
      | nil => rw [hy1] at hys; simp at hys; omega
      | cons d y1 =>
        cases y1 with
        | nil => rw [hy1] at hys; simp at hys; omega
        | cons e y1 => exact ⟨d, e, y1, rfl⟩
    rw [hy4] at hy1
    rw [hy4, rd_sr] at hc
    conv => cbv
    refine Need.mk ⟨by show (0 : Int) ≤ 1; omega, by show (1 : Int) < (yz.size : Int); omega⟩ ?_
    conv => cbv
    refine Sum.mk fun w6 hw6 => ?_
    have hw6 : w6 = (d.toNat : Int) := by
      have : w6 = ((yz.get! (1 : Int).toNat).toNat : Int) := hw6
      rw [this, hyz, bol_get y _ d (by rw [hy1]; rfl)]
    conv => cbv
    have hdl := d.toNat_lt
    have hel := e.toNat_lt
    refine Fit.mk (by show (-9223372036854775808 : Int) ≤ w6; omega) (by show w6 ≤ 9223372036854775807; omega) fun w7 hw7 => ?_
    have hw7 : w7 = w6 := hw7
    conv => cbv
    refine callF_frame (rReg_lx w7 (by omega) (by omega)) [] rfl trivial rfl rfl (fun r2 h' n' hrr => ?_)
    obtain ⟨e1, e2, e3⟩ := hrr
    subst e2 e3
    rw [hw7, hw6, regI_nat] at e1
    cases e1 with
    | no v hv =>
      rw [hv] at hc
      have hc : choiceB f0 s [] = none := hc
      conv => cbv
      refine Need.mk ⟨by show (0 : Int) ≤ 2; omega, by show (2 : Int) < (yz.size : Int); omega⟩ ?_
      conv => cbv
      refine Sum.mk fun w8 hw8 => ?_
      have hw8 : w8 = (e.toNat : Int) := by
        have : w8 = ((yz.get! (2 : Int).toNat).toNat : Int) := hw8
        rw [this, hyz, bol_get y _ e (by rw [hy1]; rfl)]
      conv => cbv
      refine Fit.mk (by show (-9223372036854775808 : Int) ≤ w8; omega) (by show w8 ≤ 9223372036854775807; omega) fun w9 hw9 => ?_
      have hw9 : w9 = w8 := hw9
      conv => cbv
      refine callF_frame (rReg_lx w9 (by omega) (by omega)) [] rfl trivial rfl rfl (fun r2 h' n' hrr => ?_)
      obtain ⟨e1, e2, e3⟩ := hrr
      subst e2 e3
      rw [hw9, hw8, regI_nat] at e1
      cases e1 with
      | no v2 hv2 =>
        conv => cbv
        have e : (choiceB f0 s []).map (fun cs => (⟨21, 0, 0, 0, cs⟩ : Is)) = none := by rw [hc]; rfl
        refine RetF.mk [.agg [.p (.int .i64 (.sym 0)), .p (.int .i64 (.sym 0)), .p (.int .i64 (.sym 0)), .p (.int .i64 (.sym 0)), .p (.vsl (.sym 0) true [])], .p (.bool false)] [] 0 (Re.at [] []) rfl ⟨.no 0 0 0 0 0 [] e, rfl, rfl⟩
      | yes v2 hv2 =>
        conv => cbv
        have e : (choiceB f0 s []).map (fun cs => (⟨21, 0, 0, 0, cs⟩ : Is)) = none := by rw [hc]; rfl
        refine RetF.mk [.agg [.p (.int .i64 (.sym 0)), .p (.int .i64 (.sym 0)), .p (.int .i64 (.sym 0)), .p (.int .i64 (.sym 0)), .p (.vsl (.sym 0) true [])], .p (.bool false)] [] 0 (Re.at [] []) rfl ⟨.no 0 0 0 0 0 [] e, rfl, rfl⟩
    | yes a ha =>
      rw [ha] at hc
      conv => cbv
      refine Need.mk ⟨by show (0 : Int) ≤ 2; omega, by show (2 : Int) < (yz.size : Int); omega⟩ ?_
      conv => cbv
      refine Sum.mk fun w8 hw8 => ?_
      have hw8 : w8 = (e.toNat : Int) := by
        have : w8 = ((yz.get! (2 : Int).toNat).toNat : Int) := hw8
        rw [this, hyz, bol_get y _ e (by rw [hy1]; rfl)]
      conv => cbv
      refine Fit.mk (by show (-9223372036854775808 : Int) ≤ w8; omega) (by show w8 ≤ 9223372036854775807; omega) fun w9 hw9 => ?_
      have hw9 : w9 = w8 := hw9
      conv => cbv
      refine callF_frame (rReg_lx w9 (by omega) (by omega)) [] rfl trivial rfl rfl (fun r2 h' n' hrr => ?_)
      obtain ⟨e1, e2, e3⟩ := hrr
      subst e2 e3
      rw [hw9, hw8, regI_nat] at e1
      cases e1 with
      | no v2 hv2 =>
        rw [hv2] at hc
        have hc : choiceB f0 s [] = none := hc
        conv => cbv
        have e : (choiceB f0 s []).map (fun cs => (⟨21, 0, 0, 0, cs⟩ : Is)) = none := by rw [hc]; rfl
        refine RetF.mk [.agg [.p (.int .i64 (.sym 0)), .p (.int .i64 (.sym 0)), .p (.int .i64 (.sym 0)), .p (.int .i64 (.sym 0)), .p (.vsl (.sym 0) true [])], .p (.bool false)] [] 0 (Re.at [] []) rfl ⟨.no 0 0 0 0 0 [] e, rfl, rfl⟩
      | yes b hb =>
        rw [hb] at hc
        have hc : choiceB f0 s [] = match (numO (lead y4)).map (fun v => ((⟨a, b, v⟩ : F3), tail y4)) with
          | none => none
          | some (f, q) => choiceB k' q (cs ++ [⟨1, f.a, f.b, f.n⟩]) := hc
        obtain ⟨yr, hyr⟩ : ∃ yr, yr = y4 := ⟨_, rfl⟩
        rw [← hyr] at hc
        have hyrl : y.length = yr.length + 3 := by rw [hy1, hyr]; rfl
        have hlr := lead_take yr
        have hldr := lead_drop yr
        have htl := lead_le yr
        have hltl : (lead yr).length + (tail yr).length = yr.length := by rw [← List.length_append, lead_tail]
        obtain ⟨v9, hv9⟩ : ∃ v9 : Int, v9 = (lead yr).length := ⟨_, rfl⟩
        conv => cbv
        refine Need.mk ⟨by show (0 : Int) ≤ 3; omega, by show (3 : Int) ≤ (yz.size : Int); omega⟩ ?_
        conv => cbv
        refine Str.mk fun y2 hy2 => ?_
        have hy2 : y2 = bytesOfL yr := by
          have h1 : y2 = yz.extract (3 : Int).toNat yz.size := hy2
          rw [h1, hyz, bol_ext _ _ _ (by rw [bol_size]; exact Nat.le_refl _), bol_size, List.take_of_length_le (Nat.le_refl _), hy1, hyr]; rfl
        have hy2s : (y2.size : Int) = yr.length := by rw [hy2, bol_size]
        conv => cbv
        refine callF_frame (rest_lx yr y2 v9 hy2 (by omega) hv9) [] rfl trivial rfl rfl (fun r2 h' n' ⟨e1, e2, e3⟩ => ?_)
        subst e1 e2 e3
        conv => cbv
        refine Need.mk ⟨by show (0 : Int) ≤ 0; omega, by show (0 : Int) ≤ v9; omega, by show v9 ≤ (y2.size : Int); omega⟩ ?_
        conv => cbv
        refine Str.mk fun y3 hy3 => ?_
        have hy3 : y3 = bytesOfL (lead yr) := by
          have h1 : y3 = y2.extract (0 : Int).toNat v9.toNat := hy3
          rw [h1, hy2, bol_ext _ _ _ (by omega), show v9.toNat = (lead yr).length by omega, lead_take]; rfl
        conv => cbv
        refine callF_frame (rNumber_lx (lead yr) y3 hy3 (by omega)) [] rfl trivial rfl rfl (fun r2 h' n' hrr => ?_)
        obtain ⟨e1, e2, e3⟩ := hrr
        subst e2 e3
        cases e1 with
        | no v hv =>
          have e : (choiceB f0 s []).map (fun cs => (⟨21, 0, 0, 0, cs⟩ : Is)) = none := by rw [hc, hv]; rfl
          conv => cbv
          refine RetF.mk [.agg [.p (.int .i64 (.sym 0)), .p (.int .i64 (.sym 0)), .p (.int .i64 (.sym 0)), .p (.int .i64 (.sym 0)), .p (.vsl (.sym 0) true [])], .p (.bool false)] [] 0 (Re.at [] []) rfl ⟨.no 0 0 0 0 0 [] e, rfl, rfl⟩
        | yes v hv =>
          rw [hv] at hc
          conv => cbv
          refine drawn_sound tok (by kernel_rfl) [(5, [3, 2, 1])] [0, 1, 2, 3, 4, 5, 6] (by kernel_rfl) ?_; conv => cbv
          refine Need.mk ⟨by show (0 : Int) ≤ v9; omega, by show v9 ≤ (y2.size : Int); omega⟩ ?_
          conv => cbv
          refine Str.mk fun y5 hy5 => ?_
          have hy5 : y5 = bytesOfL (tail yr) := by
            have h1 : y5 = y2.extract v9.toNat y2.size := hy5
            rw [h1, hy2, bol_ext _ _ _ (by rw [bol_size]; exact Nat.le_refl _), bol_size, List.take_of_length_le (Nat.le_refl _), show v9.toNat = (lead yr).length by omega, lead_drop]
          conv => cbv
          refine Room.new rfl ?_
          conv => cbv
          refine Room.new ⟨?_, ?_, ?_⟩ ?_
          · show (M.length : Int) = j * 4; rw [hM, csV_length, hj]; omega
          · show (j + 1) * 32 ≤ 140737488355328; omega
          · show j + 1 ≤ 9223372036854775807; omega
          conv => cbv
          refine Upd.mk fun M2 hM2 => ?_
          obtain ⟨M3, hM3⟩ : ∃ M3, M3 = csV (cs ++ [⟨1, a, b, v⟩]) := ⟨_, rfl⟩
          have hle : pvles M2 M3 := by
            have h1 : M2 = M ++ [.int .i64 (.lit 1), .int .i64 (.sym a), .int .i64 (.sym b), .int .i64 (.sym v)] := hM2
            rw [h1, hM3, csV_snoc, hM]
            exact pvles_app (pvles_refl _) (by unfold caV; simp [pvles, pvle, I.val])
          unfold pvles at hle
          conv => cbv
          refine Sum.mk fun j2 hj2 => ?_
          have hj2 : j2 = j + 1 := hj2
          have hj3 : j2 = ((cs ++ [⟨1, a, b, v⟩] : List Cs).length : Int) := by rw [List.length_append, hj2, hj]; rfl
          conv => cbv
          have hc : choiceB f0 s [] = choiceB k' (tail yr) (cs ++ [⟨1, a, b, v⟩]) := hc
          refine Again.mk k' _ (Nat.lt_succ_self _) (Re.at [(0, 0), (1, 1), (5, 2)] []) ⟨j2, M3, tail yr, y5, cs ++ [⟨1, a, b, v⟩], rfl, hc, hy5, hM3, hj3, by omega, (by show j2 + ((tail yr).length : Int) ≤ 2000; omega), (by show (tail yr).length < k'; omega)⟩
  have g2 : ¬ w = 115 := g2
  have hc115 : ¬ c = 115 := by rintro rfl; exact g2 (by rw [hw]; rfl)
  conv => cbv
  refine Need.mk ⟨by show (0 : Int) ≤ 0; omega, by show (0 : Int) < (yz.size : Int); omega⟩ ?_
  conv => cbv
  refine Sum.mk fun w3 hw3 => ?_
  have hw3 : w3 = (c.toNat : Int) := by
    have : w3 = ((yz.get! (0 : Int).toNat).toNat : Int) := hw3
    rw [this, hyz, bol_get y _ c (by rw [hy1]; rfl)]
  conv => cbv
  refine Br.mk (fun g3 => ?_) (fun g3 => ?_)
  · have g3 : w3 = 114 := g3
    have hcc : c = 114 := UInt8.toNat_inj.1 (by show c.toNat = 114; omega)
    have hcv : caseV [c] = 2 := by rw [hcc]; rfl
    rw [hcv, if_neg (by decide)] at hc
    have hc : choiceB f0 s [] = match rdB [97, 98, 110] y1 .zero with
      | none => none
      | some (f, q) => choiceB k' q (cs ++ [⟨2, f.a, f.b, f.n⟩]) := by
      rw [hc]
      show (match rdB [97, 98, 110] y1 .zero with | none => none | some (f, q) => _) = _
      cases rdB [97, 98, 110] y1 .zero with
      | none => rfl
      | some x => simp
    conv => cbv
    refine Need.mk ⟨by show (0 : Int) ≤ 0; omega, by show (0 : Int) < (yz.size : Int); omega⟩ ?_
    conv => cbv
    refine Sum.mk fun w5 hw5 => ?_
    have hw5 : w5 = (c.toNat : Int) := by
      have : w5 = ((yz.get! (0 : Int).toNat).toNat : Int) := hw5
      rw [this, hyz, bol_get y _ c (by rw [hy1]; rfl)]
    conv => cbv
    refine Br.yes (by show w5 = 114; rw [hw5, hcc]; rfl) ?_
    conv => cbv
    refine Sum.mk fun ys hys => ?_
    have hys : ys = (y.length : Int) := (show ys = (yz.size : Int) from hys).trans hyzs
    conv => cbv
    refine Br.mk (fun g6 => ?_) (fun g6 => ?_)
    · have g6 : ys < 3 := g6
      have e : (choiceB f0 s []).map (fun cs => (⟨21, 0, 0, 0, cs⟩ : Is)) = none := by rw [hc, rd_short y1 (by rw [hy1, List.length_cons] at hys; omega)]; rfl
      conv => cbv
      refine RetF.mk [.agg [.p (.int .i64 (.sym 0)), .p (.int .i64 (.sym 0)), .p (.int .i64 (.sym 0)), .p (.int .i64 (.sym 0)), .p (.vsl (.sym 0) true [])], .p (.bool false)] [] 0 (Re.at [] []) rfl ⟨.no 0 0 0 0 0 [] e, rfl, rfl⟩
    have g6 : ¬ ys < 3 := g6
    obtain ⟨d, e, y4, hy4⟩ : ∃ d e y4, y1 = d :: e :: y4 := by
      cases y1 with
      | nil => rw [hy1] at hys; simp at hys; omega
      | cons d y1 =>
        cases y1 with
        | nil => rw [hy1] at hys; simp at hys; omega
        | cons e y1 => exact ⟨d, e, y1, rfl⟩
    rw [hy4] at hy1
    rw [hy4, rd_sr] at hc
    conv => cbv
    refine Need.mk ⟨by show (0 : Int) ≤ 1; omega, by show (1 : Int) < (yz.size : Int); omega⟩ ?_
    conv => cbv
    refine Sum.mk fun w6 hw6 => ?_
    have hw6 : w6 = (d.toNat : Int) := by
      have : w6 = ((yz.get! (1 : Int).toNat).toNat : Int) := hw6
      rw [this, hyz, bol_get y _ d (by rw [hy1]; rfl)]
    conv => cbv
    have hdl := d.toNat_lt
    have hel := e.toNat_lt
    refine Fit.mk (by show (-9223372036854775808 : Int) ≤ w6; omega) (by show w6 ≤ 9223372036854775807; omega) fun w7 hw7 => ?_
    have hw7 : w7 = w6 := hw7
    conv => cbv
    refine callF_frame (rReg_lx w7 (by omega) (by omega)) [] rfl trivial rfl rfl (fun r2 h' n' hrr => ?_)
    obtain ⟨e1, e2, e3⟩ := hrr
    subst e2 e3
    rw [hw7, hw6, regI_nat] at e1
    cases e1 with
    | no v hv =>
      rw [hv] at hc
      have hc : choiceB f0 s [] = none := hc
      conv => cbv
      refine Need.mk ⟨by show (0 : Int) ≤ 2; omega, by show (2 : Int) < (yz.size : Int); omega⟩ ?_
      conv => cbv
      refine Sum.mk fun w8 hw8 => ?_
      have hw8 : w8 = (e.toNat : Int) := by
        have : w8 = ((yz.get! (2 : Int).toNat).toNat : Int) := hw8
        rw [this, hyz, bol_get y _ e (by rw [hy1]; rfl)]
      conv => cbv
      refine Fit.mk (by show (-9223372036854775808 : Int) ≤ w8; omega) (by show w8 ≤ 9223372036854775807; omega) fun w9 hw9 => ?_
      have hw9 : w9 = w8 := hw9
      conv => cbv
      refine callF_frame (rReg_lx w9 (by omega) (by omega)) [] rfl trivial rfl rfl (fun r2 h' n' hrr => ?_)
      obtain ⟨e1, e2, e3⟩ := hrr
      subst e2 e3
      rw [hw9, hw8, regI_nat] at e1
      cases e1 with
      | no v2 hv2 =>
        conv => cbv
        have e : (choiceB f0 s []).map (fun cs => (⟨21, 0, 0, 0, cs⟩ : Is)) = none := by rw [hc]; rfl
        refine RetF.mk [.agg [.p (.int .i64 (.sym 0)), .p (.int .i64 (.sym 0)), .p (.int .i64 (.sym 0)), .p (.int .i64 (.sym 0)), .p (.vsl (.sym 0) true [])], .p (.bool false)] [] 0 (Re.at [] []) rfl ⟨.no 0 0 0 0 0 [] e, rfl, rfl⟩
      | yes v2 hv2 =>
        conv => cbv
        have e : (choiceB f0 s []).map (fun cs => (⟨21, 0, 0, 0, cs⟩ : Is)) = none := by rw [hc]; rfl
        refine RetF.mk [.agg [.p (.int .i64 (.sym 0)), .p (.int .i64 (.sym 0)), .p (.int .i64 (.sym 0)), .p (.int .i64 (.sym 0)), .p (.vsl (.sym 0) true [])], .p (.bool false)] [] 0 (Re.at [] []) rfl ⟨.no 0 0 0 0 0 [] e, rfl, rfl⟩
    | yes a ha =>
      rw [ha] at hc
      conv => cbv
      refine Need.mk ⟨by show (0 : Int) ≤ 2; omega, by show (2 : Int) < (yz.size : Int); omega⟩ ?_
      conv => cbv
      refine Sum.mk fun w8 hw8 => ?_
      have hw8 : w8 = (e.toNat : Int) := by
        have : w8 = ((yz.get! (2 : Int).toNat).toNat : Int) := hw8
        rw [this, hyz, bol_get y _ e (by rw [hy1]; rfl)]
      conv => cbv
      refine Fit.mk (by show (-9223372036854775808 : Int) ≤ w8; omega) (by show w8 ≤ 9223372036854775807; omega) fun w9 hw9 => ?_
      have hw9 : w9 = w8 := hw9
      conv => cbv
      refine callF_frame (rReg_lx w9 (by omega) (by omega)) [] rfl trivial rfl rfl (fun r2 h' n' hrr => ?_)
      obtain ⟨e1, e2, e3⟩ := hrr
      subst e2 e3
      rw [hw9, hw8, regI_nat] at e1
      cases e1 with
      | no v2 hv2 =>
        rw [hv2] at hc
        have hc : choiceB f0 s [] = none := hc
        conv => cbv
        have e : (choiceB f0 s []).map (fun cs => (⟨21, 0, 0, 0, cs⟩ : Is)) = none := by rw [hc]; rfl
        refine RetF.mk [.agg [.p (.int .i64 (.sym 0)), .p (.int .i64 (.sym 0)), .p (.int .i64 (.sym 0)), .p (.int .i64 (.sym 0)), .p (.vsl (.sym 0) true [])], .p (.bool false)] [] 0 (Re.at [] []) rfl ⟨.no 0 0 0 0 0 [] e, rfl, rfl⟩
      | yes b hb =>
        rw [hb] at hc
        have hc : choiceB f0 s [] = match (numO (lead y4)).map (fun v => ((⟨a, b, v⟩ : F3), tail y4)) with
          | none => none
          | some (f, q) => choiceB k' q (cs ++ [⟨2, f.a, f.b, f.n⟩]) := hc
        obtain ⟨yr, hyr⟩ : ∃ yr, yr = y4 := ⟨_, rfl⟩
        rw [← hyr] at hc
        have hyrl : y.length = yr.length + 3 := by rw [hy1, hyr]; rfl
        have hlr := lead_take yr
        have hldr := lead_drop yr
        have htl := lead_le yr
        have hltl : (lead yr).length + (tail yr).length = yr.length := by rw [← List.length_append, lead_tail]
        obtain ⟨v9, hv9⟩ : ∃ v9 : Int, v9 = (lead yr).length := ⟨_, rfl⟩
        conv => cbv
        refine Need.mk ⟨by show (0 : Int) ≤ 3; omega, by show (3 : Int) ≤ (yz.size : Int); omega⟩ ?_
        conv => cbv
        refine Str.mk fun y2 hy2 => ?_
        have hy2 : y2 = bytesOfL yr := by
          have h1 : y2 = yz.extract (3 : Int).toNat yz.size := hy2
          rw [h1, hyz, bol_ext _ _ _ (by rw [bol_size]; exact Nat.le_refl _), bol_size, List.take_of_length_le (Nat.le_refl _), hy1, hyr]; rfl
        have hy2s : (y2.size : Int) = yr.length := by rw [hy2, bol_size]
        conv => cbv
        refine callF_frame (rest_lx yr y2 v9 hy2 (by omega) hv9) [] rfl trivial rfl rfl (fun r2 h' n' ⟨e1, e2, e3⟩ => ?_)
        subst e1 e2 e3
        conv => cbv
        refine Need.mk ⟨by show (0 : Int) ≤ 0; omega, by show (0 : Int) ≤ v9; omega, by show v9 ≤ (y2.size : Int); omega⟩ ?_
        conv => cbv
        refine Str.mk fun y3 hy3 => ?_
        have hy3 : y3 = bytesOfL (lead yr) := by
          have h1 : y3 = y2.extract (0 : Int).toNat v9.toNat := hy3
          rw [h1, hy2, bol_ext _ _ _ (by omega), show v9.toNat = (lead yr).length by omega, lead_take]; rfl
        conv => cbv
        refine callF_frame (rNumber_lx (lead yr) y3 hy3 (by omega)) [] rfl trivial rfl rfl (fun r2 h' n' hrr => ?_)
        obtain ⟨e1, e2, e3⟩ := hrr
        subst e2 e3
        cases e1 with
        | no v hv =>
          have e : (choiceB f0 s []).map (fun cs => (⟨21, 0, 0, 0, cs⟩ : Is)) = none := by rw [hc, hv]; rfl
          conv => cbv
          refine RetF.mk [.agg [.p (.int .i64 (.sym 0)), .p (.int .i64 (.sym 0)), .p (.int .i64 (.sym 0)), .p (.int .i64 (.sym 0)), .p (.vsl (.sym 0) true [])], .p (.bool false)] [] 0 (Re.at [] []) rfl ⟨.no 0 0 0 0 0 [] e, rfl, rfl⟩
        | yes v hv =>
          rw [hv] at hc
          conv => cbv
          refine drawn_sound tok (by kernel_rfl) [(5, [3, 2, 1])] [0, 1, 2, 3, 4, 5, 6] (by kernel_rfl) ?_; conv => cbv
          refine Need.mk ⟨by show (0 : Int) ≤ v9; omega, by show v9 ≤ (y2.size : Int); omega⟩ ?_
          conv => cbv
          refine Str.mk fun y5 hy5 => ?_
          have hy5 : y5 = bytesOfL (tail yr) := by
            have h1 : y5 = y2.extract v9.toNat y2.size := hy5
            rw [h1, hy2, bol_ext _ _ _ (by rw [bol_size]; exact Nat.le_refl _), bol_size, List.take_of_length_le (Nat.le_refl _), show v9.toNat = (lead yr).length by omega, lead_drop]
          conv => cbv
          refine Room.new rfl ?_
          conv => cbv
          refine Room.new ⟨?_, ?_, ?_⟩ ?_
          · show (M.length : Int) = j * 4; rw [hM, csV_length, hj]; omega
          · show (j + 1) * 32 ≤ 140737488355328; omega
          · show j + 1 ≤ 9223372036854775807; omega
          conv => cbv
          refine Upd.mk fun M2 hM2 => ?_
          obtain ⟨M3, hM3⟩ : ∃ M3, M3 = csV (cs ++ [⟨2, a, b, v⟩]) := ⟨_, rfl⟩
          have hle : pvles M2 M3 := by
            have h1 : M2 = M ++ [.int .i64 (.lit 2), .int .i64 (.sym a), .int .i64 (.sym b), .int .i64 (.sym v)] := hM2
            rw [h1, hM3, csV_snoc, hM]
            exact pvles_app (pvles_refl _) (by unfold caV; simp [pvles, pvle, I.val])
          unfold pvles at hle
          conv => cbv
          refine Sum.mk fun j2 hj2 => ?_
          have hj2 : j2 = j + 1 := hj2
          have hj3 : j2 = ((cs ++ [⟨2, a, b, v⟩] : List Cs).length : Int) := by rw [List.length_append, hj2, hj]; rfl
          conv => cbv
          have hc : choiceB f0 s [] = choiceB k' (tail yr) (cs ++ [⟨2, a, b, v⟩]) := hc
          refine Again.mk k' _ (Nat.lt_succ_self _) (Re.at [(0, 0), (1, 1), (5, 2)] []) ⟨j2, M3, tail yr, y5, cs ++ [⟨2, a, b, v⟩], rfl, hc, hy5, hM3, hj3, by omega, (by show j2 + ((tail yr).length : Int) ≤ 2000; omega), (by show (tail yr).length < k'; omega)⟩
  have g3 : ¬ w3 = 114 := g3
  have hc114 : ¬ c = 114 := by rintro rfl; exact g3 (by rw [hw3]; rfl)
  conv => cbv
  refine Need.mk ⟨by show (0 : Int) ≤ 0; omega, by show (0 : Int) < (yz.size : Int); omega⟩ ?_
  conv => cbv
  refine Sum.mk fun w4 hw4 => ?_
  have hw4 : w4 = (c.toNat : Int) := by
    have : w4 = ((yz.get! (0 : Int).toNat).toNat : Int) := hw4
    rw [this, hyz, bol_get y _ c (by rw [hy1]; rfl)]
  conv => cbv
  refine Br.mk (fun g4 => ?_) (fun g4 => ?_)
  · have g4 : ¬ w4 = 101 := g4
    have hcv : caseV [c] = 0 := by unfold caseV; simp only; rw [if_neg hc115, if_neg hc114, if_neg (by rintro rfl; exact g4 (by rw [hw4]; rfl))]
    have e : (choiceB f0 s []).map (fun cs => (⟨21, 0, 0, 0, cs⟩ : Is)) = none := by rw [hc, if_pos hcv]; rfl
    conv => cbv
    refine RetF.mk [.agg [.p (.int .i64 (.sym 0)), .p (.int .i64 (.sym 0)), .p (.int .i64 (.sym 0)), .p (.int .i64 (.sym 0)), .p (.vsl (.sym 0) true [])], .p (.bool false)] [] 0 (Re.at [] []) rfl ⟨.no 0 0 0 0 0 [] e, rfl, rfl⟩
  have g4 : w4 = 101 := Classical.byContradiction g4
  have hcc : c = 101 := UInt8.toNat_inj.1 (by show c.toNat = 101; omega)
  have hcv : caseV [c] = 3 := by rw [hcc]; rfl
  rw [hcv, if_neg (by decide), show rdB (cshape 3) y1 .zero = rdB [110] y1 .zero from rfl, rd_e] at hc
  obtain ⟨yr, hyr⟩ : ∃ yr, yr = y1 := ⟨_, rfl⟩
  rw [← hyr] at hc
  have hyrl : y.length = yr.length + 1 := by rw [hy1, hyr]; rfl
  have hlr := lead_take yr
  have hldr := lead_drop yr
  have htl := lead_le yr
  have hltl : (lead yr).length + (tail yr).length = yr.length := by rw [← List.length_append, lead_tail]
  obtain ⟨v9, hv9⟩ : ∃ v9 : Int, v9 = (lead yr).length := ⟨_, rfl⟩
  conv => cbv
  refine Need.mk ⟨by show (0 : Int) ≤ 1; omega, by show (1 : Int) ≤ (yz.size : Int); omega⟩ ?_
  conv => cbv
  refine Str.mk fun y2 hy2 => ?_
  have hy2 : y2 = bytesOfL yr := by
    have h1 : y2 = yz.extract (1 : Int).toNat yz.size := hy2
    rw [h1, hyz, bol_ext _ _ _ (by rw [bol_size]; exact Nat.le_refl _), bol_size, List.take_of_length_le (Nat.le_refl _), hy1, hyr]; rfl
  have hy2s : (y2.size : Int) = yr.length := by rw [hy2, bol_size]
  conv => cbv
  refine callF_frame (rest_lx yr y2 v9 hy2 (by omega) hv9) [] rfl trivial rfl rfl (fun r2 h' n' ⟨e1, e2, e3⟩ => ?_)
  subst e1 e2 e3
  conv => cbv
  refine Need.mk ⟨by show (0 : Int) ≤ 0; omega, by show (0 : Int) ≤ v9; omega, by show v9 ≤ (y2.size : Int); omega⟩ ?_
  conv => cbv
  refine Str.mk fun y3 hy3 => ?_
  have hy3 : y3 = bytesOfL (lead yr) := by
    have h1 : y3 = y2.extract (0 : Int).toNat v9.toNat := hy3
    rw [h1, hy2, bol_ext _ _ _ (by omega), show v9.toNat = (lead yr).length by omega, lead_take]; rfl
  conv => cbv
  refine callF_frame (rNumber_lx (lead yr) y3 hy3 (by omega)) [] rfl trivial rfl rfl (fun r2 h' n' hrr => ?_)
  obtain ⟨e1, e2, e3⟩ := hrr
  subst e2 e3
  cases e1 with
  | no v hv =>
    have e : (choiceB f0 s []).map (fun cs => (⟨21, 0, 0, 0, cs⟩ : Is)) = none := by rw [hc, hv]; rfl
    conv => cbv
    refine RetF.mk [.agg [.p (.int .i64 (.sym 0)), .p (.int .i64 (.sym 0)), .p (.int .i64 (.sym 0)), .p (.int .i64 (.sym 0)), .p (.vsl (.sym 0) true [])], .p (.bool false)] [] 0 (Re.at [] []) rfl ⟨.no 0 0 0 0 0 [] e, rfl, rfl⟩
  | yes v hv =>
    rw [hv] at hc
    conv => cbv
    refine drawn_sound tok (by kernel_rfl) [(5, [3, 2, 1])] [0, 1, 2, 3, 4, 5, 6] (by kernel_rfl) ?_; conv => cbv
    refine Need.mk ⟨by show (0 : Int) ≤ v9; omega, by show v9 ≤ (y2.size : Int); omega⟩ ?_
    conv => cbv
    refine Str.mk fun y5 hy5 => ?_
    have hy5 : y5 = bytesOfL (tail yr) := by
      have h1 : y5 = y2.extract v9.toNat y2.size := hy5
      rw [h1, hy2, bol_ext _ _ _ (by rw [bol_size]; exact Nat.le_refl _), bol_size, List.take_of_length_le (Nat.le_refl _), show v9.toNat = (lead yr).length by omega, lead_drop]
    conv => cbv
    refine Room.new rfl ?_
    conv => cbv
    refine Room.new ⟨?_, ?_, ?_⟩ ?_
    · show (M.length : Int) = j * 4; rw [hM, csV_length, hj]; omega
    · show (j + 1) * 32 ≤ 140737488355328; omega
    · show j + 1 ≤ 9223372036854775807; omega
    conv => cbv
    refine Upd.mk fun M2 hM2 => ?_
    obtain ⟨M3, hM3⟩ : ∃ M3, M3 = csV (cs ++ [⟨3, 0, 0, v⟩]) := ⟨_, rfl⟩
    have hle : pvles M2 M3 := by
      have h1 : M2 = M ++ [.int .i64 (.lit 3), .int .i64 (.lit 0), .int .i64 (.lit 0), .int .i64 (.sym v)] := hM2
      rw [h1, hM3, csV_snoc, hM]
      exact pvles_app (pvles_refl _) (by unfold caV; simp [pvles, pvle, I.val])
    unfold pvles at hle
    conv => cbv
    refine Sum.mk fun j2 hj2 => ?_
    have hj2 : j2 = j + 1 := hj2
    have hj3 : j2 = ((cs ++ [⟨3, 0, 0, v⟩] : List Cs).length : Int) := by rw [List.length_append, hj2, hj]; rfl
    conv => cbv
    have hc : choiceB f0 s [] = if (3 : Int) = 3 ∧ (tail yr).isEmpty = false then none else choiceB k' (tail yr) (cs ++ [⟨3, 0, 0, v⟩]) := hc
    refine Br.mk (fun g8 => ?_) (fun g8 => ?_)
    · have g8 : ¬ y5 = ⟨#[]⟩ := g8
      have hne : (tail yr).isEmpty = false := by
        cases e9 : tail yr with
        | nil => exact absurd (by rw [hy5, e9]; rfl) g8
        | cons _ _ => rfl
      have e : (choiceB f0 s []).map (fun cs => (⟨21, 0, 0, 0, cs⟩ : Is)) = none := by rw [hc, if_pos ⟨rfl, hne⟩]; rfl
      conv => cbv
      refine RetF.mk [.agg [.p (.int .i64 (.sym 0)), .p (.int .i64 (.sym 0)), .p (.int .i64 (.sym 0)), .p (.int .i64 (.sym 0)), .p (.vsl (.sym 0) true [])], .p (.bool false)] [] 0 (Re.at [] []) rfl ⟨.no 0 0 0 0 0 [] e, rfl, rfl⟩
    have g8 : y5 = ⟨#[]⟩ := Classical.byContradiction g8
    have hne : (tail yr).isEmpty = true := by rw [hy5] at g8; rw [(bol_nil _).1 g8]; rfl
    rw [if_neg (by rw [hne]; simp)] at hc
    conv => cbv
    refine Again.mk k' _ (Nat.lt_succ_self _) (Re.at [(0, 0), (1, 1), (5, 2)] []) ⟨j2, M3, tail yr, y5, cs ++ [⟨3, 0, 0, v⟩], rfl, hc, hy5, hM3, hj3, by omega, (by show j2 + ((tail yr).length : Int) ≤ 2000; omega), (by show (tail yr).length < k'; omega)⟩
end Go.Proofs.YtfjdifeofnpcnaaDoor
/-
  Layer 2: the reference's lines.
-/
namespace Go.Proofs.YtfjdifeofnpcnaaDoor

open Go Go.LX
set_option maxRecDepth 100000
set_option linter.unusedVariables false
set_option linter.unusedSimpArgs false

structure Fm where
  op : Int
  letter : UInt8
  args : List UInt8
def formsL : List Fm := [⟨1, 61, [97, 78]⟩, ⟨2, 60, [97, 98]⟩, ⟨3, 43, [97, 98]⟩, ⟨4, 109, [97, 78]⟩, ⟨5, 115, [97, 98]⟩, ⟨6, 114, [97, 98]⟩, ⟨7, 99, [97]⟩, ⟨8, 108, [97, 98]⟩, ⟨9, 107, [97, 98]⟩, ⟨10, 103, [78]⟩, ⟨11, 106, [78]⟩, ⟨12, 122, [97, 78]⟩, ⟨13, 111, [97]⟩, ⟨14, 116, [97, 78]⟩, ⟨15, 98, [97, 98]⟩, ⟨16, 117, [97, 98]⟩, ⟨17, 119, [97, 98]⟩, ⟨18, 112, [110, 97]⟩, ⟨19, 113, [97, 78]⟩, ⟨20, 102, [97, 78]⟩, ⟨22, 120, []⟩]
def fmC (f : Fm) : List PV := [.int .i64 (.sym f.op), .int .u8 (.sym f.letter.toNat), .str fun _ => bytesOfL f.args]
def formsV : List PV := formsL.flatMap fmC
theorem forms_fact (i : Nat) (f : Fm) (h : formsL[i]? = some f) : opV [f.letter] = f.op ∧ f.op ≠ 0 ∧ f.op ≠ 21 ∧ f.args.map kmap = shapeV f.op ∧ f.args.length ≤ 5 := by
  have hi : i < 21 := (List.getElem?_eq_some_iff.1 h).1
  have key : ∀ i : Fin 21, opV [(formsL[i.val]'(show i.val < 21 from i.isLt)).letter] = (formsL[i.val]'(show i.val < 21 from i.isLt)).op ∧ (formsL[i.val]'(show i.val < 21 from i.isLt)).op ≠ 0 ∧ (formsL[i.val]'(show i.val < 21 from i.isLt)).op ≠ 21 ∧ (formsL[i.val]'(show i.val < 21 from i.isLt)).args.map kmap = shapeV (formsL[i.val]'(show i.val < 21 from i.isLt)).op ∧ (formsL[i.val]'(show i.val < 21 from i.isLt)).args.length ≤ 5 := by decide +kernel
  have := key ⟨i, hi⟩
  rw [← (List.getElem?_eq_some_iff.1 h).2]
  exact this
theorem forms_none (c : UInt8) (h : ∀ (i : Nat) (f : Fm), formsL[i]? = some f → f.letter ≠ c) (hS : c ≠ 83) : opV [c] = 0 := by
  have key : ∀ x : Fin 256, (∀ f ∈ formsL, f.letter ≠ UInt8.ofNat x.val) → UInt8.ofNat x.val ≠ 83 → opV [UInt8.ofNat x.val] = 0 := by decide +kernel
  have h2 := key ⟨c.toNat, c.toNat_lt⟩
  simp only [UInt8.ofNat_toNat] at h2
  refine h2 (fun f hf => ?_) hS
  obtain ⟨i, hi⟩ := List.getElem?_of_mem hf
  exact h i f hi
theorem formsV_get (i : Nat) (f : Fm) (h : formsL[i]? = some f) : formsV[i * 3]? = some (.int .i64 (.sym f.op)) ∧ formsV[i * 3 + 1]? = some (.int .u8 (.sym f.letter.toNat)) ∧ formsV[i * 3 + 2]? = some (.str fun _ => bytesOfL f.args) := by
  suffices hs : ∀ (l : List Fm) (i : Nat), l[i]? = some f → (l.flatMap fmC)[i * 3]? = some (.int .i64 (.sym f.op)) ∧ (l.flatMap fmC)[i * 3 + 1]? = some (.int .u8 (.sym f.letter.toNat)) ∧ (l.flatMap fmC)[i * 3 + 2]? = some (.str fun _ => bytesOfL f.args) from hs formsL i h
  intro l
  induction l with
  | nil => intro i hi; simp at hi
  | cons g l ih =>
    intro i hi
    cases i with
    | zero => simp at hi; subst hi; exact ⟨rfl, rfl, rfl⟩
    | succ i =>
      have := ih i (by simpa using hi)
      rw [List.flatMap_cons, show (i + 1) * 3 = i * 3 + 3 by omega]
      exact this
set_option maxHeartbeats 2000000 in
theorem forms_lx : CallF (fun _ => Tryd.prog) 58 [] [] 0 (fun r h n => r = .p (.vsl (.sym 21) true formsV) ∧ h = [] ∧ n = 0) := by
  refine callF_of_body tok Tryd.func58 (by kernel_rfl) rfl rfl rfl ?_; conv => cbv
  refine RetF.mk [.p (.vsl (.sym 21) true [.int .i64 (.sym 1), .int .u8 (.sym 61), .str fun _ => ⟨⟨[97, 78]⟩⟩, .int .i64 (.sym 2), .int .u8 (.sym 60), .str fun _ => ⟨⟨[97, 98]⟩⟩, .int .i64 (.sym 3), .int .u8 (.sym 43), .str fun _ => ⟨⟨[97, 98]⟩⟩, .int .i64 (.sym 4), .int .u8 (.sym 109), .str fun _ => ⟨⟨[97, 78]⟩⟩, .int .i64 (.sym 5), .int .u8 (.sym 115), .str fun _ => ⟨⟨[97, 98]⟩⟩, .int .i64 (.sym 6), .int .u8 (.sym 114), .str fun _ => ⟨⟨[97, 98]⟩⟩, .int .i64 (.sym 7), .int .u8 (.sym 99), .str fun _ => ⟨⟨[97]⟩⟩, .int .i64 (.sym 8), .int .u8 (.sym 108), .str fun _ => ⟨⟨[97, 98]⟩⟩, .int .i64 (.sym 9), .int .u8 (.sym 107), .str fun _ => ⟨⟨[97, 98]⟩⟩, .int .i64 (.sym 10), .int .u8 (.sym 103), .str fun _ => ⟨⟨[78]⟩⟩, .int .i64 (.sym 11), .int .u8 (.sym 106), .str fun _ => ⟨⟨[78]⟩⟩, .int .i64 (.sym 12), .int .u8 (.sym 122), .str fun _ => ⟨⟨[97, 78]⟩⟩, .int .i64 (.sym 13), .int .u8 (.sym 111), .str fun _ => ⟨⟨[97]⟩⟩, .int .i64 (.sym 14), .int .u8 (.sym 116), .str fun _ => ⟨⟨[97, 78]⟩⟩, .int .i64 (.sym 15), .int .u8 (.sym 98), .str fun _ => ⟨⟨[97, 98]⟩⟩, .int .i64 (.sym 16), .int .u8 (.sym 117), .str fun _ => ⟨⟨[97, 98]⟩⟩, .int .i64 (.sym 17), .int .u8 (.sym 119), .str fun _ => ⟨⟨[97, 98]⟩⟩, .int .i64 (.sym 18), .int .u8 (.sym 112), .str fun _ => ⟨⟨[110, 97]⟩⟩, .int .i64 (.sym 19), .int .u8 (.sym 113), .str fun _ => ⟨⟨[97, 78]⟩⟩, .int .i64 (.sym 20), .int .u8 (.sym 102), .str fun _ => ⟨⟨[97, 78]⟩⟩, .int .i64 (.sym 22), .int .u8 (.sym 120), .str fun _ => ⟨⟨[]⟩⟩])] [] 0 (Re.at [] []) rfl ⟨rfl, rfl, rfl⟩
set_option maxHeartbeats 4000000 in
theorem one_lx (c : UInt8) (s : List UInt8) (z : ByteArray) (hz : z = bytesOfL (c :: s)) (hlen : s.length < 2000) :
    CallF (fun _ => Tryd.prog) 37 [.p (.str fun _ => z)] [] 0 (fun r h n => OptX (decB (c :: s)) r ∧ h = [] ∧ n = 0) := by
  obtain ⟨N, hN⟩ : ∃ N : Int, N = s.length + 1 := ⟨_, rfl⟩
  have hzs : (z.size : Int) = N := by rw [hz, bol_size, hN, List.length_cons]; omega
  refine callF_of_body tok Tryd.func37 (by kernel_rfl) rfl rfl rfl ?_; conv => cbv
  refine Need.mk ⟨by show (0 : Int) ≤ 0; omega, by show (0 : Int) < (z.size : Int); omega⟩ ?_
  conv => cbv
  refine Sum.mk fun w hw => ?_
  have hw : w = (c.toNat : Int) := by
    have : w = ((z.get! (0 : Int).toNat).toNat : Int) := hw
    rw [this, hz, bol_get _ _ c rfl]
  conv => cbv
  refine Br.mk (fun g => ?_) (fun g => ?_)
  · have g : w = 83 := g
    have hcc : c = 83 := UInt8.toNat_inj.1 (by show c.toNat = 83; omega)
    conv => cbv
    refine Need.mk ⟨by show (0 : Int) ≤ 1; omega, by show (1 : Int) ≤ (z.size : Int); omega⟩ ?_
    conv => cbv
    refine Str.mk fun y2 hy2 => ?_
    have hy2 : y2 = bytesOfL s := by
      have h1 : y2 = z.extract (1 : Int).toNat z.size := hy2
      rw [h1, hz, bol_ext _ _ _ (by rw [bol_size]; exact Nat.le_refl _), bol_size, List.take_of_length_le (Nat.le_refl _)]; rfl
    have hde : decB (c :: s) = (choiceB (s.length + 2) s []).map fun cs => ⟨21, 0, 0, 0, cs⟩ := by rw [decB, show opV [c] = 21 by rw [hcc]; rfl, if_neg (by decide), if_pos rfl]
    conv => cbv
    refine callF_frame (choice_lx s y2 (s.length + 2) hy2 (by omega) (by omega)) [] rfl trivial rfl rfl (fun r2 h' n' hrr => ?_)
    obtain ⟨e1, e2, e3⟩ := hrr
    subst e2 e3
    rw [← hde] at e1
    cases e1 with
    | yes x k L ho hk hL =>
      obtain ⟨op, hop⟩ : ∃ op, op = x.op := ⟨_, rfl⟩
      obtain ⟨a, ha⟩ : ∃ a, a = x.a := ⟨_, rfl⟩
      obtain ⟨b, hb⟩ : ∃ b, b = x.b := ⟨_, rfl⟩
      obtain ⟨n, hn⟩ : ∃ n, n = x.n := ⟨_, rfl⟩
      rw [← hop, ← ha, ← hb, ← hn]
      conv => cbv
      refine RetF.mk [.agg [.p (.int .i64 (.sym op)), .p (.int .i64 (.sym a)), .p (.int .i64 (.sym b)), .p (.int .i64 (.sym n)), .p (.vsl (.sym k) true L)], .p (.bool true)] [] 0 (Re.at [] []) rfl ⟨?_, rfl, rfl⟩
      rw [hop, ha, hb, hn]; exact .yes x k L ho hk hL
    | no p a b n k L ho =>
      conv => cbv
      refine RetF.mk [.agg [.p (.int .i64 (.sym p)), .p (.int .i64 (.sym a)), .p (.int .i64 (.sym b)), .p (.int .i64 (.sym n)), .p (.vsl (.sym k) true L)], .p (.bool false)] [] 0 (Re.at [] []) rfl ⟨.no p a b n k L ho, rfl, rfl⟩
  · have g : ¬ w = 83 := g
    have hc83 : ¬ c = 83 := by rintro rfl; exact g (by rw [hw]; rfl)
    conv => cbv
    refine callF_frame forms_lx [] rfl trivial rfl rfl (fun r2 h' n' ⟨e1, e2, e3⟩ => ?_)
    subst e1 e2 e3
    obtain ⟨FV, hFV⟩ : ∃ FV, FV = formsV := ⟨_, rfl⟩
    rw [← hFV]
    conv => cbv
    refine LoopF.mk (fun kk st => ∃ i : Int, st = ⟨.p (.str fun _ => z) :: .undef :: .ptr 0 (.lit 0) :: .p (.bool false) :: .p (.vsl (.sym 21) true FV) :: .p (.int .i64 (.sym i)) :: undefs 33, [(0, .pure false [.int .i64 (.sym 0), .int .i64 (.sym 0), .int .i64 (.sym 0), .int .i64 (.sym 0), .nils])], 1⟩ ∧ (∀ (k : Nat) (f : Fm), k < i.toNat → formsL[k]? = some f → f.letter ≠ c) ∧ 0 ≤ i ∧ i ≤ 21 ∧ kk = (21 - i).toNat) 21 _
      (Re.at [(0, 0)] []) ⟨0, rfl, (fun k f hk => absurd hk (Nat.not_lt_zero _)), by omega, by omega, by omega⟩ ?_
    rintro kk st ⟨i, rfl, hno, h0, h1, hkk⟩
    conv => cbv
    refine Br.mk (fun g2 => ?_) (fun g2 => ?_)
    · have g2 : i < 21 := g2
      obtain ⟨f, hf⟩ : ∃ f, formsL[i.toNat]? = some f := ⟨_, List.getElem?_eq_getElem (by show i.toNat < 21; omega)⟩
      have hfg := formsV_get _ _ hf
      have hff := forms_fact _ _ hf
      rw [← hFV] at hfg
      obtain ⟨fo, hfo⟩ : ∃ q, q = f.op := ⟨_, rfl⟩
      obtain ⟨fl, hfl⟩ : ∃ q : Int, q = f.letter.toNat := ⟨_, rfl⟩
      obtain ⟨fa, hfa⟩ : ∃ q, q = bytesOfL f.args := ⟨_, rfl⟩
      rw [← hfo, ← hfl, ← hfa] at hfg
      obtain ⟨k', rfl⟩ : ∃ k', kk = k' + 1 := ⟨kk - 1, by omega⟩
      conv => cbv
      refine draw_sound tok (by kernel_rfl) rfl (by kernel_rfl) ?_
      conv => cbv
      refine Need.mk ⟨by show (0 : Int) ≤ i; omega, by show i < 21; omega⟩ ?_
      conv => cbv
      refine Sum.mk fun w1 hw1 => ?_
      have hw1 : w1 = i * 3 := hw1
      conv => cbv
      refine Sum.mk fun w2 hw2 => ?_
      have hw2 : w2 = w1 + 1 := hw2
      conv => cbv
      refine Cell.at w2 (i.toNat * 3 + 1) hfg.2.1 (by simp [I.val]) (by omega) ?_
      conv => cbv
      refine Need.mk ⟨by show (0 : Int) ≤ 0; omega, by show (0 : Int) < (z.size : Int); omega⟩ ?_
      conv => cbv
      refine Sum.mk fun w3 hw3 => ?_
      have hw3 : w3 = (c.toNat : Int) := by
        have : w3 = ((z.get! (0 : Int).toNat).toNat : Int) := hw3
        rw [this, hz, bol_get _ _ c rfl]
      conv => cbv
      refine Br.mk (fun g3 => ?_) (fun g3 => ?_)
      · have g3 : fl = w3 := g3
        have hfc : f.letter = c := UInt8.toNat_inj.1 (by omega)
        have hde : decB (c :: s) = (endB (rdB (f.args.map kmap) s .zero)).map fun g => ⟨fo, g.a, g.b, g.n, []⟩ := by
          rw [decB, ← hfc, hff.1, if_neg hff.2.1, if_neg hff.2.2.1, hff.2.2.2.1, hfo]
        conv => cbv
        refine drawn_sound tok (by kernel_rfl) [(6, []), (9, [])] [0, 1, 2, 3, 4, 5, 6, 7, 8, 9, 10] (by kernel_rfl) ?_; conv => cbv
        refine Need.mk ⟨by show (0 : Int) ≤ i; omega, by show i < 21; omega⟩ ?_
        conv => cbv
        refine Sum.mk fun w4 hw4 => ?_
        have hw4 : w4 = i * 3 := hw4
        conv => cbv
        refine Cell.at w4 (i.toNat * 3) hfg.1 (by simp [I.val]) (by omega) ?_
        conv => cbv
        refine Cell.at (w4 + 1) (i.toNat * 3 + 1) hfg.2.1 (by simp [I.val]) (by omega) ?_
        conv => cbv
        refine Cell.at (w4 + 2) (i.toNat * 3 + 2) hfg.2.2 (by simp [I.val]) (by omega) ?_
        conv => cbv
        refine Need.mk ⟨by show (0 : Int) ≤ 1; omega, by show (1 : Int) ≤ (z.size : Int); omega⟩ ?_
        conv => cbv
        refine Str.mk fun y2 hy2 => ?_
        have hy2 : y2 = bytesOfL s := by
          have h1 : y2 = z.extract (1 : Int).toNat z.size := hy2
          rw [h1, hz, bol_ext _ _ _ (by rw [bol_size]; exact Nat.le_refl _), bol_size, List.take_of_length_le (Nat.le_refl _)]; rfl
        conv => cbv
        refine callF_frame (simple_lx fo fl f.args s fa y2 hfa hy2 hff.2.2.2.2 (by omega)) [] rfl trivial rfl rfl (fun r2 h' n' hrr => ?_)
        obtain ⟨e1, e2, e3⟩ := hrr
        subst e2 e3
        rw [← hde] at e1
        cases e1 with
        | yes x k L ho hk hL =>
          obtain ⟨op, hop⟩ : ∃ op, op = x.op := ⟨_, rfl⟩
          obtain ⟨a, ha⟩ : ∃ a, a = x.a := ⟨_, rfl⟩
          obtain ⟨b, hb⟩ : ∃ b, b = x.b := ⟨_, rfl⟩
          obtain ⟨n, hn⟩ : ∃ n, n = x.n := ⟨_, rfl⟩
          rw [← hop, ← ha, ← hb, ← hn]
          conv => cbv
          refine RetF.mk [.agg [.p (.int .i64 (.sym op)), .p (.int .i64 (.sym a)), .p (.int .i64 (.sym b)), .p (.int .i64 (.sym n)), .p (.vsl (.sym k) true L)], .p (.bool true)] [] 0 (Re.at [] []) rfl ⟨?_, rfl, rfl⟩
          rw [hop, ha, hb, hn]; exact .yes x k L ho hk hL
        | no p a b n k L ho =>
          conv => cbv
          refine RetF.mk [.agg [.p (.int .i64 (.sym p)), .p (.int .i64 (.sym a)), .p (.int .i64 (.sym b)), .p (.int .i64 (.sym n)), .p (.vsl (.sym k) true L)], .p (.bool false)] [] 0 (Re.at [] []) rfl ⟨.no p a b n k L ho, rfl, rfl⟩
      · have g3 : ¬ fl = w3 := g3
        have hfc : f.letter ≠ c := fun h => g3 (by rw [hfl, hw3, h])
        conv => cbv
        refine Fit.mk (by show (-9223372036854775808 : Int) ≤ i + 1; omega) (by show i + 1 ≤ 9223372036854775807; omega) fun i2 hi2 => ?_
        have hi2 : i2 = i + 1 := hi2
        conv => cbv
        refine Again.mk k' _ (Nat.lt_succ_self _) (Re.at [(0, 0)] []) ⟨i2, rfl, (fun k f2 hk hf2 => ?_), by omega, by omega, by omega⟩
        by_cases hkk2 : k = i.toNat
        · rw [hkk2, hf] at hf2; cases hf2; exact hfc
        · exact hno k f2 (by omega) hf2
    · have g2 : ¬ i < 21 := g2
      have h00 : opV [c] = 0 := forms_none c (fun k f hk => hno k f (by have := (List.getElem?_eq_some_iff.1 hk).1; have h21 : formsL.length = 21 := rfl; omega) hk) hc83
      have hde : decB (c :: s) = none := by rw [decB, if_pos h00]
      conv => cbv
      refine RetF.mk [.agg [.p (.int .i64 (.sym 0)), .p (.int .i64 (.sym 0)), .p (.int .i64 (.sym 0)), .p (.int .i64 (.sym 0)), .p (.vsl (.sym 0) true [])], .p (.bool false)] [] 0 (Re.at [] []) rfl ⟨.no 0 0 0 0 0 [] hde, rfl, rfl⟩
end Go.Proofs.YtfjdifeofnpcnaaDoor
/-
  Layer 1: the reference's lines of any text.
-/
namespace Go.Proofs.YtfjdifeofnpcnaaDoor

open Go Go.LX
set_option maxRecDepth 100000
set_option linter.unusedVariables false
set_option linter.unusedSimpArgs false

/-- What Lines tells. -/
inductive LinesR (D : List (List UInt8) × Int) : LV → LH → Nat → Prop
  | ok (ls : List (List UInt8)) (k : Int) (L : List PV) (h : D = (ls, 0)) (hk : k = ls.length) (hL : L = spv ls) : LinesR D (.tup [.sl 0 9 1 (.lit 0) (.sym k), .p (.int .i64 (.sym 0))]) [(0, .pure true L)] 1
  | bad (v : Int) (h : D = ([], v)) (h0 : v ≠ 0) : LinesR D (.tup [.p .nils, .p (.int .i64 (.sym v))]) [] 0
set_option maxHeartbeats 8000000 in
theorem rLines_lx (z : ByteArray) (hzz : z.size ≤ 3000000) : CallF (fun _ => Tryd.prog) 36 [.p (.str fun _ => z)] [] 0 (LinesR (linesV z)) := by
  obtain ⟨N, hN⟩ : ∃ N : Int, N = z.size := ⟨_, rfl⟩
  obtain ⟨R, hR⟩ : ∃ R : Int, R = (runesOf z).length := ⟨_, rfl⟩
  obtain ⟨W, hW⟩ : ∃ W : Int, W = wrongs (runesOf z) := ⟨_, rfl⟩
  obtain ⟨D, hD⟩ : ∃ D, D = linesV z := ⟨_, rfl⟩
  have hDs : D = _ := hD.trans (linesV_sign z)
  have hRN : R ≤ N := by have := runesFrom_length z z.size 0; rw [hR, hN]; unfold runesOf; omega
  obtain ⟨rl, hrl⟩ : ∃ rl : Int → Int, ∀ p, rl p = (restR z p.toNat).length := ⟨_, fun _ => rfl⟩
  obtain ⟨wl, hwl⟩ : ∃ wl : Int → Int, ∀ p, wl p = wrongs (restR z p.toNat) := ⟨_, fun _ => rfl⟩
  have rl0 : rl 0 = R := by rw [hrl, hR]; rfl
  have wl0 : wl 0 = W := by rw [hwl, hW]; rfl
  have hnn : ∀ p, 0 ≤ rl p ∧ 0 ≤ wl p := fun p => by rw [hrl, hwl]; omega
  rw [← hD]
  refine callF_of_body tok Tryd.func36 (by kernel_rfl) rfl rfl rfl ?_; conv => cbv
  refine LoopF.mk (fun k s => ∃ pos ct : Int, s = ⟨.p (.str fun _ => z) :: (undefs 3 ++ .p (.int .i64 (.sym ct)) :: (undefs 4 ++ .p (.str fun _ => z) :: .ptr 0 (.lit 0) :: undefs 56)), [(0, .iter (fun _ => z) (.sym pos))], 1⟩ ∧ 0 ≤ pos ∧ ct + rl pos = R ∧ 0 ≤ ct ∧ (N - pos).toNat ≤ k) N.toNat _
    (Re.at [(0, 0)] []) ⟨0, 0, rfl, by omega, by omega, by omega, by omega⟩ ?_
  rintro k s ⟨pos, ct, rfl, h0, h1, h3, hk⟩
  have hnp := hnn pos
  conv => cbv
  by_cases hend : N ≤ pos
  case neg =>
    have hnx := restR_next z pos.toNat (by omega)
    have hwp := width_pos z pos.toNat (by omega)
    obtain ⟨k', rfl⟩ : ∃ k', k = k' + 1 := ⟨k - 1, by omega⟩
    refine NextS.more (by show pos < (z.size : Int); omega) ?_
    intro r p' hr hp
    have hp : p' = pos + ((Utf8.decode z pos.toNat).2 : Int) := hp
    have hpn : p'.toNat = pos.toNat + (Utf8.decode z pos.toNat).2 := by omega
    have erl : rl pos = 1 + rl p' := by rw [hrl, hrl, hnx, hpn, List.length_cons]; omega
    have hn2 := hnn p'
    conv => cbv
    refine Fit.mk (by show (-9223372036854775808 : Int) ≤ ct + 1; omega) (by show ct + 1 ≤ 9223372036854775807; omega) fun c2 hc2 => ?_
    have hc2 : c2 = ct + 1 := hc2
    conv => cbv
    refine Again.mk k' _ (Nat.lt_succ_self _) (Re.at [(0, 0)] []) ⟨p', c2, rfl, by omega, by omega, by omega, by omega⟩
  have e1 : rl pos = 0 := by rw [hrl, restR_end z _ (by omega)]; rfl
  refine NextS.over (by show (z.size : Int) ≤ pos; omega) ?_
  conv => cbv
  refine Br.mk (fun g => ?_) (fun g => ?_)
  · have g : 2000 < ct := g
    have hsv : signV z = 3 := by rw [signV, if_pos (by omega)]
    have e : D = ([], 3) := by rw [hDs, hsv]; rfl
    conv => cbv
    refine RetF.mk [.p .nils, .p (.int .i64 (.sym 3))] [] 0 (Re.at [] []) rfl (.bad 3 e (by decide))
  have g : ¬ 2000 < ct := g
  have hR2 : R ≤ 2000 := by omega
  conv => cbv
  clear rl0 e1 hend h3
  obtain ⟨bl, hbl⟩ : ∃ bl, bl = z.data.toList := ⟨_, rfl⟩
  have hzb : z = bytesOfL bl := by rw [hbl]; exact ByteArray.ext (by simp [bytesOfL])
  have hblN : (bl.length : Int) = N := by rw [hN, hbl]; simp
  rw [← hbl] at hDs
  obtain ⟨cl, hcl⟩ : ∃ cl : List UInt8 → Int, ∀ l, cl l = l.length := ⟨_, fun _ => rfl⟩
  obtain ⟨ll, hll⟩ : ∃ ll : List (List UInt8) → Int, ∀ l, ll l = l.length := ⟨_, fun _ => rfl⟩
  have ll0 : ll [] = 0 := by rw [hll]; rfl
  have s0 : partsOf (bl.take (0 : Int).toNat) = ([], []) := rfl
  obtain ⟨E, hE⟩ : ∃ E : ByteArray, E = ⟨⟨[]⟩⟩ := ⟨_, rfl⟩
  have hE2 : E = bytesOfL [] := hE
  refine LoopF.mk (fun kk s => ∃ (pos j : Int) (y : ByteArray) (LL : List PV) (ls : List (List UInt8)) (cur : List UInt8), s = ⟨.p (.str fun _ => z) :: (undefs 4 ++ .sl 2 9 1 (.lit 0) (.sym j) :: .p (.str fun _ => y) :: (undefs 10 ++ .p (.str fun _ => z) :: .ptr 1 (.lit 0) :: undefs 48)), [(1, .iter (fun _ => z) (.sym pos)), (2, .pure true LL)], 3⟩ ∧ partsOf (bl.take pos.toNat) = (ls, cur) ∧ y = bytesOfL cur ∧ LL = spv ls ∧ j = ll ls ∧ W = wl pos ∧ 0 ≤ pos ∧ pos ≤ N ∧ (N - pos).toNat ≤ kk) N.toNat _
    (Re.at [(1, 1)] [2]) ⟨0, 0, E, [], [], [], rfl, s0, hE2, rfl, ll0.symm, wl0.symm, by omega, by omega, by omega⟩ ?_
  clear s0
  rintro kk s ⟨pos, j, y, LL, ls, cur, rfl, hst, hy, hLL, hj, hWp, h0, h1, hkk⟩
  have hle := parts_le (bl.take pos.toNat)
  rw [hst] at hle
  have htl : (bl.take pos.toNat).length ≤ 3000000 := by rw [List.length_take]; omega
  have hls2 : ls.length ≤ 3000000 := by dsimp only at hle; omega
  have hcu2 : cur.length ≤ 3000000 := by dsimp only at hle; omega
  clear hle htl
  have hys : y.size ≤ 3000000 := by rw [hy, bol_size]; exact hcu2
  have hjl : (LL.length : Int) = j := by rw [hLL, spv_length, hj, hll]
  have hjb : j ≤ 3000000 := by rw [hj, hll]; omega
  have hj0 : 0 ≤ j := by rw [hj, hll]; omega
  conv => cbv
  by_cases hend : pos = N
  · have hfull : bl.take pos.toNat = bl := List.take_of_length_le (by omega)
    rw [hfull] at hst
    have hW0 : W = 0 := by rw [hWp, hwl, restR_end z _ (by omega)]; rfl
    have hsv : signV z = 0 := by rw [signV, if_neg (by omega), if_neg (by omega)]
    rw [hsv, if_neg (by simp)] at hDs
    refine NextS.over (by show (z.size : Int) ≤ pos; omega) ?_
    conv => cbv
    refine Br.mk (fun g2 => ?_) (fun g2 => ?_)
    · have g2 : ¬ y = ⟨#[]⟩ := g2
      have hc0 : ¬ cur = [] := by intro h; exact g2 (by rw [hy, h]; rfl)
      have hcl2 : closed (partsOf bl) = ls ++ [cur] := by rw [hst, closed, if_neg hc0]
      rw [hcl2] at hDs
      conv => cbv
      refine Room.new rfl ?_
      conv => cbv
      refine Room.new ⟨?_, ?_, ?_⟩ ?_
      · show (LL.length : Int) = j * 1; omega
      · show (j + 1) * 16 ≤ 140737488355328; omega
      · show j + 1 ≤ 9223372036854775807; omega
      conv => cbv
      refine Upd.mk fun L2 hL2 => ?_
      have hL2 : L2 = spv (ls ++ [cur]) := by rw [← spv_app, ← hLL, ← hy]; exact hL2
      conv => cbv
      refine Sum.mk fun j2 hj2 => ?_
      have hj2 : j2 = j + 1 := hj2
      have hj3 : j2 = ll (ls ++ [cur]) := by rw [hj2, hj, hll, hll, List.length_append]; rfl
      conv => cbv
      refine Br.mk (fun g3 => ?_) (fun g3 => ?_)
      · have g3 : j2 = 0 := g3
        rw [if_pos (by rw [hj3, hll] at g3; omega)] at hDs
        conv => cbv
        refine RetF.mk [.p .nils, .p (.int .i64 (.sym 7))] [] 0 (Re.at [] []) rfl (.bad 7 hDs (by decide))
      have g3 : ¬ j2 = 0 := g3
      rw [if_neg (by rw [hj3, hll] at g3; omega)] at hDs
      conv => cbv
      refine Br.mk (fun g4 => ?_) (fun g4 => ?_)
      · have g4 : 60 < j2 := g4
        rw [if_pos (by rw [hj3, hll] at g4; omega)] at hDs
        conv => cbv
        refine RetF.mk [.p .nils, .p (.int .i64 (.sym 3))] [] 0 (Re.at [] []) rfl (.bad 3 hDs (by decide))
      have g4 : ¬ 60 < j2 := g4
      rw [if_neg (by rw [hj3, hll] at g4; omega)] at hDs
      conv => cbv
      refine RetF.mk [.sl 0 9 1 (.lit 0) (.sym j2), .p (.int .i64 (.sym 0))] [(0, .pure true L2)] 1 (Re.at [(4, 0)] []) rfl (.ok (ls ++ [cur]) j2 L2 hDs (by rw [hj3, hll]) hL2)
    · have g2 : y = ⟨#[]⟩ := Classical.byContradiction g2
      have hc0 : cur = [] := by rw [hy] at g2; exact (bol_nil cur).1 g2
      have hcl2 : closed (partsOf bl) = ls := by rw [hst, closed, if_pos hc0]
      rw [hcl2] at hDs
      conv => cbv
      refine Br.mk (fun g3 => ?_) (fun g3 => ?_)
      · have g3 : j = 0 := g3
        rw [if_pos (by rw [hj, hll] at g3; omega)] at hDs
        conv => cbv
        refine RetF.mk [.p .nils, .p (.int .i64 (.sym 7))] [] 0 (Re.at [] []) rfl (.bad 7 hDs (by decide))
      have g3 : ¬ j = 0 := g3
      rw [if_neg (by rw [hj, hll] at g3; omega)] at hDs
      conv => cbv
      refine Br.mk (fun g4 => ?_) (fun g4 => ?_)
      · have g4 : 60 < j := g4
        rw [if_pos (by rw [hj, hll] at g4; omega)] at hDs
        conv => cbv
        refine RetF.mk [.p .nils, .p (.int .i64 (.sym 3))] [] 0 (Re.at [] []) rfl (.bad 3 hDs (by decide))
      have g4 : ¬ 60 < j := g4
      rw [if_neg (by rw [hj, hll] at g4; omega)] at hDs
      conv => cbv
      refine RetF.mk [.sl 0 9 1 (.lit 0) (.sym j), .p (.int .i64 (.sym 0))] [(0, .pure true LL)] 1 (Re.at [(2, 0)] []) rfl (.ok ls j LL hDs (by rw [hj, hll]) hLL)
  · have hnx := restR_next z pos.toNat (by omega)
    obtain ⟨c, hc⟩ : ∃ c, bl[pos.toNat]? = some c := ⟨_, List.getElem?_eq_getElem (by omega)⟩
    obtain ⟨k', rfl⟩ : ∃ k', kk = k' + 1 := ⟨kk - 1, by omega⟩
    have hpz : pos.toNat < z.size := by omega
    have hzc : z[pos.toNat]'hpz = c := by
      have := (List.getElem?_eq_some_iff.1 hc).2
      subst hzb
      simpa [bytesOfL, ByteArray.getElem_eq_getElem_data] using this
    have hlow : c.toNat < 128 → Utf8.decode z pos.toNat = (c.toNat, 1) := fun h => by
      rw [decode_ascii z pos.toNat hpz (by rw [hzc]; exact h), hzc]
    have hhigh : 128 ≤ c.toNat → 128 ≤ (Utf8.decode z pos.toNat).1 := fun h => (decode_high z pos.toNat hpz (by rw [hzc]; exact h)).1
    refine NextS.more (by show pos < (z.size : Int); omega) ?_
    intro r p' hr hp
    have hr : r = ((Utf8.decode z pos.toNat).1 : Int) := hr
    have hp : p' = pos + ((Utf8.decode z pos.toNat).2 : Int) := hp
    have hpn : p'.toNat = pos.toNat + (Utf8.decode z pos.toNat).2 := by omega
    have ewl : wl pos = (if badR (Utf8.decode z pos.toNat).1 = true then 1 else 0) + wl p' := by
      rw [hwl, hwl, hnx, hpn, wrongs, List.countP_cons]
      show ((wrongs _ + _ : Nat) : Int) = _
      split <;> omega
    have hn2 := hnn p'
    have hbad : badR (Utf8.decode z pos.toNat).1 = true → D = ([], 4) := fun hb => by
      rw [if_pos hb] at ewl
      have hsv : signV z = 4 := by rw [signV, if_neg (by omega), if_pos (by omega)]
      rw [hDs, hsv]; rfl
    have hgood : ¬ badR (Utf8.decode z pos.toNat).1 = true → r = c.toNat ∧ p' = pos + 1 ∧ W = wl p' := fun hb => by
      rw [if_neg hb] at ewl
      have hc128 : c.toNat < 128 := by
        refine Classical.byContradiction fun h => ?_
        have := hhigh (by omega)
        simp only [badR, decide_eq_true_eq] at hb; omega
      have := hlow hc128
      rw [this] at hr hp
      exact ⟨hr, by rw [hp]; rfl, by omega⟩
    conv => cbv
    refine Br.mk (fun g => ?_) (fun g => ?_)
    · have g : ¬ r = 10 := g
      conv => cbv
      refine Br.mk (fun g2 => ?_) (fun g2 => ?_)
      · have g2 : r < 32 := g2
        have e := hbad (by simp only [badR, decide_eq_true_eq]; omega)
        conv => cbv
        refine RetF.mk [.p .nils, .p (.int .i64 (.sym 4))] [] 0 (Re.at [] []) rfl (.bad 4 e (by decide))
      have g2 : ¬ r < 32 := g2
      conv => cbv
      refine Br.mk (fun g3 => ?_) (fun g3 => ?_)
      · have g3 : 126 < r := g3
        have e := hbad (by simp only [badR, decide_eq_true_eq]; omega)
        conv => cbv
        refine RetF.mk [.p .nils, .p (.int .i64 (.sym 4))] [] 0 (Re.at [] []) rfl (.bad 4 e (by decide))
      have g3 : ¬ 126 < r := g3
      obtain ⟨hrc, hp1, hW2⟩ := hgood (by simp only [badR, decide_eq_true_eq]; omega)
      have hc10 : ¬ c = 10 := by rintro rfl; exact g (by rw [hrc]; rfl)
      have hnext : partsOf (bl.take p'.toNat) = partStep (ls, cur) c := by
        rw [show p'.toNat = pos.toNat + 1 by omega, List.take_add_one, hc, ← hst]
        exact parts_snoc _ _
      conv => cbv
      refine Br.yes (by show ¬ r = 10; exact g) ?_
      conv => cbv
      refine Br.mk (fun g4 => ?_) (fun g4 => ?_)
      · have g4 : ¬ r = 32 := g4
        have hc32 : ¬ c = 32 := by rintro rfl; exact g4 (by rw [hrc]; rfl)
        rw [partStep, if_neg hc10, if_neg hc32] at hnext
        conv => cbv
        refine Fit.mk (by show (0 : Int) ≤ r; omega) (by show r ≤ 255; omega) fun r8 hr8 => ?_
        have hr8 : r8 = r := hr8
        conv => cbv
        refine Need.mk (by show (1 : Int) ≤ ((1 : Nat) : Int); omega) ?_
        conv => cbv
        refine Bytes.mk [c] ⟨by show r8 = (c.toNat : Int); omega, trivial⟩ fun y2 hy2 => ?_
        have hy2 : y2 = bytesOfL [c] := hy2
        have hy2s : y2.size = 1 := by rw [hy2, bol_size]; rfl
        conv => cbv
        refine Need.mk (by show y.size + y2.size ≤ 9223372036854775807; omega) ?_
        conv => cbv
        refine Str.mk fun y3 hy3 => ?_
        have hy3 : y3 = bytesOfL (cur ++ [c]) := by
          have h1 : y3 = y ++ y2 := hy3
          rw [h1, hy, hy2, bol_add]
        conv => cbv
        refine Br.no (by show ¬ r = 10; exact g) ?_
        conv => cbv
        refine Again.mk k' _ (Nat.lt_succ_self _) (Re.at [(1, 1), (2, 2)] []) ⟨p', j, y3, LL, ls, cur ++ [c], rfl, hnext, hy3, hLL, hj, hW2, by omega, by omega, by omega⟩
      · have g4 : r = 32 := Classical.byContradiction g4
        have hc32 : c = 32 := UInt8.toNat_inj.1 (by show c.toNat = 32; omega)
        rw [partStep, if_neg hc10, if_pos hc32] at hnext
        conv => cbv
        refine Br.no (by show ¬ r = 10; exact g) ?_
        conv => cbv
        refine Again.mk k' _ (Nat.lt_succ_self _) (Re.at [(1, 1), (2, 2)] []) ⟨p', j, y, LL, ls, cur, rfl, hnext, hy, hLL, hj, hW2, by omega, by omega, by omega⟩
    · have g : r = 10 := Classical.byContradiction g
      obtain ⟨hrc, hp1, hW2⟩ := hgood (by simp only [badR, decide_eq_true_eq]; omega)
      have hc10 : c = 10 := UInt8.toNat_inj.1 (by show c.toNat = 10; omega)
      have hnext : partsOf (bl.take p'.toNat) = partStep (ls, cur) c := by
        rw [show p'.toNat = pos.toNat + 1 by omega, List.take_add_one, hc, ← hst]
        exact parts_snoc _ _
      rw [partStep, if_pos hc10] at hnext
      conv => cbv
      refine Br.no (by show ¬ ¬ r = 10; exact fun h => h g) ?_
      conv => cbv
      refine Br.yes (by show r = 10; exact g) ?_
      conv => cbv
      refine Br.mk (fun g5 => ?_) (fun g5 => ?_)
      · have g5 : ¬ y = ⟨#[]⟩ := g5
        have hc0 : ¬ cur = [] := by intro h; exact g5 (by rw [hy, h]; rfl)
        have hnext : partsOf (bl.take p'.toNat) = (ls ++ [cur], []) := by rw [hnext]; show (if cur = [] then ls else ls ++ [cur], []) = _; rw [if_neg hc0]
        conv => cbv
        refine Room.new rfl ?_
        conv => cbv
        refine Room.new ⟨?_, ?_, ?_⟩ ?_
        · show (LL.length : Int) = j * 1; omega
        · show (j + 1) * 16 ≤ 140737488355328; omega
        · show j + 1 ≤ 9223372036854775807; omega
        conv => cbv
        refine Upd.mk fun L2 hL2 => ?_
        have hL2 : L2 = spv (ls ++ [cur]) := by rw [← spv_app, ← hLL, ← hy]; exact hL2
        conv => cbv
        refine Sum.mk fun j2 hj2 => ?_
        have hj2 : j2 = j + 1 := hj2
        have hj3 : j2 = ll (ls ++ [cur]) := by rw [hj2, hj, hll, hll, List.length_append]; rfl
        conv => cbv
        refine Again.mk k' _ (Nat.lt_succ_self _) (Re.at [(1, 1), (4, 2)] []) ⟨p', j2, E, L2, ls ++ [cur], [], rfl, hnext, hE2, hL2, hj3, hW2, by omega, by omega, by omega⟩
      · have g5 : y = ⟨#[]⟩ := Classical.byContradiction g5
        have hc0 : cur = [] := by rw [hy] at g5; exact (bol_nil cur).1 g5
        have hnext : partsOf (bl.take p'.toNat) = (ls, cur) := by rw [hnext]; show (if cur = [] then ls else ls ++ [cur], []) = _; rw [if_pos hc0, hc0]
        conv => cbv
        refine Again.mk k' _ (Nat.lt_succ_self _) (Re.at [(1, 1), (2, 2)] []) ⟨p', j, y, LL, ls, cur, rfl, hnext, hy, hLL, hj, hW2, by omega, by omega, by omega⟩
end Go.Proofs.YtfjdifeofnpcnaaDoor
/-
  Layer 2: the reference's Decode.
-/
namespace Go.Proofs.YtfjdifeofnpcnaaDoor

open Go Go.LX
set_option maxRecDepth 100000
set_option linter.unusedVariables false
set_option linter.unusedSimpArgs false

set_option maxHeartbeats 4000000 in
theorem rDecode_lx (z : ByteArray) (hzz : z.size ≤ 3000000) : CallF (fun _ => Tryd.prog) 16 [.p (.str fun _ => z)] [] 0 (fun r h n => Decoded (decodeV z) r ∧ h = [] ∧ n = 0) := by
  obtain ⟨D, hD⟩ : ∃ D, D = decodeV z := ⟨_, rfl⟩
  rw [← hD]
  refine callF_of_body tok Tryd.func16 (by kernel_rfl) rfl rfl rfl ?_; conv => cbv
  refine callF_frame (rLines_lx z hzz) [] rfl trivial rfl rfl (fun r2 h' n' hrr => ?_)
  cases hrr with
  | bad v hlv hv0 =>
    have hDe : D = ([], 0, v) := by rw [hD, decodeV, hlv, if_neg hv0]
    conv => cbv
    refine Br.mk (fun g => ?_) (fun g => ?_)
    · conv => cbv
      refine RetF.mk [.p (.vsl (.sym 0) true []), .p (.int .i64 (.sym 0)), .p (.int .i64 (.sym v))] [] 0 (Re.at [] []) rfl ⟨.mk 0 0 v [] [] hDe rfl rfl, rfl, rfl⟩
    · have gf : False := g hv0
      cases gf
  | ok ls k L hlv hk hL =>
    have h60 := lines_60 hlv
    have hok := lines_ok hlv
    have hD0 : D = decsV (ls.drop (0 : Int).toNat) 0 [] := by rw [hD, decodeV, hlv]; rfl
    conv => cbv
    refine Br.mk (fun g => ?_) (fun g => ?_)
    · have gf : False := g rfl
      cases gf
    conv => cbv
    refine LoopF.mk (fun kk s => ∃ (i j : Int) (M : List PV) (acc : List Is), s = ⟨.p (.str fun _ => z) :: (undefs 4 ++ .sl 0 9 1 (.lit 0) (.sym k) :: .undef :: .sl 1 36 5 (.lit 0) (.sym j) :: .p (.int .i64 (.sym i)) :: undefs 33), [(0, .pure true L), (1, .pure true M)], 2⟩ ∧ D = decsV (ls.drop i.toNat) i acc ∧ M = isV acc ∧ j = acc.length ∧ j = i ∧ 0 ≤ i ∧ i ≤ k ∧ kk = (k - i).toNat) k.toNat _
      (Re.at [(0, 0)] [1]) ⟨0, 0, [], [], rfl, hD0, rfl, rfl, rfl, by omega, by omega, by omega⟩ ?_
    clear hD0
    rintro kk s ⟨i, j, M, acc, rfl, hDi, hM, hj, hji, h0, h1, hkk⟩
    conv => cbv
    refine Br.mk (fun g2 => ?_) (fun g2 => ?_)
    · have g2 : i < k := g2
      obtain ⟨l, hl⟩ : ∃ l, ls[i.toNat]? = some l := ⟨_, List.getElem?_eq_getElem (by omega)⟩
      have hlo := hok l (List.mem_of_getElem? hl)
      have hgo := decs_go ls l i.toNat acc hl
      rw [Int.toNat_of_nonneg h0] at hgo
      obtain ⟨k', rfl⟩ : ∃ k', kk = k' + 1 := ⟨kk - 1, by omega⟩
      obtain ⟨lz, hlz⟩ : ∃ lz, lz = bytesOfL l := ⟨_, rfl⟩
      have hla : L[i.toNat]? = some (.str fun _ => lz) := by rw [hL, hlz]; exact spv_get hl
      obtain ⟨c, s, hcs⟩ : ∃ c s, l = c :: s := by
        cases l with
        | nil => exact absurd rfl hlo.1
        | cons c s => exact ⟨c, s, rfl⟩
      rw [hcs] at hlz hgo hlo
      have hsl : s.length < 2000 := by have := hlo.2.1; rw [List.length_cons] at this; omega
      conv => cbv
      refine Need.mk ⟨by show (0 : Int) ≤ i; omega, by show i < k; omega⟩ ?_
      conv => cbv
      refine Cell.at i i.toNat hla (by simp [I.val]) rfl ?_
      conv => cbv
      refine callF_frame (one_lx c s lz hlz hsl) [] rfl trivial rfl rfl (fun r2 h' n' hrr => ?_)
      obtain ⟨e1, e2, e3⟩ := hrr
      subst e2 e3
      cases e1 with
      | no p a b n q X hno =>
        have hDe : D = ([], i + 1, 5) := by rw [hDi, hgo, hno]
        conv => cbv
        refine Fit.mk (by show (-9223372036854775808 : Int) ≤ i + 1; omega) (by show i + 1 ≤ 9223372036854775807; omega) fun t3 ht3 => ?_
        have ht3 : t3 = i + 1 := ht3
        have hDe2 : D = ([], t3, 5) := by rw [hDe, ht3]
        conv => cbv
        refine RetF.mk [.p (.vsl (.sym 0) true []), .p (.int .i64 (.sym t3)), .p (.int .i64 (.sym 5))] [] 0 (Re.at [] []) rfl ⟨.mk 0 t3 5 [] [] hDe2 rfl rfl, rfl, rfl⟩
      | yes x q X hx hq hX =>
        have hDe : D = decsV (ls.drop (i.toNat + 1)) (i + 1) (acc ++ [x]) := by rw [hDi, hgo, hx]
        obtain ⟨op, hop⟩ : ∃ op, op = x.op := ⟨_, rfl⟩
        obtain ⟨a, ha⟩ : ∃ a, a = x.a := ⟨_, rfl⟩
        obtain ⟨b, hb⟩ : ∃ b, b = x.b := ⟨_, rfl⟩
        obtain ⟨n, hn⟩ : ∃ n, n = x.n := ⟨_, rfl⟩
        rw [← hop, ← ha, ← hb, ← hn]
        conv => cbv
        refine Room.new rfl ?_
        conv => cbv
        refine Room.new ⟨?_, ?_, ?_⟩ ?_
        · show (M.length : Int) = j * 5; rw [hM, isV_length, hj]; omega
        · show (j + 1) * 56 ≤ 140737488355328; omega
        · show j + 1 ≤ 9223372036854775807; omega
        conv => cbv
        refine Upd.mk fun M2 hM2 => ?_
        have hM2 : M2 = isV (acc ++ [x]) := by rw [isV_snoc, ← hM, isC, ← hop, ← ha, ← hb, ← hn, ← hq, ← hX]; exact hM2
        conv => cbv
        refine Sum.mk fun j2 hj2 => ?_
        have hj2 : j2 = j + 1 := hj2
        have hj3 : j2 = ((acc ++ [x] : List Is).length : Int) := by rw [List.length_append, hj2, hj]; rfl
        conv => cbv
        refine Fit.mk (by show (-9223372036854775808 : Int) ≤ i + 1; omega) (by show i + 1 ≤ 9223372036854775807; omega) fun i2 hi2 => ?_
        have hi2 : i2 = i + 1 := hi2
        rw [← hi2, show i.toNat + 1 = i2.toNat by omega] at hDe
        conv => cbv
        refine Again.mk k' _ (Nat.lt_succ_self _) (Re.at [(0, 0), (4, 1)] []) ⟨i2, j2, M2, acc ++ [x], rfl, hDe, hM2, hj3, by omega, by omega, by omega, by omega⟩
    · have g2 : ¬ i < k := g2
      have hDe : D = (acc, 0, 0) := by rw [hDi, List.drop_of_length_le (by omega)]; rfl
      conv => cbv
      refine RetF.mk [.p (.vsl (.sym j) true M), .p (.int .i64 (.sym 0)), .p (.int .i64 (.sym 0))] [] 0 (Re.at [] []) rfl ⟨.mk j 0 0 M acc hDe hj hM, rfl, rfl⟩
end Go.Proofs.YtfjdifeofnpcnaaDoor
/-
  The statements' help: numbers as texts; instructions held against each other.
-/
namespace Go.Proofs.YtfjdifeofnpcnaaDoor

open Go Go.LX
set_option maxRecDepth 100000
set_option linter.unusedVariables false
set_option linter.unusedSimpArgs false

theorem itoa_step (v : Int) (h : 10 ≤ v) : Lib.itoa v = Lib.itoa (v / 10) ++ [UInt8.ofNat (48 + (v % 10).toNat)] := by
  rw [itoa_nn (by omega), itoa_nn (by omega), Lib.decDigits, dif_neg (by omega)]
  rw [show v.toNat / 10 = (v / 10).toNat by omega, show v.toNat % 10 = (v % 10).toNat by omega]
theorem itoa_one (v : Int) (h : 0 ≤ v) (h2 : v < 10) : Lib.itoa v = [UInt8.ofNat (48 + v.toNat)] := by rw [itoa_nn h, Lib.decDigits_one (by omega)]
set_option maxHeartbeats 2000000 in
theorem digits_lx (m : Nat) : ∀ (v : Int), 0 ≤ v → v ≤ 9223372036854775807 → v < m → CallF (fun _ => Tryd.prog) 14 [.p (.int .i64 (.sym v))] [] 0 (fun r h n => (∃ y : ByteArray, r = .p (.str fun _ => y) ∧ y = bytesOfL (Lib.itoa v)) ∧ h = [] ∧ n = 0) := by
  induction m with
  | zero => intro v h0 h1 h2; have : False := by omega
            cases this
  | succ m ih =>
    intro v h0 h1 h2
    refine callF_of_body tok Tryd.func14 (by kernel_rfl) rfl rfl rfl ?_; conv => cbv
    refine Br.mk (fun g => ?_) (fun g => ?_)
    · have gf : False := by have g : v < 0 := g; omega
      cases gf
    conv => cbv
    refine Br.mk (fun g => ?_) (fun g => ?_)
    · have g : v < 10 := g
      conv => cbv
      refine Fit.mk (by show (-9223372036854775808 : Int) ≤ 48 + v; omega) (by show 48 + v ≤ 9223372036854775807; omega) fun t1 ht1 => ?_
      have ht1 : t1 = 48 + v := ht1
      conv => cbv
      refine Fit.mk (by show (0 : Int) ≤ t1; omega) (by show t1 ≤ 255; omega) fun t2 ht2 => ?_
      have ht2 : t2 = t1 := ht2
      conv => cbv
      refine Need.mk (by show (1 : Int) ≤ ((1 : Nat) : Int); omega) ?_
      conv => cbv
      refine Bytes.mk [UInt8.ofNat (48 + v.toNat)] ⟨by show t2 = ((UInt8.ofNat (48 + v.toNat)).toNat : Int); rw [UInt8.toNat_ofNat']; omega, trivial⟩ fun y2 hy2 => ?_
      have hy2 : y2 = bytesOfL (Lib.itoa v) := by rw [itoa_one v h0 g]; exact hy2
      conv => cbv
      refine RetF.mk [.p (.str fun _ => y2)] [] 0 (Re.at [] []) rfl ⟨⟨y2, rfl, hy2⟩, rfl, rfl⟩
    · have g : ¬ v < 10 := g
      conv => cbv
      obtain ⟨u, hu⟩ : ∃ u : Int, u = v / 10 := ⟨_, rfl⟩
      obtain ⟨Y, hY⟩ : ∃ Y, Y = bytesOfL (Lib.itoa u) := ⟨_, rfl⟩
      have hYs : Y.size ≤ 3000000 := by
        rw [hY, bol_size, itoa_nn (by omega), Lib.decDigits_length]
        have := nDig_le 20 u.toNat (by have : (10 : Nat) ^ 21 = 1000000000000000000000 := by decide
                                       rw [this]; omega)
        omega
      have hD := (ih u (by omega) (by omega) (by omega)).mono (fun r h n (hrr : (∃ y : ByteArray, r = .p (.str fun _ => y) ∧ y = bytesOfL (Lib.itoa u)) ∧ h = [] ∧ n = 0) => (by
        obtain ⟨⟨y, e1, hy⟩, e2, e3⟩ := hrr
        exact ⟨by rw [e1, hy, hY], e2, e3⟩ : r = .p (.str fun _ => Y) ∧ h = [] ∧ n = 0))
      refine read_sound tok (by kernel_rfl) [] [2, 7] [] [0, 1, 2, 3, 4, 5, 6, 7, 8, 9, 10] (by kernel_rfl) ?_
      conv => cbv
      have hdv : v.tdiv 10 = v / 10 := Int.tdiv_eq_ediv_of_nonneg h0
      have hmv : v.tmod 10 = v % 10 := Int.tmod_eq_emod_of_nonneg h0
      refine Fit.mk (by show (-9223372036854775808 : Int) ≤ v.tdiv 10; omega) (by show v.tdiv 10 ≤ 9223372036854775807; omega) fun u2 hu2 => ?_
      have hu2 : u2 = u := by have : u2 = v.tdiv 10 := hu2; omega
      rw [← hu2] at hD
      conv => cbv
      refine ReadF.mk (.p (.str fun _ => Y)) (fun h' n' hbR hnR => callF_read hD [] rfl trivial rfl rfl rfl rfl) ?_
      conv => cbv
      refine Sum.mk fun w hw => ?_
      have hw : w = v % 10 := by have : w = v.tmod 10 := hw; omega
      conv => cbv
      refine Fit.mk (by show (-9223372036854775808 : Int) ≤ 48 + w; omega) (by show 48 + w ≤ 9223372036854775807; omega) fun t1 ht1 => ?_
      have ht1 : t1 = 48 + w := ht1
      conv => cbv
      refine Fit.mk (by show (0 : Int) ≤ t1; omega) (by show t1 ≤ 255; omega) fun t2 ht2 => ?_
      have ht2 : t2 = t1 := ht2
      conv => cbv
      refine Need.mk (by show (1 : Int) ≤ ((1 : Nat) : Int); omega) ?_
      conv => cbv
      refine Bytes.mk [UInt8.ofNat (48 + (v % 10).toNat)] ⟨by show t2 = ((UInt8.ofNat (48 + (v % 10).toNat)).toNat : Int); rw [UInt8.toNat_ofNat']; omega, trivial⟩ fun y2 hy2 => ?_
      have hy2 : y2 = bytesOfL [UInt8.ofNat (48 + (v % 10).toNat)] := hy2
      have hy2s : y2.size = 1 := by rw [hy2, bol_size]; rfl
      conv => cbv
      refine Need.mk (by show Y.size + y2.size ≤ 9223372036854775807; omega) ?_
      conv => cbv
      refine Str.mk fun y3 hy3 => ?_
      have hy3 : y3 = bytesOfL (Lib.itoa v) := by
        have : y3 = Y ++ y2 := hy3
        rw [this, hY, hy2, hu, bol_add, ← itoa_step v (by omega)]
      conv => cbv
      refine RetF.mk [.p (.str fun _ => y3)] [] 0 (Re.at [] []) rfl ⟨⟨y3, rfl, hy3⟩, rfl, rfl⟩
theorem digits_ok (v : Int) (h0 : 0 ≤ v) (h1 : v ≤ 9223372036854775807) : CallF (fun _ => Tryd.prog) 14 [.p (.int .i64 (.sym v))] [] 0 (fun r h n => (∃ y : ByteArray, r = .p (.str fun _ => y) ∧ y = bytesOfL (Lib.itoa v)) ∧ h = [] ∧ n = 0) :=
  digits_lx (v.toNat + 1) v h0 h1 (by omega)
theorem eqCase_lx (a b c d a2 b2 c2 d2 : Int) : CallF (fun _ => Tryd.prog) 76 [.agg [.p (.int .i64 (.sym a)), .p (.int .i64 (.sym b)), .p (.int .i64 (.sym c)), .p (.int .i64 (.sym d))], .agg [.p (.int .i64 (.sym a2)), .p (.int .i64 (.sym b2)), .p (.int .i64 (.sym c2)), .p (.int .i64 (.sym d2))]] [] 0 (fun r h n => (∃ q : Bool, r = .p (.bool q) ∧ (q = true ↔ a = a2 ∧ b = b2 ∧ c = c2 ∧ d = d2)) ∧ h = [] ∧ n = 0) := by
  refine callF_of_body tok Tryd.func76 (by kernel_rfl) rfl rfl rfl ?_; conv => cbv
  refine AggEq.mk (by kernel_rfl) (fun e => ?_) (fun e => ?_)
  · have e : a = a2 ∧ b = b2 ∧ c = c2 ∧ d = d2 := by simpa [eqLs, I.val] using e
    conv => cbv
    refine RetF.mk [.p (.bool true)] [] 0 (Re.at [] []) rfl ⟨⟨true, rfl, by simp [e]⟩, rfl, rfl⟩
  · have e : ¬ (a = a2 ∧ b = b2 ∧ c = c2 ∧ d = d2) := by simpa [eqLs, I.val] using e
    conv => cbv
    refine RetF.mk [.p (.bool false)] [] 0 (Re.at [] []) rfl ⟨⟨false, rfl, by simp only [Bool.false_eq_true, false_iff]; exact e⟩, rfl, rfl⟩
end Go.Proofs.YtfjdifeofnpcnaaDoor
/-
  What the library says of Go's own functions, at this dump, in plain words: strconv_Itoa.
-/
namespace Go.Proofs
open Go.Shelf
def Tryd.laysM171_ren : Go.Shelf.Ren := ⟨fun | 171 => 68 | 243 => 82 | 246 => 85 | 283 => 86 | 284 => 87 | 285 => 88 | 286 => 89 | 129 => 91 | 317 => 90 | 318 => 92 | 319 => 93 | 320 => 94 | 337 => 95 | 338 => 96 | n => n, fun | 3 => 3 | 9 => 9 | 2 => 2 | 4 => 4 | 171 => 112 | 0 => 0 | 53 => 113 | 37 => 39 | 5 => 5 | 173 => 116 | 212 => 119 | 51 => 110 | 20 => 20 | 213 => 120 | 46 => 33 | 232 => 124 | 233 => 125 | n => n, fun | 17 => 0 | 18 => 1 | 19 => 2 | n => n⟩
theorem Tryd.laysM171 : Go.Proofs.LaysM.n171 Tryd.prog Tryd.laysM171_ren := {
  mixed := by kernel_rfl
  f129 := Tryd.func91.trans (congrArg some (by kernel_rfl))
  f171 := Tryd.func68.trans (congrArg some (by kernel_rfl))
  f243 := Tryd.func82.trans (congrArg some (by kernel_rfl))
  f246 := Tryd.func85.trans (congrArg some (by kernel_rfl))
  f283 := Tryd.func86.trans (congrArg some (by kernel_rfl))
  f284 := Tryd.func87.trans (congrArg some (by kernel_rfl))
  f285 := Tryd.func88.trans (congrArg some (by kernel_rfl))
  f286 := Tryd.func89.trans (congrArg some (by kernel_rfl))
  f317 := Tryd.func90.trans (congrArg some (by kernel_rfl))
  f318 := Tryd.func92.trans (congrArg some (by kernel_rfl))
  f319 := Tryd.func93.trans (congrArg some (by kernel_rfl))
  f320 := Tryd.func94.trans (congrArg some (by kernel_rfl))
  f337 := Tryd.func95.trans (congrArg some (by kernel_rfl))
  f338 := Tryd.func96.trans (congrArg some (by kernel_rfl))
  t0 := Tryd.underlying0
  a0 := Tryd.isAgg0
  z0 := Tryd.sizeOf0
  v0 := Tryd.zeroValue0
  t2 := Tryd.underlying2
  a2 := Tryd.isAgg2
  z2 := Tryd.sizeOf2
  v2 := Tryd.zeroValue2
  t3 := Tryd.underlying3
  a3 := Tryd.isAgg3
  z3 := Tryd.sizeOf3
  v3 := Tryd.zeroValue3
  t4 := Tryd.underlying4
  a4 := Tryd.isAgg4
  z4 := Tryd.sizeOf4
  v4 := Tryd.zeroValue4
  t5 := Tryd.underlying5
  a5 := Tryd.isAgg5
  z5 := Tryd.sizeOf5
  v5 := Tryd.zeroValue5
  t9 := Tryd.underlying9
  a9 := Tryd.isAgg9
  z9 := Tryd.sizeOf9
  v9 := Tryd.zeroValue9
  t20 := Tryd.underlying20
  a20 := Tryd.isAgg20
  z20 := Tryd.sizeOf20
  v20 := Tryd.zeroValue20
  t37 := Tryd.underlying39
  a37 := Tryd.isAgg39
  z37 := Tryd.sizeOf39
  v37 := Tryd.zeroValue39
  t46 := Tryd.underlying33
  a46 := Tryd.isAgg33
  z46 := Tryd.sizeOf33
  v46 := Tryd.zeroValue33
  t51 := Tryd.underlying110
  a51 := Tryd.isAgg110
  z51 := Tryd.sizeOf110
  v51 := Tryd.zeroValue110
  t53 := Tryd.underlying113
  a53 := Tryd.isAgg113
  z53 := Tryd.sizeOf113
  v53 := Tryd.zeroValue113
  t171 := Tryd.underlying112
  a171 := Tryd.isAgg112
  z171 := Tryd.sizeOf112
  v171 := Tryd.zeroValue112
  t173 := Tryd.underlying116
  a173 := Tryd.isAgg116
  z173 := Tryd.sizeOf116
  v173 := Tryd.zeroValue116
  t212 := Tryd.underlying119
  a212 := Tryd.isAgg119
  z212 := Tryd.sizeOf119
  v212 := Tryd.zeroValue119
  t213 := Tryd.underlying120
  a213 := Tryd.isAgg120
  z213 := Tryd.sizeOf120
  t232 := Tryd.underlying124
  a232 := Tryd.isAgg124
  z232 := Tryd.sizeOf124
  v232 := Tryd.zeroValue124
  t233 := Tryd.underlying125
  a233 := Tryd.isAgg125
  z233 := Tryd.sizeOf125
  v233 := Tryd.zeroValue125
  g17 := by kernel_rfl
  g18 := by kernel_rfl
  g19 := by kernel_rfl
  i0 := by kernel_rfl
  i2 := by kernel_rfl
  i3 := by kernel_rfl
  i4 := by kernel_rfl
  i5 := by kernel_rfl
  i9 := by kernel_rfl
  i20 := by kernel_rfl
  i37 := by kernel_rfl
  i46 := by kernel_rfl
  i51 := by kernel_rfl
  i53 := by kernel_rfl
  i171 := by kernel_rfl
  i173 := by kernel_rfl
  i212 := by kernel_rfl
  i232 := by kernel_rfl
  i233 := by kernel_rfl
  m17 := by kernel_rfl
  m18 := by kernel_rfl
  m19 := by kernel_rfl }
open Go.RowKit Go.Sort Go.Lib in
theorem Tryd.strconv_Itoa (n : Int) (h0 : -9223372036854775808 ≤ n) (h1 : n ≤ 9223372036854775807) (w : World) (htab : Lib.TabIs Tryd.prog w "internal/strconv.uint64pow10" .u64 Lib.pow10Tab) :
    Calls Tryd.prog 68 #[.int .i64 n] w fun e w' => e = .returned (.string ⟨(Lib.itoa n).toArray⟩) ∧ ∃ k os, w' = grow (w.drewN k) os := Any.strconv_Itoa Tryd.laysM171 n h0 h1 w htab
end Go.Proofs
/-
  strconv.Itoa, strconv.Atoi and strings.TrimSuffix, by the library's contracts, in the calculus.
-/
namespace Go.Proofs.YtfjdifeofnpcnaaDoor

open Go Go.LX
set_option maxRecDepth 100000
set_option linter.unusedVariables false

/-- The table of the powers of ten, as it is laid. -/
def IsPow (o : Unit → Obj) : Prop := ∃ t fr, o () = .cells (Lib.pow10Tab.map fun z => Value.int .u64 z).toArray t fr
theorem one_arg {c : Ctx} {w : World} {u : LV} {xs : Array Value} (hl : [u].length = xs.size) (hrel : ∀ (i : Nat) (v : LV), [u][i]? = some v → LR c w v (xs.getD i Go.undef)) : ∃ x, xs = #[x] ∧ LR c w u x := by
  have h0 := hrel 0 u rfl
  rcases xs with ⟨l⟩
  match l, hl with
  | [x], _ => exact ⟨x, rfl, h0⟩
theorem two_args {c : Ctx} {w : World} {u v : LV} {xs : Array Value} (hl : [u, v].length = xs.size) (hrel : ∀ (i : Nat) (z : LV), [u, v][i]? = some z → LR c w z (xs.getD i Go.undef)) : ∃ x y, xs = #[x, y] ∧ LR c w u x ∧ LR c w v y := by
  have h0 := hrel 0 u rfl
  have h1 := hrel 1 v rfl
  rcases xs with ⟨l⟩
  match l, hl with
  | [x, y], _ => exact ⟨x, y, rfl, h0, h1⟩
theorem grow_below (w : World) (k : Nat) (os : Array Obj) : RowKit.Below w.heap.size w (Go.Sort.grow (w.drewN k) os) := by
  refine ⟨rfl, rfl, rfl, by simp [Go.Sort.grow], fun i hi => ?_⟩
  show (w.heap ++ os)[i]? = w.heap[i]?
  rw [Array.getElem?_append_left hi]
theorem itoa_lx (n : Int) (h0 : -9223372036854775808 ≤ n) (h1 : n ≤ 9223372036854775807) (o : Unit → Obj) (ho : IsPow o) :
    CallF (fun _ => Tryd.prog) 68 [.p (.int .i64 (.sym n))] [(0, .fix 0 o)] 1 (fun r h n' => (∃ z : ByteArray, r = .p (.str fun _ => z) ∧ z = ⟨(Lib.itoa n).toArray⟩) ∧ h = [(0, .fix 0 o)] ∧ n' = 1) := by
  refine callF_calls (K := fun r => ∃ z : ByteArray, r = .p (.str fun _ => z) ∧ z = ⟨(Lib.itoa n).toArray⟩) ⟨_, _, Tryd.func68, by kernel_rfl, rfl⟩ fun c w xs hr hN hl hrel => ?_
  obtain ⟨x, rfl, hx⟩ := one_arg hl hrel
  have hx : x = .int .i64 n := hx.inv_int
  subst hx
  obtain ⟨m, hm, hB⟩ := hr.live 0 _ rfl
  cases m with
  | some r => exact hB.elim
  | none =>
    obtain ⟨hheap, _⟩ := hB
    obtain ⟨t, fr, hot⟩ := ho
    have htab : Lib.TabIs Tryd.prog w "internal/strconv.uint64pow10" .u64 Lib.pow10Tab := by
      have hg : Tryd.prog.globalNamed "internal/strconv.uint64pow10" = some 0 := by kernel_rfl
      unfold Lib.TabIs World.var?
      rw [hg]
      simp only [Option.bind_some, hheap, hot]
    refine (Tryd.strconv_Itoa n h0 h1 w htab).mono fun e w' ⟨he, k, os, hw⟩ => ?_
    subst hw
    exact ⟨_, _, he, ⟨_, rfl, rfl⟩, grow_below w k os, fun c' => .p _ _ (.str _)⟩
end Go.Proofs.YtfjdifeofnpcnaaDoor
/-
  strings.Builder, in the calculus: WriteString and WriteRune.
-/
namespace Go.Proofs.YtfjdifeofnpcnaaDoor

open Go Go.LX
set_option maxRecDepth 100000
set_option linter.unusedVariables false

theorem writeString_lx (j : Int) (L : List PV) (z y : ByteArray) (hL : L = bytesPV z) (hj : j = z.size) (hm : z.size + y.size ≤ 140737488355328) :
    CallF (fun _ => Tryd.prog) 26 [.ptr 0 (.lit 0), .p (.str fun _ => y)] [(0, .bld 51 [.sl 1 5 1 (.lit 0) (.sym j)]), (1, .pure true L)] 2
      (fun r h n => ∃ (m k : Int) (L' : List PV), r = .tup [.p (.int .i64 (.sym m)), .p .nilif] ∧ h = [(2, .pure true L'), (0, .bld 51 [.sl 2 5 1 (.lit 0) (.sym k)])] ∧ n = 3 ∧ L' = bytesPV (z ++ y) ∧ k = (z ++ y).size) := by
  refine callF_of_body tok Tryd.func26 (by kernel_rfl) rfl rfl rfl ?_; conv => cbv
  refine callF_frame (copyCheck_lx (.sl 1 5 1 (.lit 0) (.sym j)) (.pure true L)) [(0, 0), (1, 1)] rfl (by simp [hmapOk, nget, hget, renB, okB, renV, renVs, rn, okVs, okV]) rfl rfl (fun r h' n' ⟨e1, e2, e3⟩ => ?_)
  subst e1 e2 e3
  conv => cbv
  refine .mk (show ((y.size : Nat) : Int) ≤ 140737488355328 by omega) ?_
  refine .mk fun l hl => ?_
  refine .mk fun m hm2 => ?_
  have hm2 : m = y.size := hm2
  refine .new ⟨by rw [hL, bytesPV_length]; show ((z.size : Nat) : Int) = j * 1; omega, by show (j + m) * 1 ≤ 140737488355328; omega, by show j + m ≤ 9223372036854775807; omega⟩ ?_
  conv => cbv
  refine Upd.mk fun L2 hL2 => ?_
  conv => cbv
  refine Sum.mk fun k hk => ?_
  have hk : k = j + m := hk
  conv => cbv
  refine Sum.mk fun m2 hm3 => ?_
  conv => cbv
  have hL2 : L2 = L ++ l := hL2
  have hl : l = bytesPV y := hl
  refine RetF.mk [.p (.int .i64 (.sym m2)), .p .nilif] [(2, .pure true L2), (0, .bld 51 [.sl 2 5 1 (.lit 0) (.sym k)])] 3 (Re.at [(0, 0), (2, 2)] []) rfl ⟨m2, k, L2, rfl, rfl, rfl, ?_, ?_⟩
  · rw [hL2, hL, hl, bytesPV_append]
  · rw [ByteArray.size_append]; push_cast; omega
end Go.Proofs.YtfjdifeofnpcnaaDoor
/-
  Layer 2: what is written of an instruction.
-/
namespace Go.Proofs.YtfjdifeofnpcnaaDoor

open Go Go.LX
set_option maxRecDepth 100000
set_option linter.unusedVariables false
set_option linter.unusedSimpArgs false

theorem name_yes (v : Int) (h0 : 0 ≤ v) (h1 : v ≤ 5) : CallF (fun _ => Tryd.prog) 66 [.p (.int .i64 (.sym v))] [] 0 (fun r h n => (∃ c : Int, r = .tup [.p (.int .i32 (.sym c)), .p (.bool true)] ∧ c = 97 + v) ∧ h = [] ∧ n = 0) := by
  refine callF_of_body tok Tryd.func66 (by kernel_rfl) rfl rfl rfl ?_; conv => cbv
  refine Br.mk (fun g => ?_) (fun g => ?_)
  · have gf : False := by have g : v < 0 := g; omega
    cases gf
  conv => cbv
  refine Br.mk (fun g => ?_) (fun g => ?_)
  · have gf : False := by have g : 6 ≤ v := g; omega
    cases gf
  conv => cbv
  refine Fit.mk (by show (-2147483648 : Int) ≤ v; omega) (by show v ≤ 2147483647; omega) fun t2 ht2 => ?_
  have ht2 : t2 = v := ht2
  conv => cbv
  refine Fit.mk (by show (-2147483648 : Int) ≤ 97 + t2; omega) (by show 97 + t2 ≤ 2147483647; omega) fun t3 ht3 => ?_
  have ht3 : t3 = 97 + t2 := ht3
  conv => cbv
  refine RetF.mk [.p (.int .i32 (.sym t3)), .p (.bool true)] [] 0 (Re.at [] []) rfl ⟨⟨t3, rfl, by omega⟩, rfl, rfl⟩
theorem name_no (v : Int) (h : ¬ (0 ≤ v ∧ v ≤ 5)) : CallF (fun _ => Tryd.prog) 66 [.p (.int .i64 (.sym v))] [] 0 (fun r h n => r = .tup [.p (.int .i32 (.sym 0)), .p (.bool false)] ∧ h = [] ∧ n = 0) := by
  refine callF_of_body tok Tryd.func66 (by kernel_rfl) rfl rfl rfl ?_; conv => cbv
  refine Br.mk (fun g => ?_) (fun g => ?_)
  · conv => cbv
    refine RetF.mk [.p (.int .i32 (.sym 0)), .p (.bool false)] [] 0 (Re.at [] []) rfl ⟨rfl, rfl, rfl⟩
  have g : ¬ v < 0 := g
  conv => cbv
  refine Br.mk (fun g => ?_) (fun g2 => ?_)
  · conv => cbv
    refine RetF.mk [.p (.int .i32 (.sym 0)), .p (.bool false)] [] 0 (Re.at [] []) rfl ⟨rfl, rfl, rfl⟩
  have gf : False := by have g2 : ¬ 6 ≤ v := g2; omega
  cases gf
theorem caseSign_lx (k : Int) : CallF (fun _ => Tryd.prog) 64 [.p (.int .i64 (.sym k))] [] 0 (fun r h n => (∃ y : ByteArray, r = .p (.str fun _ => y) ∧ y = bytesOfL (if k = 1 ∨ k = 2 ∨ k = 3 then [caseB k] else [])) ∧ h = [] ∧ n = 0) := by
  obtain ⟨Y, hY⟩ : ∃ Y, Y = bytesOfL (if k = 1 ∨ k = 2 ∨ k = 3 then [caseB k] else []) := ⟨_, rfl⟩
  refine callF_of_body tok Tryd.func64 (by kernel_rfl) rfl rfl rfl ?_; conv => cbv
  refine Br.mk (fun g => ?_) (fun g => ?_)
  · simp only [I.val] at g
    have hY2 : Y = ⟨⟨[115]⟩⟩ := by rw [hY, g]; rfl
    conv => cbv
    refine RetF.mk [.p (.str fun _ => Y)] [] 0 (Re.at [] []) rfl ⟨⟨Y, rfl, hY⟩, rfl, rfl⟩
  simp only [I.val] at g
  conv => cbv
  refine Br.mk (fun g2 => ?_) (fun g2 => ?_)
  · simp only [I.val] at g2
    have hY2 : Y = ⟨⟨[114]⟩⟩ := by rw [hY, g2]; rfl
    conv => cbv
    refine RetF.mk [.p (.str fun _ => Y)] [] 0 (Re.at [] []) rfl ⟨⟨Y, rfl, hY⟩, rfl, rfl⟩
  simp only [I.val] at g2
  conv => cbv
  refine Br.mk (fun g3 => ?_) (fun g3 => ?_)
  · simp only [I.val] at g3
    have hY2 : Y = ⟨⟨[101]⟩⟩ := by rw [hY, g3]; rfl
    conv => cbv
    refine RetF.mk [.p (.str fun _ => Y)] [] 0 (Re.at [] []) rfl ⟨⟨Y, rfl, hY⟩, rfl, rfl⟩
  simp only [I.val] at g3
  conv => cbv
  have hY2 : Y = ⟨⟨[]⟩⟩ := by rw [hY, if_neg (by omega)]; rfl
  refine RetF.mk [.p (.str fun _ => Y)] [] 0 (Re.at [] []) rfl ⟨⟨Y, rfl, hY⟩, rfl, rfl⟩
def signL (op : Int) : List UInt8 := if 1 ≤ op ∧ op ≤ 22 then [signB op] else []
set_option maxHeartbeats 1000000 in
theorem signOf_lx (op : Int) (hop : -9223372036854775808 ≤ op ∧ op ≤ 9223372036854775807) : CallF (fun _ => Tryd.prog) 44 [.p (.int .i64 (.sym op))] [] 0 (fun r h n => (∃ y : ByteArray, r = .p (.str fun _ => y) ∧ y = bytesOfL (signL op)) ∧ h = [] ∧ n = 0) := by
  refine callF_of_body tok Tryd.func44 (by kernel_rfl) rfl rfl rfl ?_; conv => cbv
  refine LoopF.mk (fun k s => ∃ pos : Int, s = ⟨.p (.int .i64 (.sym op)) :: (undefs 4 ++ .ptr 0 (.lit 0) :: undefs 10), [(0, .iter (fun _ => signsB) (.sym pos))], 1⟩ ∧ 0 ≤ pos ∧ pos ≤ 22 ∧ ¬ (1 ≤ op ∧ op ≤ pos) ∧ k = (22 - pos).toNat) 22 _
    (Re.at [(0, 0)] []) ⟨0, rfl, by omega, by omega, by omega, by omega⟩ ?_
  rintro k s ⟨pos, rfl, h0, h1, hop1, hk⟩
  conv => cbv
  by_cases hend : pos = 22
  · refine NextS.over (by show (22 : Int) ≤ pos; omega) ?_
    obtain ⟨E, hE⟩ : ∃ E : ByteArray, E = ⟨⟨[]⟩⟩ := ⟨_, rfl⟩
    have e : E = bytesOfL (signL op) := by rw [hE, signL, if_neg (by omega)]; rfl
    conv => cbv
    refine RetF.mk [.p (.str fun _ => E)] [] 0 (Re.at [] []) rfl ⟨⟨E, rfl, e⟩, rfl, rfl⟩
  · obtain ⟨c, hc0, hc1, hc2, hc3, hc4⟩ := signs_get pos h0 (by omega)
    obtain ⟨k', rfl⟩ : ∃ k', k = k' + 1 := ⟨k - 1, by omega⟩
    refine NextS.more (by show pos < (22 : Int); omega) ?_
    intro r p' hr hp
    have hr : r = (c.toNat : Int) := by rw [← hc1]; exact hr
    have hp : p' = pos + 1 := by
      have : p' = pos + ((Utf8.decode signsB pos.toNat).2 : Int) := hp
      rw [this, hc2]; rfl
    conv => cbv
    refine Fit.mk (by show (-9223372036854775808 : Int) ≤ pos + 1; omega) (by show pos + 1 ≤ 9223372036854775807; omega) fun t3 ht3 => ?_
    have ht3 : t3 = pos + 1 := ht3
    conv => cbv
    refine Br.mk (fun g => ?_) (fun g => ?_)
    · have g : t3 = op := g
      conv => cbv
      refine Str.mk fun y hy => ?_
      have hy : y = bytesOfL (signL op) := by
        have : y = Utf8.encode r := hy
        have hs : signB op = c := by
          unfold signB
          rw [show (op - 1).toNat = pos.toNat by omega, List.getD_eq_getElem?_getD, hc0]; rfl
        rw [this, enc_low c hc4 r hr, signL, if_pos (by omega), hs]
      conv => cbv
      refine RetF.mk [.p (.str fun _ => y)] [] 0 (Re.at [] []) rfl ⟨⟨y, rfl, hy⟩, rfl, rfl⟩
    · have g : ¬ t3 = op := g
      conv => cbv
      refine Again.mk k' _ (Nat.lt_succ_self _) (Re.at [(0, 0)] []) ⟨p', rfl, by omega, by omega, by omega, by omega⟩
/-- A text, if that is so. -/
inductive OptS (P : Prop) (l : List UInt8) (m : Nat) : LV → Prop
  | yes (y : ByteArray) (h : P) (hy : y = bytesOfL l) (hs : y.size ≤ m) : OptS P l m (.tup [.p (.str fun _ => y), .p (.bool true)])
  | no (y : ByteArray) (h : ¬ P) (hs : y.size ≤ m) : OptS P l m (.tup [.p (.str fun _ => y), .p (.bool false)])
set_option maxHeartbeats 4000000 in
theorem writeFields_lx (sh : List UInt8) (z : ByteArray) (a b n : Int) (o : Unit → Obj) (ho : IsPow o) (hz : z = bytesOfL sh) (hsh : Low sh) (hsl : sh.length ≤ 10) (hn : -9223372036854775808 ≤ n ∧ n ≤ 9223372036854775807) :
    CallF (fun _ => Tryd.prog) 46 [.p (.str fun _ => z), .agg [.p (.int .i64 (.sym a)), .p (.int .i64 (.sym b)), .p (.int .i64 (.sym n))]] [(0, .fix 0 o)] 1
      (fun r h n' => OptS (RegsOk sh ⟨a, b, n⟩) (fieldsL sh ⟨a, b, n⟩) 210 r ∧ h = [(0, .fix 0 o)] ∧ n' = 1) := by
  obtain ⟨N, hN⟩ : ∃ N : Int, N = sh.length := ⟨_, rfl⟩
  have hzs : (z.size : Int) = N := by rw [hz, bol_size, hN]
  refine callF_of_body tok Tryd.func46 (by kernel_rfl) rfl rfl rfl ?_; conv => cbv
  obtain ⟨E, hE⟩ : ∃ E : ByteArray, E = ⟨⟨[]⟩⟩ := ⟨_, rfl⟩
  have s0 : (⟨⟨[]⟩⟩ : ByteArray) = bytesOfL (fieldsL (sh.take (0 : Int).toNat) ⟨a, b, n⟩) := rfl
  have hpart : ∀ i : Nat, (fieldsL (sh.take i) ⟨a, b, n⟩).length ≤ 210 := by
    intro i
    have key : ∀ ks : List UInt8, (fieldsL ks ⟨a, b, n⟩).length ≤ ks.length * 21 := by
      intro ks
      induction ks with
      | nil => simp [fieldsL]
      | cons k ks ih =>
        have h1 : (partL k ((⟨a, b, n⟩ : F3).get k)).length ≤ 21 := by
          unfold partL
          split
          · simp
          · rename_i g
            have hg : (⟨a, b, n⟩ : F3).get k = n := by
              unfold F3.get; rw [if_neg (fun h => g (.inl h)), if_neg (fun h => g (.inr h))]
            rw [hg]; exact Lib.itoa_length_le n hn.1 hn.2
        show (partL k _ ++ fieldsL ks _).length ≤ _
        rw [List.length_append, List.length_cons]; omega
    have := key (sh.take i)
    have h2 : (sh.take i).length ≤ 10 := by rw [List.length_take]; omega
    omega
  refine LoopF.mk (fun kk s => ∃ (pos q : Int) (M : List PV) (y : ByteArray), s = ⟨.p (.str fun _ => z) :: .undef :: .undef :: .ptr 1 (.lit 0) :: (undefs 2 ++ .ptr 2 (.lit 0) :: (undefs 5 ++ .p (.str fun _ => z) :: .ptr 3 (.lit 0) :: undefs 27)), [(3, .iter (fun _ => z) (.sym pos)), (2, .bld 51 [.sl 4 5 1 (.lit 0) (.sym q)]), (4, .pure true M), (1, .pure false [.int .i64 (.sym a), .int .i64 (.sym b), .int .i64 (.sym n)]), (0, .fix 0 o)], 5⟩ ∧ M = bytesPV y ∧ q = y.size ∧ y = bytesOfL (fieldsL (sh.take pos.toNat) ⟨a, b, n⟩) ∧ RegsOk (sh.take pos.toNat) ⟨a, b, n⟩ ∧ 0 ≤ pos ∧ pos ≤ N ∧ kk = (N - pos).toNat) N.toNat _
    (Re.at [(0, 0), (1, 1), (2, 2), (3, 3)] [4]) ⟨0, 0, [], ⟨⟨[]⟩⟩, rfl, rfl, rfl, s0, fun k hk => by simp at hk, by omega, by omega, by omega⟩ ?_
  clear s0
  rintro kk s ⟨pos, q, M, y, rfl, hM, hq, hy, hro, h0, h1, hkk⟩
  have hys : y.size ≤ 210 := by rw [hy, bol_size]; exact hpart _
  conv => cbv
  by_cases hend : pos = N
  · have hfull : sh.take pos.toNat = sh := List.take_of_length_le (by omega)
    rw [hfull] at hy hro
    refine NextS.over (by show (z.size : Int) ≤ pos; omega) ?_
    conv => cbv
    refine callF_frame (string_lx q M y hM hq) [(0, 2), (1, 4)] rfl (by simp [hmapOk, nget, hget, renB, okB, renV, renVs, rn, okVs, okV]) rfl rfl (fun r2 h' n' ⟨e1, e2, e3⟩ => ?_)
    subst e1 e2 e3
    conv => cbv
    refine RetF.mk [.p (.str fun _ => y), .p (.bool true)] [(0, .fix 0 o)] 1 (Re.at [(0, 0)] []) rfl ⟨.yes y hro hy hys, rfl, rfl⟩
  · obtain ⟨c, hc⟩ : ∃ c, sh[pos.toNat]? = some c := ⟨_, List.getElem?_eq_getElem (by omega)⟩
    have hd := dec_at sh hsh pos.toNat c hc
    have hcl := hsh c (List.mem_of_getElem? hc)
    have hcm := List.mem_of_getElem? hc
    obtain ⟨k', rfl⟩ : ∃ k', kk = k' + 1 := ⟨kk - 1, by omega⟩
    refine NextS.more (by show pos < (z.size : Int); omega) ?_
    intro r p' hr hp2
    have hr : r = (c.toNat : Int) := by
      have : r = ((Utf8.decode z pos.toNat).1 : Int) := hr
      rw [this, hz, bytesOfL, hd]
    have hp2 : p' = pos + 1 := by
      have : p' = pos + ((Utf8.decode z pos.toNat).2 : Int) := hp2
      rw [this, hz, bytesOfL, hd]; rfl
    have htk : sh.take p'.toNat = sh.take pos.toNat ++ [c] := by rw [show p'.toNat = pos.toNat + 1 by omega, List.take_add_one, hc]; rfl
    have hfs : fieldsL (sh.take p'.toNat) ⟨a, b, n⟩ = fieldsL (sh.take pos.toNat) ⟨a, b, n⟩ ++ partL c ((⟨a, b, n⟩ : F3).get c) := by rw [htk, fieldsL, List.flatMap_append]; simp [fieldsL]
    have hrs : ((c = 97 ∨ c = 98) → 0 ≤ (⟨a, b, n⟩ : F3).get c ∧ (⟨a, b, n⟩ : F3).get c ≤ 5) → RegsOk (sh.take p'.toNat) ⟨a, b, n⟩ := fun h => by
      rw [htk]
      intro k hk hk2
      rcases List.mem_append.1 hk with hk | hk
      · exact hro k hk hk2
      · rw [List.mem_singleton] at hk; subst hk; exact h hk2
    conv => cbv
    refine Br.mk (fun g => ?_) (fun g => ?_)
    · have g : r = 97 := g
      have hcc : c = 97 := UInt8.toNat_inj.1 (by show c.toNat = 97; omega)
      conv => cbv
      refine Br.no (by show ¬ r = 98; omega) ?_
      have hgk : (⟨a, b, n⟩ : F3).get c = a := by rw [hcc]; rfl
      by_cases hv : 0 ≤ a ∧ a ≤ 5
      · conv => cbv
        refine callF_frame (name_yes a hv.1 hv.2) [] rfl trivial rfl rfl (fun r2 h' n' hrr => ?_)
        obtain ⟨⟨c2, e1, hc2⟩, e2, e3⟩ := hrr
        subst e1 e2 e3
        conv => cbv
        refine callF_frame (writeRune_lx q c2 M y hM hq (by omega) (by omega) (by omega)) [(0, 2), (1, 4)] rfl (by simp [hmapOk, nget, hget, renB, okB, renV, renVs, rn, okVs, okV]) rfl rfl (fun r2 h' n' ⟨m2, k2, L2, e1, e2, e3, hL2, hk2⟩ => ?_)
        subst e1 e2 e3
        have hpl : partL c ((⟨a, b, n⟩ : F3).get c) = [c2.toNat.toUInt8] := by
          rw [hgk, partL, if_pos (by rw [hcc]; decide), regB, hc2, show (97 + a : Int).toNat = 97 + a.toNat by omega]
        have hyc : y ++ ⟨#[c2.toNat.toUInt8]⟩ = bytesOfL (fieldsL (sh.take p'.toNat) ⟨a, b, n⟩) := by
          rw [hfs, hpl, hy, ← bol_add]; rfl
        rw [hyc] at hL2 hk2
        have hro2 := hrs (fun _ => by rw [hgk]; exact hv)
        conv => cbv
        refine Again.mk k' _ (Nat.lt_succ_self _) (Re.at [(0, 0), (1, 1), (2, 2), (3, 3), (5, 4)] []) ⟨p', k2, L2, bytesOfL (fieldsL (sh.take p'.toNat) ⟨a, b, n⟩), rfl, hL2, hk2, rfl, hro2, by omega, by omega, by omega⟩
      · have hno : ¬ RegsOk sh ⟨a, b, n⟩ := fun h => hv (by have := h c hcm (by rw [hcc]; decide); rw [hgk] at this; exact this)
        conv => cbv
        refine callF_frame (name_no a hv) [] rfl trivial rfl rfl (fun r2 h' n' ⟨e1, e2, e3⟩ => ?_)
        subst e1 e2 e3
        conv => cbv
        refine RetF.mk [.p (.str fun _ => E), .p (.bool false)] [(0, .fix 0 o)] 1 (Re.at [(0, 0)] []) rfl ⟨.no E hno (by rw [hE]; decide), rfl, rfl⟩
    · have g : ¬ r = 97 := g
      have hc97 : ¬ c = 97 := by rintro rfl; exact g (by rw [hr]; rfl)
      conv => cbv
      refine Br.mk (fun g2 => ?_) (fun g2 => ?_)
      · have g2 : r = 98 := g2
        have hcc : c = 98 := UInt8.toNat_inj.1 (by show c.toNat = 98; omega)
        conv => cbv
        refine Br.yes (by show r = 98; exact g2) ?_
        have hgk : (⟨a, b, n⟩ : F3).get c = b := by rw [hcc]; rfl
        by_cases hv : 0 ≤ b ∧ b ≤ 5
        · conv => cbv
          refine callF_frame (name_yes b hv.1 hv.2) [] rfl trivial rfl rfl (fun r2 h' n' hrr => ?_)
          obtain ⟨⟨c2, e1, hc2⟩, e2, e3⟩ := hrr
          subst e1 e2 e3
          conv => cbv
          refine callF_frame (writeRune_lx q c2 M y hM hq (by omega) (by omega) (by omega)) [(0, 2), (1, 4)] rfl (by simp [hmapOk, nget, hget, renB, okB, renV, renVs, rn, okVs, okV]) rfl rfl (fun r2 h' n' ⟨m2, k2, L2, e1, e2, e3, hL2, hk2⟩ => ?_)
          subst e1 e2 e3
          have hpl : partL c ((⟨a, b, n⟩ : F3).get c) = [c2.toNat.toUInt8] := by
            rw [hgk, partL, if_pos (by rw [hcc]; decide), regB, hc2, show (97 + b : Int).toNat = 97 + b.toNat by omega]
          have hyc : y ++ ⟨#[c2.toNat.toUInt8]⟩ = bytesOfL (fieldsL (sh.take p'.toNat) ⟨a, b, n⟩) := by
            rw [hfs, hpl, hy, ← bol_add]; rfl
          rw [hyc] at hL2 hk2
          have hro2 := hrs (fun _ => by rw [hgk]; exact hv)
          conv => cbv
          refine Again.mk k' _ (Nat.lt_succ_self _) (Re.at [(0, 0), (1, 1), (2, 2), (3, 3), (5, 4)] []) ⟨p', k2, L2, bytesOfL (fieldsL (sh.take p'.toNat) ⟨a, b, n⟩), rfl, hL2, hk2, rfl, hro2, by omega, by omega, by omega⟩
        · have hno : ¬ RegsOk sh ⟨a, b, n⟩ := fun h => hv (by have := h c hcm (by rw [hcc]; decide); rw [hgk] at this; exact this)
          conv => cbv
          refine callF_frame (name_no b hv) [] rfl trivial rfl rfl (fun r2 h' n' ⟨e1, e2, e3⟩ => ?_)
          subst e1 e2 e3
          conv => cbv
          refine RetF.mk [.p (.str fun _ => E), .p (.bool false)] [(0, .fix 0 o)] 1 (Re.at [(0, 0)] []) rfl ⟨.no E hno (by rw [hE]; decide), rfl, rfl⟩
      · have g2 : ¬ r = 98 := g2
        have hc98 : ¬ c = 98 := by rintro rfl; exact g2 (by rw [hr]; rfl)
        conv => cbv
        refine callF_frame (itoa_lx n hn.1 hn.2 o ho) [(0, 0)] rfl (by simp [hmapOk, nget, hget, renB, okB, renV, renVs, rn, okVs, okV]) rfl rfl (fun r2 h' n' hrr => ?_)
        obtain ⟨⟨nz, e1, hnz⟩, e2, e3⟩ := hrr
        subst e1 e2 e3
        have hnzs : nz.size ≤ 21 := by
          rw [hnz]
          have := Lib.itoa_length_le n hn.1 hn.2
          show (Lib.itoa n).toArray.size ≤ 21
          simpa using this
        conv => cbv
        refine callF_frame (writeString_lx q M y nz hM hq (by omega)) [(0, 2), (1, 4)] rfl (by simp [hmapOk, nget, hget, renB, okB, renV, renVs, rn, okVs, okV]) rfl rfl (fun r2 h' n' ⟨m2, k2, L2, e1, e2, e3, hL2, hk2⟩ => ?_)
        subst e1 e2 e3
        have hgk : (⟨a, b, n⟩ : F3).get c = n := by unfold F3.get; rw [if_neg hc97, if_neg hc98]
        have hpl : partL c ((⟨a, b, n⟩ : F3).get c) = Lib.itoa n := by
          rw [hgk, partL, if_neg (by rintro (h | h) <;> contradiction)]
        have hyc : y ++ nz = bytesOfL (fieldsL (sh.take p'.toNat) ⟨a, b, n⟩) := by
          rw [hfs, hpl, hy, ← bol_add, hnz]; rfl
        rw [hyc] at hL2 hk2
        have hro2 := hrs (fun h => by rcases h with h | h <;> contradiction)
        conv => cbv
        refine Again.mk k' _ (Nat.lt_succ_self _) (Re.at [(0, 0), (1, 1), (2, 2), (3, 3), (5, 4)] []) ⟨p', k2, L2, bytesOfL (fieldsL (sh.take p'.toNat) ⟨a, b, n⟩), rfl, hL2, hk2, rfl, hro2, by omega, by omega, by omega⟩
end Go.Proofs.YtfjdifeofnpcnaaDoor
/-
  strings.Builder: String, where what it tells stays known, and may be told again.
-/
namespace Go.Proofs.YtfjdifeofnpcnaaDoor

open Go Go.LX
set_option maxRecDepth 100000
set_option linter.unusedVariables false
set_option linter.unusedSimpArgs false

set_option maxHeartbeats 2000000 in
theorem string_fr (b g cap : Nat) (p : Value) (cur : Array Value) (fr : Nat × Nat) (l : List UInt8) (w : World) (h0 : l ≠ []) (hbk : w.heap[b]? = some (.cells #[p, .slice (some ⟨g, 0, none⟩) l.length cap] 51 (0, 0)))
    (hg : w.heap[g]? = some (.cells cur 5 fr)) (hn : l.length ≤ cap) (hcm : cap ≤ maxLen) (hcs : cap ≤ cur.size) (hcell : ∀ j x, l[j]? = some x → w.cell? ((⟨g, 0, none⟩ : Addr).add j) = some (.int .u8 x.toNat)) :
    Calls Tryd.prog 28 #[.pointer (some ⟨b, 0, none⟩)] w fun e w' => e = .returned (.string ⟨l.toArray⟩) ∧ w' = w.drew.freeze ⟨g, 0, none⟩ l.length := by
  have hl0 : l.length ≠ 0 := by simpa using h0
  have c1 : w.drew.cell? ⟨b, 1, none⟩ = some (.slice (some ⟨g, 0, none⟩) l.length cap) := by
    have : w.drew.heap[b]? = some (.cells #[p, .slice (some ⟨g, 0, none⟩) l.length cap] 51 (0, 0)) := hbk
    rw [Lib.cell_of_heap this]; rfl
  have hSD : (Builtin.unsafeSliceData_ #[39] 77 #[.slice (some ⟨g, 0, none⟩) l.length cap]).run Tryd.prog w.drew = .ok (.pointer (some ⟨g, 0, none⟩)) w.drew :=
    Lib.run_unsafeSliceData_row _ _ _ _ _ _ (by omega)
  have hUS : (Builtin.unsafeString_ #[77, 3] 9 #[.pointer (some ⟨g, 0, none⟩), .int .i64 l.length]).run Tryd.prog w.drew = .ok (.string ⟨l.toArray⟩) (w.drew.freeze ⟨g, 0, none⟩ l.length) := by
    refine Lib.run_unsafeString_row w.drew 77 3 9 5 Tryd.underlying77 bd_byte g cur.size (by have hg' : w.drew.heap[g]? = some (.cells cur 5 fr) := hg; simp [World.shape?, hg']) l h0 (by omega) (by unfold maxLen at hcm; omega) ?_
    intro j x hx
    exact hcell j x hx
  have mixed := bd_mixed
  go_enter Tryd.func28, Tryd.ntmps28
  go_wp2
  go_region_o
  all_goals (go_wp2; go_ret; exact ⟨rfl, rfl⟩)
/-- What has been frozen is as it was. -/
theorem freeze_frz (w : World) (g k : Nat) (cur : Array Value) (ty : TypeId) (fr : Nat × Nat) (hg : w.heap[g]? = some (.cells cur ty fr)) (hk0 : k ≠ 0) : (∃ fr', (w.drew.freeze ⟨g, 0, none⟩ k).heap[g]? = some (.cells cur ty fr')) ∧ (∀ i, i ≠ g → (w.drew.freeze ⟨g, 0, none⟩ k).heap[i]? = w.heap[i]?) ∧ (w.drew.freeze ⟨g, 0, none⟩ k).heap.size = w.heap.size ∧ (w.drew.freeze ⟨g, 0, none⟩ k).os = w.os ∧ (w.drew.freeze ⟨g, 0, none⟩ k).tape = w.tape ∧ (w.drew.freeze ⟨g, 0, none⟩ k).output = w.output := by
  have hgg' : w.drew.heap[g]? = some (.cells cur ty fr) := hg
  refine ⟨?_, fun i hi => ?_, ?_, ?_, ?_, ?_⟩
  · simp only [World.freeze, hk0, if_false, Array.getElem?_modify, hgg']
    first | exact ⟨_, rfl⟩ | (simp; done) | (split <;> exact ⟨_, rfl⟩)
  · have hi' : ¬ g = i := fun h => hi h.symm
    simp [World.freeze, hk0, Array.getElem?_modify, hi']; rfl
  · simp [World.freeze, hk0]
  · simp [World.freeze, hk0] <;> rfl
  · simp [World.freeze, hk0] <;> rfl
  · simp [World.freeze, hk0] <;> rfl
set_option maxHeartbeats 2000000 in
theorem stringK_lx (B : LB) (j : Int) (L : List PV) (z : ByteArray) (hB : B = .pure true L ∨ B = .frz L) (hL : L = bytesPV z) (hj : j = z.size) (hz0 : z.size ≠ 0) :
    CallF (fun _ => Tryd.prog) 28 [.ptr 0 (.lit 0)] [(0, .bld 51 [.sl 1 5 1 (.lit 0) (.sym j)]), (1, B)] 2
      (fun r h n => r = .p (.str fun _ => z) ∧ h = [(0, .bld 51 [.sl 1 5 1 (.lit 0) (.sym j)]), (1, .frz L)] ∧ n = 2) := by
  refine .mk ⟨_, _, Tryd.func28, by kernel_rfl, rfl⟩ fun c w xs hr hN hl hrel => ?_
  obtain ⟨x, rfl, hx⟩ := arg1 hl hrel
  obtain ⟨m, hm, hB0⟩ := hr.live 0 _ rfl
  obtain ⟨m1, hm1, hB1⟩ := hr.live 1 _ rfl
  cases m with
  | none => exact hB0.elim
  | some r =>
    have hx := ptr_live hm hx
    subst hx
    obtain ⟨cur, hg, hsz, h0, hc⟩ := hB0
    have hsz : cur.size = 2 := hsz
    have hc1 := hc 0 _ rfl
    obtain ⟨p, v, rfl⟩ : ∃ p v, cur = #[p, v] := by
      rcases cur with ⟨l⟩
      match l, hsz with
      | [p, v], _ => exact ⟨p, v, rfl⟩
    have hc1 : LR c w (.sl 1 5 1 (.lit 0) (.sym j)) v := hc1
    have hlen : L.length = z.size := by rw [hL, bytesPV, List.length_map, Array.length_toList]; rfl
    cases hc1 with
    | goneS _ _ _ _ _ _ _ _ hm' _ => rw [hm1] at hm'; cases hm'
    | slz _ _ _ _ _ _ _ _ _ ho' _ _ h0' => exfalso; simp only [I.val] at ho'; omega
    | slv _ _ _ _ _ hm' ho' hn' => exfalso; simp only [I.val] at hn'; omega
    | sl _ _ _ _ _ g o k cp tot hm' ho' hn' hk' hcp hs' ht' =>
      rw [hm1] at hm'; cases hm'
      obtain ⟨cur, ty, fr, hgg, hle, hrel⟩ : ∃ (cur : Array Value) (ty : _) (fr : _), w.heap[g]? = some (.cells cur ty fr) ∧ L.length ≤ cur.size ∧ ∀ (j : Nat) (u : PV), L[j]? = some u → PR c.mut w u (cur.getD j Go.undef) := by
        rcases hB with rfl | rfl
        · obtain ⟨cur, ty, h1, h2, h3⟩ := hB1; exact ⟨cur, ty, _, h1, h2, h3⟩
        · exact hB1
      simp only [I.val] at ho' hn'
      have ho0 : o = 0 := by omega
      subst ho0
      have hsh : ty = 5 ∧ cur.size = tot := by
        rw [World.shape?, hgg] at hs'
        cases hs'; exact ⟨rfl, rfl⟩
      obtain ⟨rfl, rfl⟩ := hsh
      have hkz : k = z.size := by omega
      have hk0 : k ≠ 0 := by omega
      have hgr : r ≠ g := fun e => by
        rw [e] at hm
        have := hr.inj 0 1 g hm hm1
        cases this
      have hll : z.data.toList.length = k := by rw [Array.length_toList]; exact hkz.symm
      have hcur : ∀ (j : Nat) (x : UInt8), z.data.toList[j]? = some x → cur[j]? = some (Value.int .u8 x.toNat) := by
        intro j x hx
        have hLj : L[j]? = some (.int .u8 (.sym x.toNat)) := by rw [hL, bytesPV, List.getElem?_map, hx]; rfl
        have h1 := hrel j _ hLj
        have hjl : j < L.length := (List.getElem?_eq_some_iff.1 hLj).1
        rw [Array.getD_eq_getD_getElem?, Array.getElem?_eq_getElem (by omega : j < cur.size)] at h1
        rw [Array.getElem?_eq_getElem (by omega : j < cur.size)]
        generalize cur[j] = q at h1
        have h1 : PR c.mut w (.int .u8 (.sym x.toNat)) q := h1
        cases h1 with | int _ _ m hm => rw [← hm]; rfl
      have hs1 := string_fr r g cp p cur fr z.data.toList w (by intro h; rw [h] at hll; simp at hll; omega) (by rw [hll]; exact hg) hgg (by omega) hcp (by omega) (fun j x hx => by
        rw [add_lit]
        simp only [World.cell?, hgg, Nat.zero_add]
        simpa using hcur j x hx)
      obtain ⟨⟨fr', f1⟩, f2, f3, f4, f5, f6⟩ := freeze_frz w g k cur _ fr hgg hk0
      refine hs1.mono ?_
      rintro e w' ⟨rfl, rfl⟩
      rw [hll]
      have hsp : ∀ q, (w.drew.freeze ⟨g, 0, none⟩ k).shape? q = w.shape? q := fun q => by
        by_cases hq : q = g
        · rw [hq, World.shape?, f1, World.shape?, hgg]
        · simp only [World.shape?, f2 q hq]
      have he : Ext c w c (w.drew.freeze ⟨g, 0, none⟩ k) := by
        refine ⟨f4, f5, f6, by rw [f3]; exact Nat.le_refl _, rfl, Nat.le_refl _, fun b hb => .inl rfl, fun b q hb h => ?_, fun i hi ho => f2 i fun e => ho (by rw [e]; exact ⟨1, hm1⟩), fun b r' hb h => hsp r'⟩
        rw [hr.fresh b hb] at h; cases h
      refine ⟨c, .p (.str fun _ => z), .string z, _, 2, ?_, ⟨rfl, rfl, rfl⟩, ?_, hN, .p _ _ (.str _), he⟩
      · rfl
      refine hr.step he (.inl rfl) (fun b hb => hr.fresh b hb) (fun b => .inl rfl) (fun b B hb => .inr ?_)
      rw [hget_cons] at hb
      by_cases e : 0 = b
      · rw [if_pos e] at hb; cases hb
        subst e
        refine ⟨some r, hm, _, (f2 r hgr).trans hg, rfl, h0, fun j u hu => ?_⟩
        rcases j with _ | j
        · simp at hu; subst hu
          exact .sl _ _ _ _ _ g 0 k cp _ hm1 rfl hn' hk' hcp ((hsp g).trans hs') ht'
        · simp at hu
      · rw [if_neg e, hget_cons] at hb
        by_cases e1 : 1 = b
        · rw [if_pos e1] at hb; cases hb
          subst e1
          exact ⟨some g, hm1, cur, _, fr', f1, hle, fun j u hu => (hrel j u hu).ext hr.fresh he⟩
        · rw [if_neg e1] at hb; cases hb
end Go.Proofs.YtfjdifeofnpcnaaDoor
/-
  Layer 2: lines that are written.
-/
namespace Go.Proofs.YtfjdifeofnpcnaaDoor

open Go Go.LX
set_option maxRecDepth 100000
set_option linter.unusedVariables false
set_option linter.unusedSimpArgs false

def I64 (n : Int) : Prop := -9223372036854775808 ≤ n ∧ n ≤ 9223372036854775807
theorem csV_get {l : List Cs} {i : Nat} {c : Cs} (h : l[i]? = some c) : (csV l)[i * 4]? = some (.int .i64 (.sym c.k)) ∧ (csV l)[i * 4 + 1]? = some (.int .i64 (.sym c.ch)) ∧ (csV l)[i * 4 + 2]? = some (.int .i64 (.sym c.reg)) ∧ (csV l)[i * 4 + 3]? = some (.int .i64 (.sym c.to)) := by
  induction l generalizing i with
  | nil => simp at h
  | cons g l ih =>
    cases i with
    | zero => simp at h; subst h; exact ⟨rfl, rfl, rfl, rfl⟩
    | succ i =>
      have := ih (i := i) (by simpa using h)
      rw [csV, List.flatMap_cons, show (i + 1) * 4 = i * 4 + 4 by omega]
      exact this
theorem caseShapeE_lx (k : Int) (y : ByteArray) (hy : y = bytesOfL (cshape k)) : CallF (fun _ => Tryd.prog) 65 [.p (.int .i64 (.sym k))] [] 0 (fun r h n => r = .p (.str fun _ => y) ∧ h = [] ∧ n = 0) :=
  (caseShape_lx k).mono (fun r h n ⟨⟨y2, e1, hy2⟩, e2, e3⟩ => ⟨by rw [e1, hy2, hy], e2, e3⟩)
def CasesOk (cs : List Cs) : Prop := ∀ c ∈ cs, (c.k = 1 ∨ c.k = 2 ∨ c.k = 3) ∧ RegsOk (cshape c.k) c.f
set_option maxHeartbeats 4000000 in
theorem writeCases_lx (cs : List Cs) (k : Int) (L : List PV) (o : Unit → Obj) (ho : IsPow o) (hk : k = cs.length) (hL : L = csV cs) (hlen : cs.length ≤ 520) (hn : ∀ c ∈ cs, I64 c.to) :
    CallF (fun _ => Tryd.prog) 45 [.p (.vsl (.sym k) true L)] [(0, .fix 0 o)] 1
      (fun r h n' => OptS (CasesOk cs) (cs.flatMap caseL) 33280 r ∧ h = [(0, .fix 0 o)] ∧ n' = 1) := by
  refine callF_of_body tok Tryd.func45 (by kernel_rfl) rfl rfl rfl ?_; conv => cbv
  have s0 : (⟨⟨[]⟩⟩ : ByteArray) = bytesOfL ((cs.take (0 : Int).toNat).flatMap caseL) := rfl
  have hclen : ∀ c ∈ cs, (caseL c).length ≤ 64 := by
    intro c hc
    have key : ∀ ks : List UInt8, (fieldsL ks c.f).length ≤ ks.length * 21 ∨ ¬ (∀ k ∈ ks, k = 97 ∨ k = 98 ∨ k = 110) := by
      intro ks
      induction ks with
      | nil => left; simp [fieldsL]
      | cons k ks ih =>
        by_cases hks : ∀ x ∈ k :: ks, x = 97 ∨ x = 98 ∨ x = 110
        · left
          rcases ih with ih | ih
          · have h1 : (partL k (c.f.get k)).length ≤ 21 := by
              unfold partL
              split
              · simp
              · rename_i g
                have hg : c.f.get k = c.to := by
                  unfold F3.get; rw [if_neg (fun h => g (.inl h)), if_neg (fun h => g (.inr h))]; rfl
                rw [hg]; exact Lib.itoa_length_le _ (hn c hc).1 (hn c hc).2
            show (partL k _ ++ fieldsL ks _).length ≤ _
            rw [List.length_append, List.length_cons]; omega
          · exact absurd (fun x hx => hks x (by simp [hx])) ih
        · right; exact hks
    have h3 : (cshape c.k).length ≤ 3 ∧ ∀ k ∈ cshape c.k, k = 97 ∨ k = 98 ∨ k = 110 := by unfold cshape; split <;> decide
    rcases key (cshape c.k) with h | h
    · show (_ :: fieldsL _ _).length ≤ _
      rw [List.length_cons]; omega
    · exact absurd h3.2 h
  have hpre : ∀ i : Nat, ((cs.take i).flatMap caseL).length ≤ 33280 := by
    intro i
    have key : ∀ l : List Cs, (∀ c ∈ l, (caseL c).length ≤ 64) → (l.flatMap caseL).length ≤ l.length * 64 := by
      intro l
      induction l with
      | nil => simp
      | cons c l ih =>
        intro h
        have h1 := h c (by simp)
        have h2 := ih (fun d hd => h d (by simp [hd]))
        rw [List.flatMap_cons, List.length_append, List.length_cons]; omega
    have := key (cs.take i) (fun c hc => hclen c (List.mem_of_mem_take hc))
    have h2 : (cs.take i).length ≤ 520 := by rw [List.length_take]; omega
    omega
  refine LoopF.mk (fun kk s => ∃ (i q : Int) (M : List PV) (y : ByteArray), s = ⟨undefs 4 ++ .ptr 1 (.lit 0) :: (undefs 5 ++ .p (.vsl (.sym k) true L) :: .p (.int .i64 (.sym k)) :: .p (.int .i64 (.sym i)) :: undefs 32), [(1, .bld 51 [.sl 2 5 1 (.lit 0) (.sym q)]), (2, .pure true M), (0, .fix 0 o)], 3⟩ ∧ M = bytesPV y ∧ q = y.size ∧ y = bytesOfL ((cs.take i.toNat).flatMap caseL) ∧ CasesOk (cs.take i.toNat) ∧ 0 ≤ i ∧ i ≤ k ∧ kk = (k - i).toNat) k.toNat _
    (Re.at [(0, 0), (1, 1)] [2]) ⟨0, 0, [], ⟨⟨[]⟩⟩, rfl, rfl, rfl, s0, fun c hc => by simp at hc, by omega, by omega, by omega⟩ ?_
  clear s0
  rintro kk s ⟨i, q, M, y, rfl, hM, hq, hy, hco, h0, h1, hkk⟩
  have hys : y.size ≤ 33280 := by rw [hy, bol_size]; exact hpre _
  conv => cbv
  refine Br.mk (fun g => ?_) (fun g => ?_)
  case refine_2 =>
    have g : ¬ i < k := g
    have hfull : cs.take i.toNat = cs := List.take_of_length_le (by omega)
    rw [hfull] at hy hco
    conv => cbv
    refine callF_frame (string_lx q M y hM hq) [(0, 1), (1, 2)] rfl (by simp [hmapOk, nget, hget, renB, okB, renV, renVs, rn, okVs, okV]) rfl rfl (fun r2 h' n' ⟨e1, e2, e3⟩ => ?_)
    subst e1 e2 e3
    conv => cbv
    refine RetF.mk [.p (.str fun _ => y), .p (.bool true)] [(0, .fix 0 o)] 1 (Re.at [(0, 0)] []) rfl ⟨.yes y hco hy hys, rfl, rfl⟩
  have g : i < k := g
  obtain ⟨c, hc⟩ : ∃ c, cs[i.toNat]? = some c := ⟨_, List.getElem?_eq_getElem (by omega)⟩
  have hcm := List.mem_of_getElem? hc
  have hcg := csV_get hc
  rw [← hL] at hcg
  obtain ⟨ck, hck⟩ : ∃ x, x = c.k := ⟨_, rfl⟩
  obtain ⟨cc, hcc⟩ : ∃ x, x = c.ch := ⟨_, rfl⟩
  obtain ⟨cr, hcr⟩ : ∃ x, x = c.reg := ⟨_, rfl⟩
  obtain ⟨ct, hct⟩ : ∃ x, x = c.to := ⟨_, rfl⟩
  rw [← hck, ← hcc, ← hcr, ← hct] at hcg
  obtain ⟨k', rfl⟩ : ∃ k', kk = k' + 1 := ⟨kk - 1, by omega⟩
  conv => cbv
  refine Need.mk ⟨by show (0 : Int) ≤ i; omega, by show i < k; omega⟩ ?_
  conv => cbv
  refine Sum.mk fun w hw => ?_
  have hw : w = i * 4 := hw
  conv => cbv
  refine Cell.at w (i.toNat * 4) hcg.1 (by simp [I.val]) (by omega) ?_
  conv => cbv
  refine Cell.at (w + 1) (i.toNat * 4 + 1) hcg.2.1 (by simp [I.val]) (by omega) ?_
  conv => cbv
  refine Cell.at (w + 2) (i.toNat * 4 + 2) hcg.2.2.1 (by simp [I.val]) (by omega) ?_
  conv => cbv
  refine Cell.at (w + 3) (i.toNat * 4 + 3) hcg.2.2.2 (by simp [I.val]) (by omega) ?_
  conv => cbv
  refine callF_frame (caseSign_lx ck) [] rfl trivial rfl rfl (fun r2 h' n' hrr => ?_)
  obtain ⟨⟨sz, e1, hsz⟩, e2, e3⟩ := hrr
  subst e1 e2 e3
  conv => cbv
  obtain ⟨y4, hy4⟩ : ∃ y4, y4 = bytesOfL (cshape ck) := ⟨_, rfl⟩
  have hcl := cshape_low ck
  refine read_sound tok (by kernel_rfl) [] [2] [(10, [])] [0, 1, 2, 3, 4, 5, 6, 7, 8, 9, 10, 11, 12, 13, 14, 15] (by kernel_rfl) ?_
  conv => cbv
  refine ReadF.mk (.p (.str fun _ => y4)) (fun h' n' hbR hnR => callF_read (caseShapeE_lx ck y4 hy4) [] rfl trivial rfl rfl rfl rfl) ?_
  conv => cbv
  refine callF_frame (writeFields_lx (cshape ck) y4 cc cr ct o ho hy4 hcl.1 (by omega) (by rw [hct]; exact hn c hcm)) [(0, 0)] rfl (by simp [hmapOk, nget, hget, renB, okB, renV, renVs, rn, okVs, okV]) rfl rfl (fun r2 h' n' hrr => ?_)
  obtain ⟨e1, e2, e3⟩ := hrr
  subst e2 e3
  have hcf : (⟨cc, cr, ct⟩ : F3) = c.f := by rw [hcc, hcr, hct]; rfl
  have hnot : ¬ ((c.k = 1 ∨ c.k = 2 ∨ c.k = 3) ∧ RegsOk (cshape c.k) c.f) → ¬ CasesOk cs := fun h h2 => h (h2 c hcm)
  have htk : cs.take (i + 1).toNat = cs.take i.toNat ++ [c] := by rw [show (i + 1).toNat = i.toNat + 1 by omega, List.take_add_one, hc]; rfl
  obtain ⟨E, hE⟩ : ∃ E : ByteArray, E = ⟨⟨[]⟩⟩ := ⟨_, rfl⟩
  cases e1 with
  | no y5 hno hy5s =>
    have hno2 : ¬ CasesOk cs := hnot (fun h => hno (by rw [hcf, hck]; exact h.2))
    conv => cbv
    refine Br.mk (fun g5 => ?_) (fun g5 => ?_)
    · conv => cbv
      refine RetF.mk [.p (.str fun _ => E), .p (.bool false)] [(0, .fix 0 o)] 1 (Re.at [(0, 0)] []) rfl ⟨.no E hno2 (by rw [hE]; decide), rfl, rfl⟩
    · conv => cbv
      refine RetF.mk [.p (.str fun _ => E), .p (.bool false)] [(0, .fix 0 o)] 1 (Re.at [(0, 0)] []) rfl ⟨.no E hno2 (by rw [hE]; decide), rfl, rfl⟩
  | yes y5 hyes hy5 hy5t =>
    conv => cbv
    refine Br.mk (fun g5 => ?_) (fun g5 => ?_)
    · have g5 : sz = ⟨#[]⟩ := g5
      have hkb : ¬ (ck = 1 ∨ ck = 2 ∨ ck = 3) := by
        intro h
        rw [hsz, if_pos h] at g5
        exact absurd ((bol_nil _).1 g5) (by simp)
      have hno2 : ¬ CasesOk cs := hnot (fun h => hkb (by rw [hck]; exact h.1))
      conv => cbv
      refine RetF.mk [.p (.str fun _ => E), .p (.bool false)] [(0, .fix 0 o)] 1 (Re.at [(0, 0)] []) rfl ⟨.no E hno2 (by rw [hE]; decide), rfl, rfl⟩
    · have g5 : ¬ sz = ⟨#[]⟩ := g5
      have hkg : ck = 1 ∨ ck = 2 ∨ ck = 3 := by
        refine Classical.byContradiction fun h => g5 ?_
        rw [hsz, if_neg h]; rfl
      rw [if_pos hkg] at hsz
      have hszs : sz.size = 1 := by rw [hsz, bol_size]; rfl
      have hcL : caseL c = caseB ck :: fieldsL (cshape ck) ⟨cc, cr, ct⟩ := by rw [hcf, hck]; rfl
      have hy5s : y5.size ≤ 64 := by
        have := hclen c hcm
        rw [hcL, List.length_cons] at this
        rw [hy5, bol_size]; omega
      have hro2 : CasesOk (cs.take (i + 1).toNat) := by
        rw [htk]
        intro d hd
        rcases List.mem_append.1 hd with hd | hd
        · exact hco d hd
        · rw [List.mem_singleton] at hd; subst hd
          exact ⟨by rw [← hck]; exact hkg, by rw [← hck, ← hcf]; exact hyes⟩
      conv => cbv
      refine Need.mk (by show sz.size + y5.size ≤ 9223372036854775807; omega) ?_
      conv => cbv
      refine Str.mk fun y6 hy6 => ?_
      have hy6 : y6 = bytesOfL (caseL c) := by
        have : y6 = sz ++ y5 := hy6
        rw [this, hsz, hy5, bol_add, hcL]; rfl
      have hy6s : y6.size ≤ 64 := by rw [hy6, bol_size]; exact hclen c hcm
      conv => cbv
      refine callF_frame (writeString_lx q M y y6 hM hq (by omega)) [(0, 1), (1, 2)] rfl (by simp [hmapOk, nget, hget, renB, okB, renV, renVs, rn, okVs, okV]) rfl rfl (fun r2 h' n' ⟨m2, k2, L2, e1, e2, e3, hL2, hk2⟩ => ?_)
      subst e1 e2 e3
      have hyc : y ++ y6 = bytesOfL ((cs.take (i + 1).toNat).flatMap caseL) := by
        rw [htk, List.flatMap_append, ← bol_add, ← hy, hy6]; simp
      rw [hyc] at hL2 hk2
      conv => cbv
      refine Fit.mk (by show (-9223372036854775808 : Int) ≤ i + 1; omega) (by show i + 1 ≤ 9223372036854775807; omega) fun i2 hi2 => ?_
      have hi2 : i2 = i + 1 := hi2
      rw [← hi2] at hro2 hL2 hk2
      conv => cbv
      refine Again.mk k' _ (Nat.lt_succ_self _) (Re.at [(0, 0), (1, 1), (4, 2)] []) ⟨i2, k2, L2, bytesOfL ((cs.take i2.toNat).flatMap caseL), rfl, hL2, hk2, rfl, hro2, by omega, by omega, by omega⟩
set_option maxHeartbeats 2000000 in
theorem sameCases_lx (A B : List Cs) (k j : Int) (L M : List PV) (hk : k = A.length) (hj : j = B.length) (hL : L = csV A) (hM : M = csV B) (hA : A.length ≤ 3000000) : CallF (fun _ => Tryd.prog) 49 [.p (.vsl (.sym k) true L), .p (.vsl (.sym j) true M)] [] 0 (fun r h n => (∃ b : Bool, r = .p (.bool b) ∧ (b = true ↔ A = B)) ∧ h = [] ∧ n = 0) := by
  refine callF_of_body tok Tryd.func49 (by kernel_rfl) rfl rfl rfl ?_; conv => cbv
  refine Br.mk (fun g => ?_) (fun g => ?_)
  · have g : ¬ k = j := g
    conv => cbv
    refine RetF.mk [.p (.bool false)] [] 0 (Re.at [] []) rfl ⟨⟨false, rfl, by simp only [Bool.false_eq_true, false_iff]; intro h; rw [h] at hk; omega⟩, rfl, rfl⟩
  have g : k = j := Classical.byContradiction g
  conv => cbv
  refine LoopF.mk (fun kk s => ∃ i : Int, s = ⟨.p (.vsl (.sym k) true L) :: .p (.vsl (.sym j) true M) :: (undefs 9 ++ .p (.vsl (.sym k) true L) :: .p (.int .i64 (.sym k)) :: .p (.int .i64 (.sym i)) :: undefs 12), [], 0⟩ ∧ 0 ≤ i ∧ i ≤ k ∧ A.take i.toNat = B.take i.toNat ∧ kk = (k - i).toNat) k.toNat _
    (Re.at [] []) ⟨0, rfl, by omega, by omega, rfl, by omega⟩ ?_
  rintro kk s ⟨i, rfl, h0, h1, ht, hkk⟩
  conv => cbv
  refine Br.mk (fun g2 => ?_) (fun g2 => ?_)
  · have g2 : i < k := g2
    obtain ⟨c, hc⟩ : ∃ c, A[i.toNat]? = some c := ⟨_, List.getElem?_eq_getElem (by omega)⟩
    obtain ⟨d, hd⟩ : ∃ d, B[i.toNat]? = some d := ⟨_, List.getElem?_eq_getElem (by omega)⟩
    have hcg := csV_get hc
    have hdg := csV_get hd
    rw [← hL] at hcg
    rw [← hM] at hdg
    obtain ⟨k', rfl⟩ : ∃ k', kk = k' + 1 := ⟨kk - 1, by omega⟩
    conv => cbv
    refine draw_sound tok (by kernel_rfl) rfl (by kernel_rfl) ?_
    conv => cbv
    refine Need.mk ⟨by show (0 : Int) ≤ i; omega, by show i < k; omega⟩ ?_
    conv => cbv
    refine Sum.mk fun w hw => ?_
    have hw : w = i * 4 := hw
    conv => cbv
    refine Cell.at w (i.toNat * 4) hcg.1 (by simp [I.val]) (by omega) ?_
    conv => cbv
    refine Cell.at (w + 1) (i.toNat * 4 + 1) hcg.2.1 (by simp [I.val]) (by omega) ?_
    conv => cbv
    refine Cell.at (w + 2) (i.toNat * 4 + 2) hcg.2.2.1 (by simp [I.val]) (by omega) ?_
    conv => cbv
    refine Cell.at (w + 3) (i.toNat * 4 + 3) hcg.2.2.2 (by simp [I.val]) (by omega) ?_
    conv => cbv
    refine Need.mk ⟨by show (0 : Int) ≤ i; omega, by show i < j; omega⟩ ?_
    conv => cbv
    refine Sum.mk fun w2 hw2 => ?_
    have hw2 : w2 = i * 4 := hw2
    conv => cbv
    refine Cell.at w2 (i.toNat * 4) hdg.1 (by simp [I.val]) (by omega) ?_
    conv => cbv
    refine Cell.at (w2 + 1) (i.toNat * 4 + 1) hdg.2.1 (by simp [I.val]) (by omega) ?_
    conv => cbv
    refine Cell.at (w2 + 2) (i.toNat * 4 + 2) hdg.2.2.1 (by simp [I.val]) (by omega) ?_
    conv => cbv
    refine Cell.at (w2 + 3) (i.toNat * 4 + 3) hdg.2.2.2 (by simp [I.val]) (by omega) ?_
    conv => cbv
    refine AggEq.mk (by kernel_rfl) (fun e => ?_) (fun e => ?_)
    · have e : c.k = d.k ∧ c.ch = d.ch ∧ c.reg = d.reg ∧ c.to = d.to := by simpa [eqLs, I.val] using e
      have ecd : c = d := by cases c; cases d; simp_all
      conv => cbv
      refine Fit.mk (by show (-9223372036854775808 : Int) ≤ i + 1; omega) (by show i + 1 ≤ 9223372036854775807; omega) fun i2 hi2 => ?_
      have hi2 : i2 = i + 1 := hi2
      conv => cbv
      refine Again.mk k' _ (Nat.lt_succ_self _) (Re.at [] []) ⟨i2, rfl, by omega, by omega, ?_, by omega⟩
      rw [show i2.toNat = i.toNat + 1 by omega, List.take_add_one, List.take_add_one, ht, hc, hd, ecd]
    · have e : ¬ (c.k = d.k ∧ c.ch = d.ch ∧ c.reg = d.reg ∧ c.to = d.to) := by simpa [eqLs, I.val] using e
      have hne : ¬ A = B := fun h => e (by rw [h, hd] at hc; cases hc; exact ⟨rfl, rfl, rfl, rfl⟩)
      conv => cbv
      refine RetF.mk [.p (.bool false)] [] 0 (Re.at [] []) rfl ⟨⟨false, rfl, by simp only [Bool.false_eq_true, false_iff]; exact hne⟩, rfl, rfl⟩
  · have g2 : ¬ i < k := g2
    have e : A = B := by
      rw [List.take_of_length_le (by omega), List.take_of_length_le (by omega)] at ht; exact ht
    conv => cbv
    refine RetF.mk [.p (.bool true)] [] 0 (Re.at [] []) rfl ⟨⟨true, rfl, by simp [e]⟩, rfl, rfl⟩
set_option maxHeartbeats 2000000 in
theorem sameInstr_lx (X Y : Is) (op a b n k op2 a2 b2 n2 k2 : Int) (L L2 : List PV) (h1 : op = X.op) (h2 : a = X.a) (h3 : b = X.b) (h4 : n = X.n) (h5 : k = X.cs.length) (h6 : L = csV X.cs) (g1 : op2 = Y.op) (g2 : a2 = Y.a) (g3 : b2 = Y.b) (g4 : n2 = Y.n) (g5 : k2 = Y.cs.length) (g6 : L2 = csV Y.cs) (hlen : X.cs.length ≤ 3000000) :
    CallF (fun _ => Tryd.prog) 30 [.agg [.p (.int .i64 (.sym op)), .p (.int .i64 (.sym a)), .p (.int .i64 (.sym b)), .p (.int .i64 (.sym n)), .p (.vsl (.sym k) true L)], .agg [.p (.int .i64 (.sym op2)), .p (.int .i64 (.sym a2)), .p (.int .i64 (.sym b2)), .p (.int .i64 (.sym n2)), .p (.vsl (.sym k2) true L2)]] [] 0 (fun r h n => (∃ q : Bool, r = .p (.bool q) ∧ (q = true ↔ X = Y)) ∧ h = [] ∧ n = 0) := by
  have hext : X = Y ↔ op = op2 ∧ a = a2 ∧ b = b2 ∧ n = n2 ∧ X.cs = Y.cs := by
    rw [h1, h2, h3, h4, g1, g2, g3, g4]
    constructor
    · rintro rfl; simp
    · intro h; cases X; cases Y; simp_all
  refine callF_of_body tok Tryd.func30 (by kernel_rfl) rfl rfl rfl ?_; conv => cbv
  refine Br.mk (fun e1 => ?_) (fun e1 => ?_)
  case refine_2 =>
    have e1 : ¬ op = op2 := e1
    conv => cbv
    refine RetF.mk [.p (.bool false)] [] 0 (Re.at [] []) rfl ⟨⟨false, rfl, by simp only [Bool.false_eq_true, false_iff]; intro h; exact e1 (hext.1 h).1⟩, rfl, rfl⟩
  have e1 : op = op2 := e1
  conv => cbv
  refine Br.mk (fun e2 => ?_) (fun e2 => ?_)
  case refine_2 =>
    have e2 : ¬ a = a2 := e2
    conv => cbv
    refine RetF.mk [.p (.bool false)] [] 0 (Re.at [] []) rfl ⟨⟨false, rfl, by simp only [Bool.false_eq_true, false_iff]; intro h; exact e2 (hext.1 h).2.1⟩, rfl, rfl⟩
  have e2 : a = a2 := e2
  conv => cbv
  refine Br.mk (fun e3 => ?_) (fun e3 => ?_)
  case refine_2 =>
    have e3 : ¬ b = b2 := e3
    conv => cbv
    refine RetF.mk [.p (.bool false)] [] 0 (Re.at [] []) rfl ⟨⟨false, rfl, by simp only [Bool.false_eq_true, false_iff]; intro h; exact e3 (hext.1 h).2.2.1⟩, rfl, rfl⟩
  have e3 : b = b2 := e3
  conv => cbv
  refine Br.mk (fun e4 => ?_) (fun e4 => ?_)
  case refine_2 =>
    have e4 : ¬ n = n2 := e4
    conv => cbv
    refine RetF.mk [.p (.bool false)] [] 0 (Re.at [] []) rfl ⟨⟨false, rfl, by simp only [Bool.false_eq_true, false_iff]; intro h; exact e4 (hext.1 h).2.2.2.1⟩, rfl, rfl⟩
  have e4 : n = n2 := e4
  conv => cbv
  refine callF_frame (sameCases_lx X.cs Y.cs k k2 L L2 h5 g5 h6 g6 hlen) [] rfl trivial rfl rfl (fun r2 h' n' hrr => ?_)
  obtain ⟨⟨q, d1, hq⟩, d2, d3⟩ := hrr
  subst d1 d2 d3
  conv => cbv
  refine RetF.mk [.p (.bool q)] [] 0 (Re.at [] []) rfl ⟨⟨q, rfl, by rw [hq, hext]; simp [e1, e2, e3, e4]⟩, rfl, rfl⟩
theorem isV_get {l : List Is} {i : Nat} {x : Is} (h : l[i]? = some x) : (isV l)[i * 5]? = some (.int .i64 (.sym x.op)) ∧ (isV l)[i * 5 + 1]? = some (.int .i64 (.sym x.a)) ∧ (isV l)[i * 5 + 2]? = some (.int .i64 (.sym x.b)) ∧ (isV l)[i * 5 + 3]? = some (.int .i64 (.sym x.n)) ∧ (isV l)[i * 5 + 4]? = some (.vsl (.sym x.cs.length) true (csV x.cs)) := by
  induction l generalizing i with
  | nil => simp at h
  | cons g l ih =>
    cases i with
    | zero => simp at h; subst h; exact ⟨rfl, rfl, rfl, rfl, rfl⟩
    | succ i =>
      have := ih (i := i) (by simpa using h)
      rw [isV, List.flatMap_cons, show (i + 1) * 5 = i * 5 + 5 by omega]
      exact this
set_option maxHeartbeats 4000000 in
theorem equalFunc_lx (A B : List Is) (k j : Int) (L M : List PV) (hk : k = A.length) (hj : j = B.length) (hL : L = isV A) (hM : M = isV B) (hA : A.length ≤ 3000000) (hAc : ∀ x ∈ A, x.cs.length ≤ 3000000) : CallF (fun _ => Tryd.prog) 29 [.p (.vsl (.sym k) true L), .p (.vsl (.sym j) true M), .p (.fn 30)] [] 0 (fun r h n => (∃ b : Bool, r = .p (.bool b) ∧ (b = true ↔ A = B)) ∧ h = [] ∧ n = 0) := by
  refine callF_of_body tok Tryd.func29 (by kernel_rfl) rfl rfl rfl ?_; conv => cbv
  refine Br.mk (fun g => ?_) (fun g => ?_)
  · have g : ¬ k = j := g
    conv => cbv
    refine RetF.mk [.p (.bool false)] [] 0 (Re.at [] []) rfl ⟨⟨false, rfl, by simp only [Bool.false_eq_true, false_iff]; intro h; rw [h] at hk; omega⟩, rfl, rfl⟩
  have g : k = j := Classical.byContradiction g
  conv => cbv
  refine LoopF.mk (fun kk s => ∃ i : Int, s = ⟨undefs 1 ++ .p (.vsl (.sym j) true M) :: .p (.fn 30) :: (undefs 12 ++ .p (.vsl (.sym k) true L) :: .p (.int .i64 (.sym k)) :: .p (.int .i64 (.sym i)) :: undefs 14), [], 0⟩ ∧ 0 ≤ i ∧ i ≤ k ∧ A.take i.toNat = B.take i.toNat ∧ kk = (k - i).toNat) k.toNat _
    (Re.at [] []) ⟨0, rfl, by omega, by omega, rfl, by omega⟩ ?_
  rintro kk s ⟨i, rfl, h0, h1, ht, hkk⟩
  conv => cbv
  refine Br.mk (fun g2 => ?_) (fun g2 => ?_)
  · have g2 : i < k := g2
    obtain ⟨x, hx⟩ : ∃ x, A[i.toNat]? = some x := ⟨_, List.getElem?_eq_getElem (by omega)⟩
    obtain ⟨y, hy⟩ : ∃ y, B[i.toNat]? = some y := ⟨_, List.getElem?_eq_getElem (by omega)⟩
    have hxg := isV_get hx
    have hyg := isV_get hy
    rw [← hL] at hxg
    rw [← hM] at hyg
    obtain ⟨xo, hxo⟩ : ∃ q, q = x.op := ⟨_, rfl⟩
    obtain ⟨xa, hxa⟩ : ∃ q, q = x.a := ⟨_, rfl⟩
    obtain ⟨xb, hxb⟩ : ∃ q, q = x.b := ⟨_, rfl⟩
    obtain ⟨xn, hxn⟩ : ∃ q, q = x.n := ⟨_, rfl⟩
    obtain ⟨xk, hxk⟩ : ∃ q, q = ((x.cs.length : Nat) : Int) := ⟨_, rfl⟩
    obtain ⟨xl, hxl⟩ : ∃ q, q = csV x.cs := ⟨_, rfl⟩
    obtain ⟨yo, hyo⟩ : ∃ q, q = y.op := ⟨_, rfl⟩
    obtain ⟨ya, hya⟩ : ∃ q, q = y.a := ⟨_, rfl⟩
    obtain ⟨yb, hyb⟩ : ∃ q, q = y.b := ⟨_, rfl⟩
    obtain ⟨yn, hyn⟩ : ∃ q, q = y.n := ⟨_, rfl⟩
    obtain ⟨yk, hyk⟩ : ∃ q, q = ((y.cs.length : Nat) : Int) := ⟨_, rfl⟩
    obtain ⟨yl, hyl⟩ : ∃ q, q = csV y.cs := ⟨_, rfl⟩
    rw [← hxo, ← hxa, ← hxb, ← hxn, ← hxk, ← hxl] at hxg
    rw [← hyo, ← hya, ← hyb, ← hyn, ← hyk, ← hyl] at hyg
    obtain ⟨k', rfl⟩ : ∃ k', kk = k' + 1 := ⟨kk - 1, by omega⟩
    conv => cbv
    refine Need.mk ⟨by show (0 : Int) ≤ i; omega, by show i < k; omega⟩ ?_
    conv => cbv
    refine Sum.mk fun w hw => ?_
    have hw : w = i * 5 := hw
    conv => cbv
    refine Cell.at w (i.toNat * 5) hxg.1 (by simp [I.val]) (by omega) ?_
    conv => cbv
    refine Cell.at (w + 1) (i.toNat * 5 + 1) hxg.2.1 (by simp [I.val]) (by omega) ?_
    conv => cbv
    refine Cell.at (w + 2) (i.toNat * 5 + 2) hxg.2.2.1 (by simp [I.val]) (by omega) ?_
    conv => cbv
    refine Cell.at (w + 3) (i.toNat * 5 + 3) hxg.2.2.2.1 (by simp [I.val]) (by omega) ?_
    conv => cbv
    refine Cell.at (w + 4) (i.toNat * 5 + 4) hxg.2.2.2.2 (by simp [I.val]) (by omega) ?_
    conv => cbv
    refine Need.mk ⟨by show (0 : Int) ≤ i; omega, by show i < j; omega⟩ ?_
    conv => cbv
    refine Sum.mk fun w2 hw2 => ?_
    have hw2 : w2 = i * 5 := hw2
    conv => cbv
    refine Cell.at w2 (i.toNat * 5) hyg.1 (by simp [I.val]) (by omega) ?_
    conv => cbv
    refine Cell.at (w2 + 1) (i.toNat * 5 + 1) hyg.2.1 (by simp [I.val]) (by omega) ?_
    conv => cbv
    refine Cell.at (w2 + 2) (i.toNat * 5 + 2) hyg.2.2.1 (by simp [I.val]) (by omega) ?_
    conv => cbv
    refine Cell.at (w2 + 3) (i.toNat * 5 + 3) hyg.2.2.2.1 (by simp [I.val]) (by omega) ?_
    conv => cbv
    refine Cell.at (w2 + 4) (i.toNat * 5 + 4) hyg.2.2.2.2 (by simp [I.val]) (by omega) ?_
    conv => cbv
    refine callF_frame (sameInstr_lx x y xo xa xb xn xk yo ya yb yn yk xl yl hxo hxa hxb hxn hxk hxl hyo hya hyb hyn hyk hyl (hAc x (List.mem_of_getElem? hx))) [] rfl trivial rfl rfl (fun r2 h' n' hrr => ?_)
    obtain ⟨⟨q, d1, hq⟩, d2, d3⟩ := hrr
    subst d1 d2 d3
    cases q with
    | true =>
      have exy : x = y := hq.1 rfl
      conv => cbv
      refine Fit.mk (by show (-9223372036854775808 : Int) ≤ i + 1; omega) (by show i + 1 ≤ 9223372036854775807; omega) fun i2 hi2 => ?_
      have hi2 : i2 = i + 1 := hi2
      conv => cbv
      refine Again.mk k' _ (Nat.lt_succ_self _) (Re.at [] []) ⟨i2, rfl, by omega, by omega, ?_, by omega⟩
      rw [show i2.toNat = i.toNat + 1 by omega, List.take_add_one, List.take_add_one, ht, hx, hy, exy]
    | false =>
      have hne : ¬ A = B := fun h => by
        rw [h, hy] at hx; cases hx
        exact absurd (hq.2 rfl) (by simp)
      conv => cbv
      refine RetF.mk [.p (.bool false)] [] 0 (Re.at [] []) rfl ⟨⟨false, rfl, by simp only [Bool.false_eq_true, false_iff]; exact hne⟩, rfl, rfl⟩
  · have g2 : ¬ i < k := g2
    have e : A = B := by
      rw [List.take_of_length_le (by omega), List.take_of_length_le (by omega)] at ht; exact ht
    conv => cbv
    refine RetF.mk [.p (.bool true)] [] 0 (Re.at [] []) rfl ⟨⟨true, rfl, by simp [e]⟩, rfl, rfl⟩
def XI64 (x : Is) : Prop := I64 x.op ∧ I64 x.n ∧ x.cs.length ≤ 520 ∧ ∀ c ∈ x.cs, I64 c.to
set_option maxHeartbeats 4000000 in
theorem writeLine_lx (X : Is) (op a b n k : Int) (L : List PV) (o : Unit → Obj) (ho : IsPow o) (h1 : op = X.op) (h2 : a = X.a) (h3 : b = X.b) (h4 : n = X.n) (h5 : k = X.cs.length) (h6 : L = csV X.cs) (hX : XI64 X) : CallF (fun _ => Tryd.prog) 25 [.agg [.p (.int .i64 (.sym op)), .p (.int .i64 (.sym a)), .p (.int .i64 (.sym b)), .p (.int .i64 (.sym n)), .p (.vsl (.sym k) true L)]] [(0, .fix 0 o)] 1 (fun r h n' => OptS (WlOk X) (lineOf X) 33281 r ∧ h = [(0, .fix 0 o)] ∧ n' = 1) := by
  obtain ⟨E, hE⟩ : ∃ E : ByteArray, E = ⟨⟨[]⟩⟩ := ⟨_, rfl⟩
  refine callF_of_body tok Tryd.func25 (by kernel_rfl) rfl rfl rfl ?_; conv => cbv
  refine callF_frame (signOf_lx op (by rw [h1]; exact hX.1)) [] rfl trivial rfl rfl (fun r2 h' n' hrr => ?_)
  obtain ⟨⟨sz, e1, hsz⟩, e2, e3⟩ := hrr
  subst e1 e2 e3
  conv => cbv
  refine Br.mk (fun g => ?_) (fun g => ?_)
  · have g : sz = ⟨#[]⟩ := g
    have hno : ¬ WlOk X := fun h => by
      rw [hsz, signL, if_pos (by rw [h1]; exact h.1)] at g
      exact absurd ((bol_nil _).1 g) (by simp)
    conv => cbv
    refine RetF.mk [.p (.str fun _ => E), .p (.bool false)] [(0, .fix 0 o)] 1 (Re.at [(0, 0)] []) rfl ⟨.no E hno (by rw [hE]; decide), rfl, rfl⟩
  have g : ¬ sz = ⟨#[]⟩ := g
  have hop : 1 ≤ op ∧ op ≤ 22 := by
    refine Classical.byContradiction fun h => g ?_
    rw [hsz, signL, if_neg h]; rfl
  rw [signL, if_pos hop] at hsz
  have hszs : sz.size = 1 := by rw [hsz, bol_size]; rfl
  conv => cbv
  refine Br.mk (fun g2 => ?_) (fun g2 => ?_)
  · have g2 : op = 21 := g2
    have hP : WlOk X ↔ CasesOk X.cs := by unfold WlOk; rw [if_pos (by omega)]; exact ⟨fun h => h.2, fun h => ⟨by omega, h⟩⟩
    have hlo : lineOf X = signB op :: X.cs.flatMap caseL := by unfold lineOf; rw [if_pos (by omega), h1]
    conv => cbv
    refine callF_frame (writeCases_lx X.cs k L o ho h5 h6 hX.2.2.1 hX.2.2.2) [(0, 0)] rfl (by simp [hmapOk, nget, hget, renB, okB, renV, renVs, rn, okVs, okV]) rfl rfl (fun r2 h' n' hrr => ?_)
    obtain ⟨e1, e2, e3⟩ := hrr
    subst e2 e3
    cases e1 with
    | yes y hy1 hy hys =>
      conv => cbv
      refine Need.mk (by show sz.size + y.size ≤ 9223372036854775807; omega) ?_
      conv => cbv
      refine Str.mk fun y6 hy6 => ?_
      have hy6s : y6.size ≤ 33281 := by
        have : y6 = sz ++ y := hy6
        rw [this, ByteArray.size_append]; omega
      have hy6 : y6 = bytesOfL (lineOf X) := by
        have : y6 = sz ++ y := hy6
        rw [this, hsz, hy, bol_add, hlo]; rfl
      conv => cbv
      refine RetF.mk [.p (.str fun _ => y6), .p (.bool true)] [(0, .fix 0 o)] 1 (Re.at [(0, 0)] []) rfl ⟨.yes y6 (hP.2 hy1) hy6 hy6s, rfl, rfl⟩
    | no y hno hys =>
      conv => cbv
      refine Need.mk (by show sz.size + y.size ≤ 9223372036854775807; omega) ?_
      conv => cbv
      refine Str.mk fun y6 hy6 => ?_
      have hy6s : y6.size ≤ 33281 := by
        have : y6 = sz ++ y := hy6
        rw [this, ByteArray.size_append]; omega
      conv => cbv
      refine RetF.mk [.p (.str fun _ => y6), .p (.bool false)] [(0, .fix 0 o)] 1 (Re.at [(0, 0)] []) rfl ⟨.no y6 (fun h => hno (hP.1 h)) hy6s, rfl, rfl⟩
  · have g2 : ¬ op = 21 := g2
    have hP : WlOk X ↔ RegsOk (shapeV op) ⟨a, b, n⟩ := by
      unfold WlOk; rw [if_neg (by omega), h1, h2, h3, h4]; exact ⟨fun h => h.2, fun h => ⟨by omega, h⟩⟩
    have hlo : lineOf X = signB op :: fieldsL (shapeV op) ⟨a, b, n⟩ := by unfold lineOf; rw [if_neg (by omega), h1, h2, h3, h4]; rfl
    conv => cbv
    obtain ⟨y4, hy4⟩ : ∃ y4, y4 = bytesOfL (shapeV op) := ⟨_, rfl⟩
    have hcl := shape_low op
    refine read_sound tok (by kernel_rfl) [] [2] [(10, [])] [0, 1, 2, 3, 4, 5, 6, 7, 8, 9, 10, 11, 12, 13, 14, 15] (by kernel_rfl) ?_
    conv => cbv
    refine ReadF.mk (.p (.str fun _ => y4)) (fun h' n' hbR hnR => callF_read (shapeE_lx op y4 hy4) [] rfl trivial rfl rfl rfl rfl) ?_
    conv => cbv
    refine callF_frame (writeFields_lx (shapeV op) y4 a b n o ho hy4 hcl.1 (by omega) (by rw [h4]; exact hX.2.1)) [(0, 0)] rfl (by simp [hmapOk, nget, hget, renB, okB, renV, renVs, rn, okVs, okV]) rfl rfl (fun r2 h' n' hrr => ?_)
    obtain ⟨e1, e2, e3⟩ := hrr
    subst e2 e3
    cases e1 with
    | yes y hy1 hy hys =>
      conv => cbv
      refine Need.mk (by show sz.size + y.size ≤ 9223372036854775807; omega) ?_
      conv => cbv
      refine Str.mk fun y6 hy6 => ?_
      have hy6s : y6.size ≤ 33281 := by
        have : y6 = sz ++ y := hy6
        rw [this, ByteArray.size_append]; omega
      have hy6 : y6 = bytesOfL (lineOf X) := by
        have : y6 = sz ++ y := hy6
        rw [this, hsz, hy, bol_add, hlo]; rfl
      conv => cbv
      refine RetF.mk [.p (.str fun _ => y6), .p (.bool true)] [(0, .fix 0 o)] 1 (Re.at [(0, 0)] []) rfl ⟨.yes y6 (hP.2 hy1) hy6 hy6s, rfl, rfl⟩
    | no y hno hys =>
      conv => cbv
      refine Need.mk (by show sz.size + y.size ≤ 9223372036854775807; omega) ?_
      conv => cbv
      refine Str.mk fun y6 hy6 => ?_
      have hy6s : y6.size ≤ 33281 := by
        have : y6 = sz ++ y := hy6
        rw [this, ByteArray.size_append]; omega
      conv => cbv
      refine RetF.mk [.p (.str fun _ => y6), .p (.bool false)] [(0, .fix 0 o)] 1 (Re.at [(0, 0)] []) rfl ⟨.no y6 (fun h => hno (hP.1 h)) hy6s, rfl, rfl⟩
end Go.Proofs.YtfjdifeofnpcnaaDoor
/-
  The statements' help: programs held against each other.
-/
namespace Go.Proofs.YtfjdifeofnpcnaaDoor

open Go Go.LX
set_option maxRecDepth 100000
set_option linter.unusedVariables false
set_option linter.unusedSimpArgs false

set_option maxHeartbeats 4000000 in
theorem sameCase_lx (A B : List Cs) (k j : Int) (L M : List PV) (hk : k = A.length) (hj : j = B.length) (hL : L = csV A) (hM : M = csV B) (hA : A.length ≤ 3000000) : CallF (fun _ => Tryd.prog) 75 [.p (.vsl (.sym k) true L), .p (.vsl (.sym j) true M), .p (.fn 76)] [] 0 (fun r h n => (∃ b : Bool, r = .p (.bool b) ∧ (b = true ↔ A = B)) ∧ h = [] ∧ n = 0) := by
  refine callF_of_body tok Tryd.func75 (by kernel_rfl) rfl rfl rfl ?_; conv => cbv
  refine Br.mk (fun g => ?_) (fun g => ?_)
  · have g : ¬ k = j := g
    conv => cbv
    refine RetF.mk [.p (.bool false)] [] 0 (Re.at [] []) rfl ⟨⟨false, rfl, by simp only [Bool.false_eq_true, false_iff]; intro h; rw [h] at hk; omega⟩, rfl, rfl⟩
  have g : k = j := Classical.byContradiction g
  conv => cbv
  refine LoopF.mk (fun kk s => ∃ i : Int, s = ⟨.p (.vsl (.sym k) true L) :: .p (.vsl (.sym j) true M) :: .p (.fn 76) :: (undefs 4 ++ .p (.int .i64 (.sym i)) :: undefs 22), [], 0⟩ ∧ 0 ≤ i ∧ i ≤ k ∧ A.take i.toNat = B.take i.toNat ∧ kk = (k - i).toNat) k.toNat _
    (Re.at [] []) ⟨0, rfl, by omega, by omega, rfl, by omega⟩ ?_
  rintro kk s ⟨i, rfl, h0, h1, ht, hkk⟩
  conv => cbv
  refine Br.mk (fun g2 => ?_) (fun g2 => ?_)
  · have g2 : i < k := g2
    obtain ⟨x, hx⟩ : ∃ x, A[i.toNat]? = some x := ⟨_, List.getElem?_eq_getElem (by omega)⟩
    obtain ⟨y, hy⟩ : ∃ y, B[i.toNat]? = some y := ⟨_, List.getElem?_eq_getElem (by omega)⟩
    have hxg := csV_get hx
    have hyg := csV_get hy
    rw [← hL] at hxg
    rw [← hM] at hyg
    obtain ⟨xo, hxo⟩ : ∃ q, q = x.k := ⟨_, rfl⟩
    obtain ⟨xa, hxa⟩ : ∃ q, q = x.ch := ⟨_, rfl⟩
    obtain ⟨xb, hxb⟩ : ∃ q, q = x.reg := ⟨_, rfl⟩
    obtain ⟨xn, hxn⟩ : ∃ q, q = x.to := ⟨_, rfl⟩
    rw [← hxo, ← hxa, ← hxb, ← hxn] at hxg
    obtain ⟨yo, hyo⟩ : ∃ q, q = y.k := ⟨_, rfl⟩
    obtain ⟨ya, hya⟩ : ∃ q, q = y.ch := ⟨_, rfl⟩
    obtain ⟨yb, hyb⟩ : ∃ q, q = y.reg := ⟨_, rfl⟩
    obtain ⟨yn, hyn⟩ : ∃ q, q = y.to := ⟨_, rfl⟩
    rw [← hyo, ← hya, ← hyb, ← hyn] at hyg
    obtain ⟨k', rfl⟩ : ∃ k', kk = k' + 1 := ⟨kk - 1, by omega⟩
    conv => cbv
    refine draw_sound tok (by kernel_rfl) rfl (by kernel_rfl) ?_
    conv => cbv
    refine Need.mk ⟨by show (0 : Int) ≤ i; omega, by show i < k; omega⟩ ?_
    conv => cbv
    refine Sum.mk fun w hw => ?_
    have hw : w = i * 4 := hw
    conv => cbv
    refine Cell.at w (i.toNat * 4) hxg.1 (by simp [I.val]) (by omega) ?_
    conv => cbv
    refine Cell.at (w + 1) (i.toNat * 4 + 1) hxg.2.1 (by simp [I.val]) (by omega) ?_
    conv => cbv
    refine Cell.at (w + 2) (i.toNat * 4 + 2) hxg.2.2.1 (by simp [I.val]) (by omega) ?_
    conv => cbv
    refine Cell.at (w + 3) (i.toNat * 4 + 3) hxg.2.2.2 (by simp [I.val]) (by omega) ?_
    conv => cbv
    refine Need.mk ⟨by show (0 : Int) ≤ i; omega, by show i < j; omega⟩ ?_
    conv => cbv
    refine Sum.mk fun w2 hw2 => ?_
    have hw2 : w2 = i * 4 := hw2
    conv => cbv
    refine Cell.at w2 (i.toNat * 4) hyg.1 (by simp [I.val]) (by omega) ?_
    conv => cbv
    refine Cell.at (w2 + 1) (i.toNat * 4 + 1) hyg.2.1 (by simp [I.val]) (by omega) ?_
    conv => cbv
    refine Cell.at (w2 + 2) (i.toNat * 4 + 2) hyg.2.2.1 (by simp [I.val]) (by omega) ?_
    conv => cbv
    refine Cell.at (w2 + 3) (i.toNat * 4 + 3) hyg.2.2.2 (by simp [I.val]) (by omega) ?_
    conv => cbv
    refine callF_frame (eqCase_lx xo xa xb xn yo ya yb yn) [] rfl trivial rfl rfl (fun r2 h' n' hrr => ?_)
    obtain ⟨⟨q, d1, hq⟩, d2, d3⟩ := hrr
    subst d1 d2 d3
    cases q with
    | true =>
      have exy : x = y := by have := hq.1 rfl; cases x; cases y; simp_all
      conv => cbv
      refine Fit.mk (by show (-9223372036854775808 : Int) ≤ i + 1; omega) (by show i + 1 ≤ 9223372036854775807; omega) fun i2 hi2 => ?_
      have hi2 : i2 = i + 1 := hi2
      conv => cbv
      refine Again.mk k' _ (Nat.lt_succ_self _) (Re.at [] []) ⟨i2, rfl, by omega, by omega, ?_, by omega⟩
      rw [show i2.toNat = i.toNat + 1 by omega, List.take_add_one, List.take_add_one, ht, hx, hy, exy]
    | false =>
      have hne : ¬ A = B := fun h => by
        rw [h, hy] at hx; cases hx
        exact absurd (hq.2 ⟨by rw [hxo, hyo], by rw [hxa, hya], by rw [hxb, hyb], by rw [hxn, hyn]⟩) (by simp)
      conv => cbv
      refine RetF.mk [.p (.bool false)] [] 0 (Re.at [] []) rfl ⟨⟨false, rfl, by simp only [Bool.false_eq_true, false_iff]; exact hne⟩, rfl, rfl⟩
  · have g2 : ¬ i < k := g2
    have e : A = B := by
      rw [List.take_of_length_le (by omega), List.take_of_length_le (by omega)] at ht; exact ht
    conv => cbv
    refine RetF.mk [.p (.bool true)] [] 0 (Re.at [] []) rfl ⟨⟨true, rfl, by simp [e]⟩, rfl, rfl⟩
theorem plainCase_lx (A B : List Cs) (k j : Int) (L M : List PV) (hk : k = A.length) (hj : j = B.length) (hL : L = csV A) (hM : M = csV B) (hA : A.length ≤ 3000000) : CallF (fun _ => Tryd.prog) 56 [.p (.vsl (.sym k) true L), .p (.vsl (.sym j) true M)] [] 0 (fun r h n => (∃ b : Bool, r = .p (.bool b) ∧ (b = true ↔ A = B)) ∧ h = [] ∧ n = 0) := by
  refine callF_of_body tok Tryd.func56 (by kernel_rfl) rfl rfl rfl ?_; conv => cbv
  refine callF_frame (sameCase_lx A B k j L M hk hj hL hM hA) [] rfl trivial rfl rfl (fun r2 h' n' hrr => ?_)
  obtain ⟨⟨q, d1, hq⟩, d2, d3⟩ := hrr
  subst d1 d2 d3
  conv => cbv
  refine RetF.mk [.p (.bool q)] [] 0 (Re.at [] []) rfl ⟨⟨q, rfl, hq⟩, rfl, rfl⟩
set_option maxHeartbeats 2000000 in
theorem eqInstr_lx (X Y : Is) (op a b n k op2 a2 b2 n2 k2 : Int) (L L2 : List PV) (h1 : op = X.op) (h2 : a = X.a) (h3 : b = X.b) (h4 : n = X.n) (h5 : k = X.cs.length) (h6 : L = csV X.cs) (g1 : op2 = Y.op) (g2 : a2 = Y.a) (g3 : b2 = Y.b) (g4 : n2 = Y.n) (g5 : k2 = Y.cs.length) (g6 : L2 = csV Y.cs) (hlen : X.cs.length ≤ 3000000) :
    CallF (fun _ => Tryd.prog) 34 [.agg [.p (.int .i64 (.sym op)), .p (.int .i64 (.sym a)), .p (.int .i64 (.sym b)), .p (.int .i64 (.sym n)), .p (.vsl (.sym k) true L)], .agg [.p (.int .i64 (.sym op2)), .p (.int .i64 (.sym a2)), .p (.int .i64 (.sym b2)), .p (.int .i64 (.sym n2)), .p (.vsl (.sym k2) true L2)]] [] 0 (fun r h n => (∃ q : Bool, r = .p (.bool q) ∧ (q = true ↔ X = Y)) ∧ h = [] ∧ n = 0) := by
  have hext : X = Y ↔ op = op2 ∧ a = a2 ∧ b = b2 ∧ n = n2 ∧ X.cs = Y.cs := by
    rw [h1, h2, h3, h4, g1, g2, g3, g4]
    constructor
    · rintro rfl; simp
    · intro h; cases X; cases Y; simp_all
  refine callF_of_body tok Tryd.func34 (by kernel_rfl) rfl rfl rfl ?_; conv => cbv
  refine Br.mk (fun e1 => ?_) (fun e1 => ?_)
  case refine_2 =>
    have e1 : ¬ op = op2 := e1
    conv => cbv
    refine RetF.mk [.p (.bool false)] [] 0 (Re.at [] []) rfl ⟨⟨false, rfl, by simp only [Bool.false_eq_true, false_iff]; intro h; exact e1 (hext.1 h).1⟩, rfl, rfl⟩
  have e1 : op = op2 := e1
  conv => cbv
  refine Br.mk (fun e2 => ?_) (fun e2 => ?_)
  case refine_2 =>
    have e2 : ¬ a = a2 := e2
    conv => cbv
    refine RetF.mk [.p (.bool false)] [] 0 (Re.at [] []) rfl ⟨⟨false, rfl, by simp only [Bool.false_eq_true, false_iff]; intro h; exact e2 (hext.1 h).2.1⟩, rfl, rfl⟩
  have e2 : a = a2 := e2
  conv => cbv
  refine Br.mk (fun e3 => ?_) (fun e3 => ?_)
  case refine_2 =>
    have e3 : ¬ b = b2 := e3
    conv => cbv
    refine RetF.mk [.p (.bool false)] [] 0 (Re.at [] []) rfl ⟨⟨false, rfl, by simp only [Bool.false_eq_true, false_iff]; intro h; exact e3 (hext.1 h).2.2.1⟩, rfl, rfl⟩
  have e3 : b = b2 := e3
  conv => cbv
  refine Br.mk (fun e4 => ?_) (fun e4 => ?_)
  case refine_2 =>
    have e4 : ¬ n = n2 := e4
    conv => cbv
    refine RetF.mk [.p (.bool false)] [] 0 (Re.at [] []) rfl ⟨⟨false, rfl, by simp only [Bool.false_eq_true, false_iff]; intro h; exact e4 (hext.1 h).2.2.2.1⟩, rfl, rfl⟩
  have e4 : n = n2 := e4
  conv => cbv
  refine callF_frame (plainCase_lx X.cs Y.cs k k2 L L2 h5 g5 h6 g6 hlen) [] rfl trivial rfl rfl (fun r2 h' n' hrr => ?_)
  obtain ⟨⟨q, d1, hq⟩, d2, d3⟩ := hrr
  subst d1 d2 d3
  conv => cbv
  refine RetF.mk [.p (.bool q)] [] 0 (Re.at [] []) rfl ⟨⟨q, rfl, by rw [hq, hext]; simp [e1, e2, e3, e4]⟩, rfl, rfl⟩
set_option maxHeartbeats 4000000 in
theorem sameInstrs_lx (A B : List Is) (k j : Int) (L M : List PV) (hk : k = A.length) (hj : j = B.length) (hL : L = isV A) (hM : M = isV B) (hA : A.length ≤ 3000000) (hAc : ∀ x ∈ A, x.cs.length ≤ 3000000) : CallF (fun _ => Tryd.prog) 33 [.p (.vsl (.sym k) true L), .p (.vsl (.sym j) true M), .p (.fn 34)] [] 0 (fun r h n => (∃ b : Bool, r = .p (.bool b) ∧ (b = true ↔ A = B)) ∧ h = [] ∧ n = 0) := by
  refine callF_of_body tok Tryd.func33 (by kernel_rfl) rfl rfl rfl ?_; conv => cbv
  refine Br.mk (fun g => ?_) (fun g => ?_)
  · have g : ¬ k = j := g
    conv => cbv
    refine RetF.mk [.p (.bool false)] [] 0 (Re.at [] []) rfl ⟨⟨false, rfl, by simp only [Bool.false_eq_true, false_iff]; intro h; rw [h] at hk; omega⟩, rfl, rfl⟩
  have g : k = j := Classical.byContradiction g
  conv => cbv
  refine LoopF.mk (fun kk s => ∃ i : Int, s = ⟨.p (.vsl (.sym k) true L) :: .p (.vsl (.sym j) true M) :: .p (.fn 34) :: (undefs 4 ++ .p (.int .i64 (.sym i)) :: undefs 22), [], 0⟩ ∧ 0 ≤ i ∧ i ≤ k ∧ A.take i.toNat = B.take i.toNat ∧ kk = (k - i).toNat) k.toNat _
    (Re.at [] []) ⟨0, rfl, by omega, by omega, rfl, by omega⟩ ?_
  rintro kk s ⟨i, rfl, h0, h1, ht, hkk⟩
  conv => cbv
  refine Br.mk (fun g2 => ?_) (fun g2 => ?_)
  · have g2 : i < k := g2
    obtain ⟨x, hx⟩ : ∃ x, A[i.toNat]? = some x := ⟨_, List.getElem?_eq_getElem (by omega)⟩
    obtain ⟨y, hy⟩ : ∃ y, B[i.toNat]? = some y := ⟨_, List.getElem?_eq_getElem (by omega)⟩
    have hxg := isV_get hx
    have hyg := isV_get hy
    rw [← hL] at hxg
    rw [← hM] at hyg
    obtain ⟨xo, hxo⟩ : ∃ q, q = x.op := ⟨_, rfl⟩
    obtain ⟨xa, hxa⟩ : ∃ q, q = x.a := ⟨_, rfl⟩
    obtain ⟨xb, hxb⟩ : ∃ q, q = x.b := ⟨_, rfl⟩
    obtain ⟨xn, hxn⟩ : ∃ q, q = x.n := ⟨_, rfl⟩
    obtain ⟨xk, hxk⟩ : ∃ q, q = ((x.cs.length : Nat) : Int) := ⟨_, rfl⟩
    obtain ⟨xl, hxl⟩ : ∃ q, q = csV x.cs := ⟨_, rfl⟩
    rw [← hxo, ← hxa, ← hxb, ← hxn, ← hxk, ← hxl] at hxg
    obtain ⟨yo, hyo⟩ : ∃ q, q = y.op := ⟨_, rfl⟩
    obtain ⟨ya, hya⟩ : ∃ q, q = y.a := ⟨_, rfl⟩
    obtain ⟨yb, hyb⟩ : ∃ q, q = y.b := ⟨_, rfl⟩
    obtain ⟨yn, hyn⟩ : ∃ q, q = y.n := ⟨_, rfl⟩
    obtain ⟨yk, hyk⟩ : ∃ q, q = ((y.cs.length : Nat) : Int) := ⟨_, rfl⟩
    obtain ⟨yl, hyl⟩ : ∃ q, q = csV y.cs := ⟨_, rfl⟩
    rw [← hyo, ← hya, ← hyb, ← hyn, ← hyk, ← hyl] at hyg
    obtain ⟨k', rfl⟩ : ∃ k', kk = k' + 1 := ⟨kk - 1, by omega⟩
    conv => cbv
    refine draw_sound tok (by kernel_rfl) rfl (by kernel_rfl) ?_
    conv => cbv
    refine Need.mk ⟨by show (0 : Int) ≤ i; omega, by show i < k; omega⟩ ?_
    conv => cbv
    refine Sum.mk fun w hw => ?_
    have hw : w = i * 5 := hw
    conv => cbv
    refine Cell.at w (i.toNat * 5) hxg.1 (by simp [I.val]) (by omega) ?_
    conv => cbv
    refine Cell.at (w + 1) (i.toNat * 5 + 1) hxg.2.1 (by simp [I.val]) (by omega) ?_
    conv => cbv
    refine Cell.at (w + 2) (i.toNat * 5 + 2) hxg.2.2.1 (by simp [I.val]) (by omega) ?_
    conv => cbv
    refine Cell.at (w + 3) (i.toNat * 5 + 3) hxg.2.2.2.1 (by simp [I.val]) (by omega) ?_
    conv => cbv
    refine Cell.at (w + 4) (i.toNat * 5 + 4) hxg.2.2.2.2 (by simp [I.val]) (by omega) ?_
    conv => cbv
    refine Need.mk ⟨by show (0 : Int) ≤ i; omega, by show i < j; omega⟩ ?_
    conv => cbv
    refine Sum.mk fun w2 hw2 => ?_
    have hw2 : w2 = i * 5 := hw2
    conv => cbv
    refine Cell.at w2 (i.toNat * 5) hyg.1 (by simp [I.val]) (by omega) ?_
    conv => cbv
    refine Cell.at (w2 + 1) (i.toNat * 5 + 1) hyg.2.1 (by simp [I.val]) (by omega) ?_
    conv => cbv
    refine Cell.at (w2 + 2) (i.toNat * 5 + 2) hyg.2.2.1 (by simp [I.val]) (by omega) ?_
    conv => cbv
    refine Cell.at (w2 + 3) (i.toNat * 5 + 3) hyg.2.2.2.1 (by simp [I.val]) (by omega) ?_
    conv => cbv
    refine Cell.at (w2 + 4) (i.toNat * 5 + 4) hyg.2.2.2.2 (by simp [I.val]) (by omega) ?_
    conv => cbv
    refine callF_frame (eqInstr_lx x y xo xa xb xn xk yo ya yb yn yk xl yl hxo hxa hxb hxn hxk hxl hyo hya hyb hyn hyk hyl (hAc x (List.mem_of_getElem? hx))) [] rfl trivial rfl rfl (fun r2 h' n' hrr => ?_)
    obtain ⟨⟨q, d1, hq⟩, d2, d3⟩ := hrr
    subst d1 d2 d3
    cases q with
    | true =>
      have exy : x = y := hq.1 rfl
      conv => cbv
      refine Fit.mk (by show (-9223372036854775808 : Int) ≤ i + 1; omega) (by show i + 1 ≤ 9223372036854775807; omega) fun i2 hi2 => ?_
      have hi2 : i2 = i + 1 := hi2
      conv => cbv
      refine Again.mk k' _ (Nat.lt_succ_self _) (Re.at [] []) ⟨i2, rfl, by omega, by omega, ?_, by omega⟩
      rw [show i2.toNat = i.toNat + 1 by omega, List.take_add_one, List.take_add_one, ht, hx, hy, exy]
    | false =>
      have hne : ¬ A = B := fun h => by
        rw [h, hy] at hx; cases hx
        exact absurd (hq.2 rfl) (by simp)
      conv => cbv
      refine RetF.mk [.p (.bool false)] [] 0 (Re.at [] []) rfl ⟨⟨false, rfl, by simp only [Bool.false_eq_true, false_iff]; exact hne⟩, rfl, rfl⟩
  · have g2 : ¬ i < k := g2
    have e : A = B := by
      rw [List.take_of_length_le (by omega), List.take_of_length_le (by omega)] at ht; exact ht
    conv => cbv
    refine RetF.mk [.p (.bool true)] [] 0 (Re.at [] []) rfl ⟨⟨true, rfl, by simp [e]⟩, rfl, rfl⟩
theorem instrs_lx (A B : List Is) (k j : Int) (L M : List PV) (hk : k = A.length) (hj : j = B.length) (hL : L = isV A) (hM : M = isV B) (hA : A.length ≤ 3000000) (hAc : ∀ x ∈ A, x.cs.length ≤ 3000000) : CallF (fun _ => Tryd.prog) 13 [.p (.vsl (.sym k) true L), .p (.vsl (.sym j) true M)] [] 0 (fun r h n => (∃ b : Bool, r = .p (.bool b) ∧ (b = true ↔ A = B)) ∧ h = [] ∧ n = 0) := by
  refine callF_of_body tok Tryd.func13 (by kernel_rfl) rfl rfl rfl ?_; conv => cbv
  refine callF_frame (sameInstrs_lx A B k j L M hk hj hL hM hA hAc) [] rfl trivial rfl rfl (fun r2 h' n' hrr => ?_)
  obtain ⟨⟨q, d1, hq⟩, d2, d3⟩ := hrr
  subst d1 d2 d3
  conv => cbv
  refine RetF.mk [.p (.bool q)] [] 0 (Re.at [] []) rfl ⟨⟨q, rfl, hq⟩, rfl, rfl⟩
end Go.Proofs.YtfjdifeofnpcnaaDoor
/-
  Layer 2: Write.
-/
namespace Go.Proofs.YtfjdifeofnpcnaaDoor

open Go Go.LX
set_option maxRecDepth 100000
set_option linter.unusedVariables false
set_option linter.unusedSimpArgs false

theorem writeNl_lx (j : Int) (L : List PV) (z : ByteArray) (hL : L = bytesPV z) (hj : j = z.size) (hm : z.size + 1 ≤ 140737488355328) :
    CallF (fun _ => Tryd.prog) 27 [.ptr 0 (.lit 0), .p (.int .u8 (.lit 10))] [(0, .bld 51 [.sl 1 5 1 (.lit 0) (.sym j)]), (1, .pure true L)] 2
      (fun r h n => ∃ (k : Int) (L' : List PV), r = .p .nilif ∧ h = [(2, .pure true L'), (0, .bld 51 [.sl 2 5 1 (.lit 0) (.sym k)])] ∧ n = 3 ∧ L' = bytesPV (z ++ bytesOfL [10]) ∧ k = (z ++ bytesOfL [10]).size) := by
  refine callF_of_body tok Tryd.func27 (by kernel_rfl) rfl rfl rfl ?_; conv => cbv
  refine callF_frame (copyCheck_lx (.sl 1 5 1 (.lit 0) (.sym j)) (.pure true L)) [(0, 0), (1, 1)] rfl (by simp [hmapOk, nget, hget, renB, okB, renV, renVs, rn, okVs, okV]) rfl rfl (fun r h' n' ⟨e1, e2, e3⟩ => ?_)
  subst e1 e2 e3
  conv => cbv
  refine Room.new rfl ?_
  conv => cbv
  refine Room.new ⟨by rw [hL, bytesPV_length]; show ((z.size : Nat) : Int) = j * 1; omega, by show (j + 1) * 1 ≤ 140737488355328; omega, by show j + 1 ≤ 9223372036854775807; omega⟩ ?_
  conv => cbv
  refine Upd.mk fun L2 hL2 => ?_
  obtain ⟨L3, hL3⟩ : ∃ L3, L3 = bytesPV (z ++ bytesOfL [10]) := ⟨_, rfl⟩
  have hle : pvles L2 L3 := by
    have h1 : L2 = L ++ [.int .u8 (.lit 10)] := hL2
    rw [h1, hL3, bytesPV_append, hL]
    exact pvles_app (pvles_refl _) (by show pvles [_] [_]; simp [pvles, pvle, I.val])
  unfold pvles at hle
  conv => cbv
  refine Sum.mk fun k hk => ?_
  have hk : k = j + 1 := hk
  have hk2 : k = (z ++ bytesOfL [10]).size := by rw [ByteArray.size_append, bol_size]; simp; omega
  conv => cbv
  refine RetF.mk [.p .nilif] [(2, .pure true L3), (0, .bld 51 [.sl 2 5 1 (.lit 0) (.sym k)])] 3 (Re.at [(0, 0), (3, 2)] []) rfl ⟨k, L3, rfl, rfl, rfl, hL3, hk2⟩
theorem fields_len (ks : List UInt8) (f : F3) (hn : I64 f.n) : (fieldsL ks f).length ≤ ks.length * 21 := by
  induction ks with
  | nil => simp [fieldsL]
  | cons k ks ih =>
    have h1 : (partL k (f.get k)).length ≤ 21 := by
      unfold partL
      split
      · simp
      · rename_i g
        have hg : f.get k = f.n := by unfold F3.get; rw [if_neg (fun h => g (.inl h)), if_neg (fun h => g (.inr h))]
        rw [hg]; exact Lib.itoa_length_le _ hn.1 hn.2
    show (partL k _ ++ fieldsL ks _).length ≤ _
    rw [List.length_append, List.length_cons]; omega
theorem line_len (x : Is) (hX : XI64 x) : (lineOf x).length ≤ 64 * x.cs.length + 64 := by
  unfold lineOf
  rw [List.length_cons]
  split
  · have key : ∀ l : List Cs, (∀ c ∈ l, I64 c.to) → (l.flatMap caseL).length ≤ l.length * 64 := by
      intro l
      induction l with
      | nil => simp
      | cons c l ih =>
        intro h
        have h1 : (caseL c).length ≤ 64 := by
          show (_ :: fieldsL _ _).length ≤ _
          rw [List.length_cons]
          have := fields_len (cshape c.k) c.f (h c (by simp))
          have := (cshape_low c.k).2.2
          omega
        have h2 := ih (fun d hd => h d (by simp [hd]))
        rw [List.flatMap_cons, List.length_append, List.length_cons]; omega
    have := key x.cs hX.2.2.2
    omega
  · have h1 := fields_len (shapeV x.op) x.f hX.2.1
    have h2 := (shape_low x.op).2
    omega
theorem join_len (l : List Is) (m : Nat) (h : ∀ x ∈ l, XI64 x ∧ x.cs.length ≤ m) : (joinL (l.map lineOf)).length ≤ l.length * (64 * m + 65) := by
  induction l with
  | nil => simp [joinL]
  | cons x l ih =>
    have h1 := line_len x (h x (by simp)).1
    have h2 := (h x (by simp)).2
    have h3 := ih (fun y hy => h y (by simp [hy]))
    show ((lineOf x ++ [10]) ++ joinL (l.map lineOf)).length ≤ _
    simp only [List.length_append, List.length_cons, List.length_nil, Nat.add_mul]
    omega
/-- What Write tells. -/
def WroteP (l : List Is) (y : ByteArray) (e : Int) : Prop := (Okay l ∧ y = bytesOfL (joinL (l.map lineOf)) ∧ e = 0) ∨ (l = [] ∧ y = bytesOfL [] ∧ e = 7) ∨ (l ≠ [] ∧ ¬ Okay l ∧ y = bytesOfL [] ∧ e = 5)
theorem WroteP.det {l : List Is} {y y2 : ByteArray} {e e2 : Int} (h : WroteP l y e) (h2 : WroteP l y2 e2) : y = y2 ∧ e = e2 := by
  rcases h with ⟨a, b, c⟩ | ⟨a, b, c⟩ | ⟨a, a2, b, c⟩ <;> rcases h2 with ⟨d, f, g⟩ | ⟨d, f, g⟩ | ⟨d, d2, f, g⟩
  · exact ⟨by rw [b, f], by rw [c, g]⟩
  · exact absurd d a.1
  · exact absurd a d2
  · exact absurd a d.1
  · exact ⟨by rw [b, f], by rw [c, g]⟩
  · exact absurd a d
  · exact absurd d a2
  · exact absurd d a
  · exact ⟨by rw [b, f], by rw [c, g]⟩
set_option maxHeartbeats 4000000 in
theorem write_lx (l : List Is) (m : Nat) (k : Int) (L : List PV) (o : Unit → Obj) (ho : IsPow o) (hk : k = l.length) (hL : L = isV l) (hlen : l.length * (64 * m + 65) ≤ 3000000) (hX : ∀ x ∈ l, XI64 x ∧ x.cs.length ≤ m) : CallF (fun _ => Tryd.prog) 11 [.p (.vsl (.sym k) true L)] [(0, .fix 0 o)] 1
    (fun r h n => (∃ y e, r = .tup [.p (.str fun _ => y), .p (.int .i64 (.sym e))] ∧ WroteP l y e) ∧ h = [(0, .fix 0 o)] ∧ n = 1) := by
  obtain ⟨E, hE⟩ : ∃ E : ByteArray, E = ⟨⟨[]⟩⟩ := ⟨_, rfl⟩
  have hE2 : E = bytesOfL [] := hE
  have hl1 : l.length ≤ 3000000 := Nat.le_trans (Nat.le_mul_of_pos_right _ (by omega)) hlen
  refine callF_of_body tok Tryd.func11 (by kernel_rfl) rfl rfl rfl ?_; conv => cbv
  refine Br.mk (fun g => ?_) (fun g => ?_)
  · have g : k = 0 := g
    have hl0 : l = [] := List.length_eq_zero_iff.1 (by omega)
    conv => cbv
    refine RetF.mk [.p (.str fun _ => E), .p (.int .i64 (.sym 7))] [(0, .fix 0 o)] 1 (Re.at [(0, 0)] []) rfl ⟨⟨E, 7, rfl, .inr (.inl ⟨hl0, hE2, rfl⟩)⟩, rfl, rfl⟩
  have g : ¬ k = 0 := g
  have hl0 : l ≠ [] := by intro h; rw [h] at hk; exact g hk
  have hbad : ¬ Okay l → WroteP l E 5 := fun h => .inr (.inr ⟨hl0, h, hE2, rfl⟩)
  have s0 : (⟨⟨[]⟩⟩ : ByteArray) = bytesOfL (joinL ((l.take (0 : Int).toNat).map lineOf)) := rfl
  have hpre : ∀ i : Nat, (joinL ((l.take i).map lineOf)).length ≤ 3000000 := by
    intro i
    have h1 := join_len (l.take i) m (fun x hx => hX x (List.mem_of_mem_take hx))
    have h2 : (l.take i).length * (64 * m + 65) ≤ l.length * (64 * m + 65) := Nat.mul_le_mul_right _ (by rw [List.length_take]; omega)
    omega
  conv => cbv
  refine LoopF.mk (fun kk s => ∃ (i q : Int) (M : List PV) (y : ByteArray), s = ⟨.p (.vsl (.sym k) true L) :: (undefs 3 ++ .ptr 1 (.lit 0) :: (undefs 10 ++ .p (.vsl (.sym k) true L) :: .p (.int .i64 (.sym k)) :: .p (.int .i64 (.sym i)) :: undefs 29)), [(1, .bld 51 [.sl 2 5 1 (.lit 0) (.sym q)]), (2, .pure true M), (0, .fix 0 o)], 3⟩ ∧ M = bytesPV y ∧ q = y.size ∧ y = bytesOfL (joinL ((l.take i.toNat).map lineOf)) ∧ (∀ x ∈ l.take i.toNat, WlOk x) ∧ 0 ≤ i ∧ i ≤ k ∧ kk = (k - i).toNat) k.toNat _
    (Re.at [(0, 0), (1, 1)] [2]) ⟨0, 0, [], ⟨⟨[]⟩⟩, rfl, rfl, rfl, s0, fun c hc => by simp at hc, by omega, by omega, by omega⟩ ?_
  clear s0
  rintro kk s ⟨i, q, M, y, rfl, hM, hq, hy, hco, h0, h1, hkk⟩
  have hys : y.size ≤ 3000000 := by rw [hy, bol_size]; exact hpre _
  conv => cbv
  refine Br.mk (fun g2 => ?_) (fun g2 => ?_)
  case refine_2 =>
    have g2 : ¬ i < k := g2
    have hfull : l.take i.toNat = l := List.take_of_length_le (by omega)
    rw [hfull] at hy hco
    have hy0 : y.size ≠ 0 := by
      rw [hy, bol_size]
      cases l with
      | nil => exact absurd rfl hl0
      | cons x l => show ((lineOf x ++ [10]) ++ joinL (l.map lineOf)).length ≠ 0; simp
    conv => cbv
    refine callF_frame (stringK_lx (.pure true M) q M y (.inl rfl) hM hq hy0) [(0, 1), (1, 2)] rfl (by simp [hmapOk, nget, hget, renB, okB, renV, renVs, rn, okVs, okV]) rfl rfl (fun r2 h' n' ⟨e1, e2, e3⟩ => ?_)
    subst e1 e2 e3
    conv => cbv
    refine callF_frame (decode_lx y hys) [] rfl trivial rfl rfl (fun r2 h' n' hrr => ?_)
    obtain ⟨e1, e2, e3⟩ := hrr
    subst e2 e3
    cases e1 with
    | mk kd a e Ld xs hD hkd hLd =>
      rw [hy] at hD
      conv => cbv
      refine Br.mk (fun g3 => ?_) (fun g3 => ?_)
      · have g3 : ¬ e = 0 := g3
        have hno : ¬ Okay l := fun h => by rw [okay_dec h] at hD; cases hD; exact g3 rfl
        conv => cbv
        refine RetF.mk [.p (.str fun _ => E), .p (.int .i64 (.sym 5))] [(0, .fix 0 o)] 1 (Re.at [(0, 0)] []) rfl ⟨⟨E, 5, rfl, hbad hno⟩, rfl, rfl⟩
      have g3 : e = 0 := Classical.byContradiction g3
      subst g3
      conv => cbv
      refine callF_frame (equalFunc_lx l xs k kd L Ld hk hkd hL hLd hl1 (fun x hx => by have := (hX x hx).1.2.2.1; omega)) [] rfl trivial rfl rfl (fun r2 h' n' hrr => ?_)
      obtain ⟨⟨b, d1, hb⟩, d2, d3⟩ := hrr
      subst d1 d2 d3
      cases b with
      | false =>
        have hno : ¬ Okay l := fun h => by
          rw [okay_dec h] at hD; cases hD
          exact absurd (hb.2 rfl) (by simp)
        conv => cbv
        refine RetF.mk [.p (.str fun _ => E), .p (.int .i64 (.sym 5))] [(0, .fix 0 o)] 1 (Re.at [(0, 0)] []) rfl ⟨⟨E, 5, rfl, hbad hno⟩, rfl, rfl⟩
      | true =>
        have hxs : l = xs := hb.1 rfl
        rw [← hxs] at hD
        have hdo := dec_okay hl0 (fun x hx => by
          obtain ⟨z, hz, rfl⟩ := List.mem_map.1 hx
          exact ⟨line_clean2 (hco z hz), lineOf_ne z⟩) hD
        have hok : Okay l := ⟨hl0, hdo.1, hdo.2.2.1, hdo.2.2.2⟩
        conv => cbv
        refine callF_frame (stringK_lx (.frz M) q M y (.inr rfl) hM hq hy0) [(0, 1), (1, 2)] rfl (by simp [hmapOk, nget, hget, renB, okB, renV, renVs, rn, okVs, okV]) rfl rfl (fun r2 h' n' ⟨e1, e2, e3⟩ => ?_)
        subst e1 e2 e3
        conv => cbv
        refine RetF.mk [.p (.str fun _ => y), .p (.int .i64 (.sym 0))] [(0, .fix 0 o)] 1 (Re.at [(0, 0)] []) rfl ⟨⟨y, 0, rfl, .inl ⟨hok, hy, rfl⟩⟩, rfl, rfl⟩
  have g2 : i < k := g2
  obtain ⟨x, hx⟩ : ∃ x, l[i.toNat]? = some x := ⟨_, List.getElem?_eq_getElem (by omega)⟩
  have hxm := List.mem_of_getElem? hx
  have hxg := isV_get hx
  rw [← hL] at hxg
  obtain ⟨xo, hxo⟩ : ∃ q, q = x.op := ⟨_, rfl⟩
  obtain ⟨xa, hxa⟩ : ∃ q, q = x.a := ⟨_, rfl⟩
  obtain ⟨xb, hxb⟩ : ∃ q, q = x.b := ⟨_, rfl⟩
  obtain ⟨xn, hxn⟩ : ∃ q, q = x.n := ⟨_, rfl⟩
  obtain ⟨xk, hxk⟩ : ∃ q, q = ((x.cs.length : Nat) : Int) := ⟨_, rfl⟩
  obtain ⟨xl, hxl⟩ : ∃ q, q = csV x.cs := ⟨_, rfl⟩
  rw [← hxo, ← hxa, ← hxb, ← hxn, ← hxk, ← hxl] at hxg
  have htk : l.take (i + 1).toNat = l.take i.toNat ++ [x] := by rw [show (i + 1).toNat = i.toNat + 1 by omega, List.take_add_one, hx]; rfl
  obtain ⟨k', rfl⟩ : ∃ k', kk = k' + 1 := ⟨kk - 1, by omega⟩
  conv => cbv
  refine Need.mk ⟨by show (0 : Int) ≤ i; omega, by show i < k; omega⟩ ?_
  conv => cbv
  refine Sum.mk fun w hw => ?_
  have hw : w = i * 5 := hw
  conv => cbv
  refine Cell.at w (i.toNat * 5) hxg.1 (by simp [I.val]) (by omega) ?_
  conv => cbv
  refine Cell.at (w + 1) (i.toNat * 5 + 1) hxg.2.1 (by simp [I.val]) (by omega) ?_
  conv => cbv
  refine Cell.at (w + 2) (i.toNat * 5 + 2) hxg.2.2.1 (by simp [I.val]) (by omega) ?_
  conv => cbv
  refine Cell.at (w + 3) (i.toNat * 5 + 3) hxg.2.2.2.1 (by simp [I.val]) (by omega) ?_
  conv => cbv
  refine Cell.at (w + 4) (i.toNat * 5 + 4) hxg.2.2.2.2 (by simp [I.val]) (by omega) ?_
  conv => cbv
  refine callF_frame (writeLine_lx x xo xa xb xn xk xl o ho hxo hxa hxb hxn hxk hxl (hX x hxm).1) [(0, 0)] rfl (by simp [hmapOk, nget, hget, renB, okB, renV, renVs, rn, okVs, okV]) rfl rfl (fun r2 h' n' hrr => ?_)
  obtain ⟨e1, e2, e3⟩ := hrr
  subst e2 e3
  cases e1 with
  | no y5 hno hy5s =>
    have hno2 : ¬ Okay l := fun h => hno (shp_wl (h.2.1 x hxm))
    conv => cbv
    refine RetF.mk [.p (.str fun _ => E), .p (.int .i64 (.sym 5))] [(0, .fix 0 o)] 1 (Re.at [(0, 0)] []) rfl ⟨⟨E, 5, rfl, hbad hno2⟩, rfl, rfl⟩
  | yes y5 hyes hy5 hy5s =>
    conv => cbv
    refine callF_frame (writeString_lx q M y y5 hM hq (by omega)) [(0, 1), (1, 2)] rfl (by simp [hmapOk, nget, hget, renB, okB, renV, renVs, rn, okVs, okV]) rfl rfl (fun r2 h' n' ⟨m2, k2, L2, e1, e2, e3, hL2, hk2⟩ => ?_)
    subst e1 e2 e3
    have hsz2 : (y ++ y5).size ≤ 5000000 := by rw [ByteArray.size_append]; omega
    conv => cbv
    refine callF_frame (writeNl_lx k2 L2 (y ++ y5) hL2 hk2 (by omega)) [(0, 1), (1, 4)] rfl (by simp [hmapOk, nget, hget, renB, okB, renV, renVs, rn, okVs, okV]) rfl rfl (fun r2 h' n' ⟨k3, L3, e1, e2, e3, hL3, hk3⟩ => ?_)
    subst e1 e2 e3
    have hyc : y ++ y5 ++ bytesOfL [10] = bytesOfL (joinL ((l.take (i + 1).toNat).map lineOf)) := by
      rw [htk, List.map_append, joinL, List.flatMap_append, ← bol_add]
      show _ = bytesOfL (joinL _) ++ _
      rw [← hy, hy5, ByteArray.append_assoc, bol_add]
      simp
    have hco2 : ∀ z ∈ l.take (i + 1).toNat, WlOk z := by
      rw [htk]
      intro z hz
      rcases List.mem_append.1 hz with hz | hz
      · exact hco z hz
      · rw [List.mem_singleton] at hz; subst hz; exact hyes
    rw [hyc] at hL3 hk3
    conv => cbv
    refine Fit.mk (by show (-9223372036854775808 : Int) ≤ i + 1; omega) (by show i + 1 ≤ 9223372036854775807; omega) fun i2 hi2 => ?_
    have hi2 : i2 = i + 1 := hi2
    rw [← hi2] at hco2 hL3 hk3
    conv => cbv
    refine Again.mk k' _ (Nat.lt_succ_self _) (Re.at [(0, 0), (1, 1), (5, 2)] []) ⟨i2, k3, L3, bytesOfL (joinL ((l.take i2.toNat).map lineOf)), rfl, hL3, hk3, rfl, hco2, by omega, by omega, by omega⟩
end Go.Proofs.YtfjdifeofnpcnaaDoor
/-
  Layer 2: awake.
-/
namespace Go.Proofs.YtfjdifeofnpcnaaDoor

open Go Go.LX
set_option maxRecDepth 100000
set_option linter.unusedVariables false
set_option linter.unusedSimpArgs false

def wakeZ : ByteArray := ⟨#[61, 97, 53, 10, 120]⟩
def wakeP : List Is := [⟨1, 0, 0, 5, []⟩, ⟨22, 0, 0, 0, []⟩]
theorem wake_lines : linesV wakeZ = ([[61, 97, 53], [120]], 0) := by decide +kernel
theorem wake_d1 : decB [61, 97, 53] = some ⟨1, 0, 0, 5, []⟩ := by rfl
theorem wake_d2 : decB [120] = some ⟨22, 0, 0, 0, []⟩ := by rfl
theorem wake_dec : decodeV wakeZ = (wakeP, 0, 0) := by
  rw [decodeV, wake_lines]
  show decsV [[61, 97, 53], [120]] 0 [] = _
  rw [decsV, wake_d1]
  simp only
  rw [decsV, wake_d2]
  rfl
theorem wake_x : ∀ x ∈ wakeP, XI64 x ∧ x.cs.length ≤ 0 := by
  intro x hx
  rcases List.mem_cons.1 hx with rfl | hx
  · exact ⟨⟨by unfold I64; decide, by unfold I64; decide, by decide, by simp⟩, by decide⟩
  · rw [List.mem_singleton] at hx
    subst hx
    exact ⟨⟨by unfold I64; decide, by unfold I64; decide, by decide, by simp⟩, by decide⟩
theorem wake_okay : Okay wakeP := by
  refine ⟨by unfold wakeP; simp, fun x hx => ?_, ?_, by decide⟩
  · rcases List.mem_cons.1 hx with rfl | hx
    · exact (dec_inv wake_d1).1
    · rw [List.mem_singleton] at hx
      subst hx
      exact (dec_inv wake_d2).1
  · have := join_len wakeP 0 wake_x
    have h2 : wakeP.length = 2 := rfl
    omega
theorem wake_text : joinL (wakeP.map lineOf) = [61, 97, 53, 10, 120, 10] := by
  have h : lineOf ⟨1, 0, 0, 5, []⟩ = [61, 97, 53] := by
    show 61 :: (partL 97 0 ++ (partL 110 5 ++ [])) = _
    rw [partL, if_pos (.inl rfl), partL, if_neg (by decide), itoa_one 5 (by decide) (by decide)]
    rfl
  show (lineOf ⟨1, 0, 0, 5, []⟩ ++ [10]) ++ _ = _
  rw [h]; rfl
set_option maxHeartbeats 4000000 in
theorem awake02_lx (o : Unit → Obj) (ho : IsPow o) : CallF (fun _ => Tryd.prog) 9 [] [(0, .fix 0 o)] 1 (fun r h n => r = .p (.bool true) ∧ h = [(0, .fix 0 o)] ∧ n = 1) := by
  refine callF_of_body tok Tryd.func9 (by kernel_rfl) rfl rfl rfl ?_; conv => cbv
  refine callF_frame (decode_lx wakeZ (by decide)) [] rfl trivial rfl rfl (fun r2 h' n' hrr => ?_)
  obtain ⟨e1, e2, e3⟩ := hrr
  subst e2 e3
  cases e1 with
  | mk k a e L xs hD hk hL =>
    rw [wake_dec] at hD
    obtain ⟨rfl, hD2⟩ := Prod.mk.inj hD
    obtain ⟨rfl, rfl⟩ := Prod.mk.inj hD2
    conv => cbv
    refine callF_frame (write_lx wakeP 0 k L o ho hk hL (by decide) wake_x) [(0, 0)] rfl (by simp [hmapOk, nget, hget, renB, okB, renV, renVs, rn, okVs, okV]) rfl rfl (fun r2 h' n' hrr => ?_)
    obtain ⟨⟨y, e, e1, hw⟩, e2, e3⟩ := hrr
    subst e1 e2 e3
    obtain ⟨hy, he⟩ := hw.det (.inl ⟨wake_okay, rfl, rfl⟩)
    subst he
    rw [wake_text] at hy
    conv => cbv
    refine Br.yes rfl ?_
    conv => cbv
    refine Br.yes rfl ?_
    conv => cbv
    refine callF_go (instrs_lx wakeP wakeP k 2 L [.int .i64 (.sym 1), .int .i64 (.sym 0), .int .i64 (.sym 0), .int .i64 (.sym 5), .vsl (.sym 0) true [], .int .i64 (.sym 22), .int .i64 (.sym 0), .int .i64 (.sym 0), .int .i64 (.sym 0), .vsl (.sym 0) true []] hk rfl hL rfl (by decide) (fun x hx => Nat.le_trans (wake_x x hx).2 (by decide))) [(0, .fix 0 o)] (Re.at [(0, 0)] []) rfl rfl (fun r ⟨b, hr, _⟩ => by subst hr; rfl) (fun r hrr => ?_)
    obtain ⟨b, d1, hb⟩ := hrr
    obtain rfl : b = true := hb.2 rfl
    subst d1
    conv => cbv
    refine Br.yes rfl ?_
    conv => cbv
    refine Br.yes (by show y = ⟨#[61, 97, 53, 10, 120, 10]⟩; rw [hy]; rfl) ?_
    conv => cbv
    refine RetF.mk [.p (.bool true)] [(0, .fix 0 o)] 1 (Re.at [(0, 0)] []) rfl ⟨rfl, rfl, rfl⟩
end Go.Proofs.YtfjdifeofnpcnaaDoor
/-
  Layer 2: plain facts of texts whose last line has no end.
-/
namespace Go.Proofs.YtfjdifeofnpcnaaDoor

theorem lines_last (ls : List (List UInt8)) (l : List UInt8) (h : ∀ x ∈ ls, Clean x ∧ x ≠ []) (hl : Clean l) (h0 : l ≠ []) (h1 : (joinL ls ++ l).length ≤ 2000) (h2 : ls.length < 60) : linesV (bytesOfL (joinL ls ++ l)) = (ls ++ [l], 0) := by
  have hg : Good8 (joinL ls ++ l) := good_app (join_good h) (good_clean hl)
  have hp : partsOf (joinL ls ++ l) = (ls, l) := by
    have : partsOf (joinL ls) = (ls, []) := by simpa using parts_join ls h [] [] rfl
    rw [parts_append, this, fold_line _ _ hl]; rfl
  have hr : runesOf (bytesOfL (joinL ls ++ l)) = (joinL ls ++ l).map UInt8.toNat := runesOf_ascii _ (by intro c hc; rcases hg c hc with h | h <;> omega)
  have hw : wrongs ((joinL ls ++ l).map UInt8.toNat) = 0 := by
    rw [wrongs, List.countP_eq_zero]
    intro c hc
    obtain ⟨d, hd, rfl⟩ := List.mem_map.1 hc
    have := hg d hd
    simp only [badR, decide_eq_true_eq]
    omega
  have hd : (bytesOfL (joinL ls ++ l)).data.toList = joinL ls ++ l := by simp [bytesOfL]
  have hcl : closed (partsOf (joinL ls ++ l)) = ls ++ [l] := by rw [hp, closed, if_neg h0]
  rw [linesV, hr, hw, hd, hcl, List.length_map, if_neg (by omega), if_neg (by omega), if_neg (by simp), if_neg (by simp; omega)]
theorem decode_last (ls : List (List UInt8)) (l : List UInt8) (h : ∀ x ∈ ls, Clean x ∧ x ≠ []) (hl : Clean l) (h0 : l ≠ []) (h1 : (joinL ls ++ l).length ≤ 2000) (h2 : ls.length < 60) : decodeV (bytesOfL (joinL ls ++ l)) = decsV (ls ++ [l]) 0 [] := by
  rw [decodeV, lines_last ls l h hl h0 h1 h2, if_pos rfl]
theorem dec_line (l : List UInt8) (hl : Clean l) (h0 : l ≠ []) (h1 : l.length ≤ 2000) : decodeV (bytesOfL l) = match decB l with
    | none => ([], 1, 5)
    | some x => ([x], 0, 0) := by
  have := decode_last [] l (by simp) hl h0 (by simpa [joinL] using h1) (by decide)
  rw [show joinL [] ++ l = l from rfl] at this
  rw [this]
  show decsV [l] 0 [] = _
  rw [decsV]
  cases decB l <;> rfl
/-- The lines ahead of a number. -/
def preN (w : Nat) : List UInt8 := if w = 0 then [61, 97] else if w = 1 then [109, 97] else if w = 2 then [103] else if w = 3 then [106] else if w = 4 then [122, 97] else if w = 5 then [116, 97] else if w = 6 then [102, 97] else if w = 7 then [83, 115, 97, 98] else [83, 101]
def insN (w : Nat) (v : Int) : Is := if w = 0 then ⟨1, 0, 0, v, []⟩ else if w = 1 then ⟨4, 0, 0, v, []⟩ else if w = 2 then ⟨10, 0, 0, v, []⟩ else if w = 3 then ⟨11, 0, 0, v, []⟩ else if w = 4 then ⟨12, 0, 0, v, []⟩ else if w = 5 then ⟨14, 0, 0, v, []⟩ else if w = 6 then ⟨20, 0, 0, v, []⟩ else if w = 7 then ⟨21, 0, 0, 0, [⟨1, 0, 1, v⟩]⟩ else ⟨21, 0, 0, 0, [⟨3, 0, 0, v⟩]⟩
theorem end_map {α : Type} (o : Option α) (t : List UInt8) (g : α → F3) : endB (o.map fun v => (g v, t)) = if t = [] then o.map g else none := by
  cases o with
  | none => cases t <;> rfl
  | some v => cases t <;> rfl
theorem takeN (y : List UInt8) : takeF 110 y = (numO (lead y)).map fun v => (v, tail y) := by unfold takeF; rw [if_neg (by decide), if_neg (by decide)]
theorem rd_aN (y : List UInt8) : rdB [97, 110] (97 :: y) .zero = (numO (lead y)).map fun v => (⟨0, 0, v⟩, tail y) := by
  rw [rdB, show takeF 97 (97 :: y) = some (0, y) by rfl]
  show rdB [110] y _ = _
  rw [rdB, takeN]
  cases numO (lead y) <;> rfl
theorem rd_N (y : List UInt8) : rdB [110] y .zero = (numO (lead y)).map fun v => (⟨0, 0, v⟩, tail y) := by
  rw [rdB, takeN]
  cases numO (lead y) <;> rfl
theorem rd_abN (y : List UInt8) : rdB [97, 98, 110] (97 :: 98 :: y) .zero = (numO (lead y)).map fun v => (⟨0, 1, v⟩, tail y) := by
  rw [rdB, show takeF 97 (97 :: 98 :: y) = some (0, 98 :: y) by rfl]
  show rdB [98, 110] (98 :: y) _ = _
  rw [rdB, show takeF 98 (98 :: y) = some (1, y) by rfl]
  show rdB [110] y _ = _
  rw [rdB, takeN]
  cases numO (lead y) <;> rfl
/-- Behind such a beginning: a number, and nothing more. -/
theorem dec_pre (w : Nat) (hw : w < 9) (y : List UInt8) (hy : tail y = [] ∨ ∃ c t, tail y = c :: t ∧ caseV [c] = 0) : decB (preN w ++ y) = if tail y = [] then (numO (lead y)).map (insN w) else none := by
  have key1 : ∀ (c : UInt8) (op : Int), opV [c] = op → op ≠ 0 → op ≠ 21 → shapeV op = [97, 110] → decB (c :: 97 :: y) = if tail y = [] then (numO (lead y)).map (fun v => ⟨op, 0, 0, v, []⟩) else none := by
    intro c op h1 h2 h3 h4
    rw [decB, h1, if_neg h2, if_neg h3, h4, rd_aN, end_map]
    split
    · cases numO (lead y) <;> rfl
    · rfl
  have key2 : ∀ (c : UInt8) (op : Int), opV [c] = op → op ≠ 0 → op ≠ 21 → shapeV op = [110] → decB (c :: y) = if tail y = [] then (numO (lead y)).map (fun v => ⟨op, 0, 0, v, []⟩) else none := by
    intro c op h1 h2 h3 h4
    rw [decB, h1, if_neg h2, if_neg h3, h4, rd_N, end_map]
    split
    · cases numO (lead y) <;> rfl
    · rfl
  have key3 : ∀ (n : Nat) (k : Int) (f : Int → F3) (q : List UInt8) (c : UInt8), caseV [c] = k → k ≠ 0 → rdB (cshape k) q .zero = (numO (lead y)).map (fun v => (f v, tail y)) → choiceB (n + 2) (c :: q) [] = if tail y = [] then (numO (lead y)).map (fun v => [⟨k, (f v).a, (f v).b, (f v).n⟩]) else none := by
    intro n k f q c h1 h2 h3
    rw [choiceB, h1, if_neg h2, h3]
    cases numO (lead y) with
    | none => simp
    | some v =>
      simp only [Option.map_some]
      rcases hy with h | ⟨d, t, h, hd⟩
      · rw [h]
        rw [if_neg (by simp), if_pos rfl]
        show choiceB (n + 1) [] _ = _
        rfl
      · rw [h]
        have e9 : (if d :: t = [] then some [(⟨k, (f v).a, (f v).b, (f v).n⟩ : Cs)] else none) = none := if_neg (by simp)
        rw [e9]
        by_cases hk : k = 3 ∧ (d :: t).isEmpty = false
        · rw [if_pos hk]
        · rw [if_neg hk, choiceB, if_pos hd]
  have hc : w = 0 ∨ w = 1 ∨ w = 2 ∨ w = 3 ∨ w = 4 ∨ w = 5 ∨ w = 6 ∨ w = 7 ∨ w = 8 := by omega
  rcases hc with rfl | rfl | rfl | rfl | rfl | rfl | rfl | rfl | rfl
  · exact key1 61 1 rfl (by decide) (by decide) rfl
  · exact key1 109 4 rfl (by decide) (by decide) rfl
  · exact key2 103 10 rfl (by decide) (by decide) rfl
  · exact key2 106 11 rfl (by decide) (by decide) rfl
  · exact key1 122 12 rfl (by decide) (by decide) rfl
  · exact key1 116 14 rfl (by decide) (by decide) rfl
  · exact key1 102 20 rfl (by decide) (by decide) rfl
  · show decB (83 :: 115 :: 97 :: 98 :: y) = _
    rw [decB, if_neg (by decide), if_pos (by decide), key3 _ 1 (fun v => ⟨0, 1, v⟩) (97 :: 98 :: y) 115 rfl (by decide) (rd_abN y)]
    split
    · cases numO (lead y) <;> rfl
    · rfl
  · show decB (83 :: 101 :: y) = _
    rw [decB, if_neg (by decide), if_pos (by decide), key3 _ 3 (fun v => ⟨0, 0, v⟩) y 101 rfl (by decide) (rd_N y)]
    split
    · cases numO (lead y) <;> rfl
    · rfl
theorem lead_all (d : List UInt8) (h : ∀ c ∈ d, isD c = true) : lead d = d ∧ tail d = [] := by
  have := lead_of d [] h (by simp)
  simpa using this
theorem numB_zeros (k : Nat) (d : List UInt8) : numB (List.replicate k 48 ++ d) = numB d := by
  induction k with
  | zero => rfl
  | succ k ih =>
    rw [List.replicate_succ]
    show List.foldl _ _ (48 :: (List.replicate k 48 ++ d)) = _
    rw [List.foldl_cons]
    exact ih
theorem pre_clean (w : Nat) : Clean (preN w) ∧ preN w ≠ [] ∧ (preN w).length ≤ 4 := by
  unfold preN Clean
  repeat' split
  all_goals decide
end Go.Proofs.YtfjdifeofnpcnaaDoor
/-
  Small facts on Go's integers and on worlds that several walks use.
-/
namespace Go.Proofs.YtfjdifeofnpcnaaDoor

open Go.RowKit Go.WideShapes Go.ChangeShapes

theorem and1_i64 (x : Int) : bits .and .i64 x 1 = x % 2 := by
  have h : ((BitVec.ofInt 64 x &&& BitVec.ofInt 64 1).toNat : Int) = x % 2 := by
    rw [BitVec.toNat_and]
    have e1 : (BitVec.ofInt 64 1).toNat = 1 := by decide
    rw [e1, nat_mask1, BitVec.toNat_ofInt]
    omega
  show IntKind.i64.wrap ((BitVec.ofInt 64 x &&& BitVec.ofInt 64 1).toNat : Int) = _
  rw [h, IntKind.wrap_i64]
  omega

theorem umod_bd (a k : Int) (h : 0 < k) (h2 : k ≤ 9223372036854775807) : 0 ≤ wrap64 ((IntKind.u64.wrap a).tmod k) ∧ wrap64 ((IntKind.u64.wrap a).tmod k) < k := by
  have hw : 0 ≤ IntKind.u64.wrap a := by rw [IntKind.wrap_u64]; omega
  have h3 : 0 ≤ (IntKind.u64.wrap a).tmod k := Int.tmod_nonneg _ hw
  have h4 : (IntKind.u64.wrap a).tmod k < k := Int.tmod_lt_of_pos _ h
  unfold wrap64
  omega

theorem i64_bd {x : Int} (h : (Lit.int .i64 x).wf = true) : -9223372036854775808 ≤ x ∧ x ≤ 9223372036854775807 := by
  simpa [Lit.wf, IntKind.min, IntKind.max, IntKind.signed, IntKind.bits] using h

theorem size_iter (w : World) (s : ByteArray) (p : Nat) : (w.iter s p).heap.size = w.heap.size + 1 := World.size_alloc _ _
theorem size_drewN (w : World) (n : Nat) : (w.drewN n).heap.size = w.heap.size := rfl
theorem below_drewN {B : Nat} {a w : World} (h : Below B a w) (n : Nat) : Below B a (w.drewN n) := ⟨h.os, h.tape, h.output, h.size, h.block⟩
theorem below_iter {B : Nat} {a w : World} (h : Below B a w) (hB : B ≤ w.heap.size) (s : ByteArray) (p : Nat) : Below B a (w.iter s p) := h.alloc hB _
theorem below_cells {W w' : World} (hb : Below W.heap.size W w') : (∀ b o, b < W.heap.size → w'.cell? ⟨b, o, none⟩ = W.cell? ⟨b, o, none⟩) ∧ (∀ b o, b < W.heap.size → w'.frozen? ⟨b, o, none⟩ = W.frozen? ⟨b, o, none⟩) :=
  ⟨fun b o h => hb.cell (p := ⟨b, o, none⟩) h, fun b o h => hb.frozen (p := ⟨b, o, none⟩) h⟩
theorem below_step {B : Nat} {a b c : World} (h : Below B a b) (hB : B ≤ b.heap.size) (k : Below b.heap.size b c) : Below B a c := h.trans (k.mono hB)

theorem quiet_same {P : Program} {f : FuncId} {args : Array Value} {w : World} {n : Nat} {v : Value} (h : Calls P f args (w.drewN n) fun e w' => e = .returned v ∧ w.drewN n = w') :
    Calls P f args (w.drewN n) fun e w'' => e = .returned v ∧ ∃ m, w'' = w.drewN m := h.mono fun _ _ ⟨he, hm⟩ => ⟨he, n, hm.symm⟩
theorem quiet_sum {P : Program} {f : FuncId} {args : Array Value} {w : World} {a n : Nat} {v : Value} (h : Calls P f args (w.drewN (a + n)) fun e w' => e = .returned v ∧ w.drewN (a + n) = w') :
    Calls P f args (w.drewN (a + n)) fun e w'' => e = .returned v ∧ ∃ m, w'' = w.drewN (a + m) := h.mono fun _ _ ⟨he, hm⟩ => ⟨he, n, hm.symm⟩

section

variable {H : Type} {enc : TypeId × Value → H} {P : Program}

/-- The last step of a law's row: it returned, and nothing that was there has turned. -/
theorem law_post {f : Func} {s : ChangeSpec} {apart fresh handsOn again : Bool} {W W' : World} {args : Array Value} {v : Value} {ds gs : List (DataW H)} {before pa pv : List MemPlace}
    (hW : DataW.Whole enc P f.params.toList s.vars apart W args.toList ds gs before)
    (hres : ∀ (b : Nat) (sp : Nat → Bool) (hd : Bool), DataW.TrodAll enc P W' b sp hd f.resultTypes.toList (v.resultList f.resultTypes.size) (s.fn H (ds ++ gs)).results [])
    (hargs : ∀ sp : Nat → Bool, (∀ p ∈ before, sp p.block = true) → DataW.TrodAll enc P W' 0 sp true f.params.toList args.toList (s.fn H (ds ++ gs)).args pa)
    (hvars : ∀ sp : Nat → Bool, (∀ p ∈ before, sp p.block = true) → DataW.TrodVars enc P W' sp s.vars (s.fn H (ds ++ gs)).vars pv)
    (hps : before = pa ++ pv) (hb : Below W.heap.size W W')
    (hok : ∀ (j : Nat) (t : TypeId) (r : Value), f.resultTypes[j]? = some t → (v.resultList f.resultTypes.size)[j]? = some r → Value.okWide P W' .any 0 t r) :
    s.post enc P f apart fresh handsOn again W args v W' := by
  have hlt : ∀ p ∈ before, p.block < W.heap.size := fun p hp => hW.lt p hp
  have hold : ∀ p ∈ before, (fun b => decide (b < W.heap.size)) p.block = true := fun p hp => decide_eq_true (hlt p hp)
  obtain ⟨p0, q0, h1, h2, h3, hz, hn⟩ := id hW
  refine ⟨ds, gs, before, [], pa, pv, hW, hres _ _ _, hargs _ hold, hvars _ hold, World.keptBut_mono (fun p hp => ⟨hp, Or.inr (List.mem_append.1 (hps ▸ hp))⟩) (hb.frame (· ∈ before)), fun _ => ?_⟩
  refine ⟨hok, _, _, ([] ++ pa) ++ pv, ⟨[] ++ pa, pv, trodAll_append (hargs _ (fun _ _ => rfl)) (hres _ _ _), hvars _ (fun _ _ => rfl), rfl, ?_, ?_⟩, ?_⟩
  · intro b off hp
    have hin : MemPlace.cell b off ∈ before := by rw [hps]; simpa using hp
    exact (hb.frozen (p := ⟨b, off, none⟩) (hlt _ hin)).trans (hz b off hin)
  · intro ha
    have hd := hn ha
    rw [hps] at hd
    simpa using hd
  · intro p hp _
    rw [hps]
    simpa using hp
end
end Go.Proofs.YtfjdifeofnpcnaaDoor
/-
  Words for what lies in memory: a slice that reads as a list of cells; and how that is kept while other things are made.
-/
namespace Go.Proofs.YtfjdifeofnpcnaaDoor

open Go.RowKit

theorem add_block (a : Addr) (n : Nat) : (a.add n).block = a.block := by
  unfold Addr.add; split <;> rfl

/-- The slice value v reads as n elements of size cells each, all their cells in a row being xs; it lies below block B. -/
structure Sl (w : World) (B size : Nat) (v : Value) (n : Nat) (xs : List Value) : Prop where
  len : xs.length = n * size
  max : n ≤ maxLen
  form : (v = .slice none 0 0 ∧ n = 0) ∨ ∃ a c, v = .slice (some a) n c ∧ n ≤ c ∧ c ≤ maxLen ∧ (0 < n → a.block < B) ∧ ∀ j u, xs[j]? = some u → w.cell? (a.add j) = some u

section

variable {w w' : World} {B B' size n : Nat} {v : Value} {xs : List Value}

theorem Sl.nil : Sl w B size (.slice none 0 0) 0 [] := ⟨by simp, Nat.zero_le _, .inl ⟨rfl, rfl⟩⟩
theorem Sl.pos (h : Sl w B size v n xs) {j : Nat} {u : Value} (hu : xs[j]? = some u) : 0 < n := by
  have h1 := (List.getElem?_eq_some_iff.1 hu).1
  rw [h.len] at h1
  rcases Nat.eq_zero_or_pos n with rfl | h2
  · simp at h1
  · exact h2
theorem Sl.keep (h : Sl w B size v n xs) (hk : ∀ p : Addr, p.block < B → w'.cell? p = w.cell? p) : Sl w' B size v n xs := by
  refine ⟨h.len, h.max, ?_⟩
  rcases h.form with e | ⟨a, c, e, h1, h2, h3, h4⟩
  · exact .inl e
  · exact .inr ⟨a, c, e, h1, h2, h3, fun j u hu => (hk _ (by rw [add_block]; exact h3 (h.pos hu))).trans (h4 j u hu)⟩
theorem Sl.below (h : Sl w B size v n xs) (hb : Below B w w') : Sl w' B size v n xs := h.keep fun _ hp => hb.cell hp
theorem Sl.step (h : Sl w B size v n xs) (hB : B ≤ w.heap.size) (k : Below w.heap.size w w') : Sl w' B size v n xs := h.keep fun _ hp => k.cell (Nat.lt_of_lt_of_le hp hB)
theorem Sl.drewN (h : Sl w B size v n xs) (k : Nat) : Sl (w.drewN k) B size v n xs := h.keep fun _ _ => rfl
theorem Sl.more (h : Sl w B size v n xs) (hB : B ≤ B') : Sl w B' size v n xs := by
  refine ⟨h.len, h.max, ?_⟩
  rcases h.form with e | ⟨a, c, e, h1, h2, h3, h4⟩
  · exact .inl e
  · exact .inr ⟨a, c, e, h1, h2, fun h => Nat.lt_of_lt_of_le (h3 h) hB, h4⟩
theorem Sl.alloc (h : Sl w B size v n xs) (hB : B ≤ w.heap.size) (o : Obj) : Sl (w.alloc o) B size v n xs := h.keep fun p hp => World.cell?_alloc_lt w o p (by omega)
theorem Sl.take {a : Addr} {c : Nat} (h : Sl w B 1 (.slice (some a) n c) n xs) {k : Nat} (hk : k ≤ n) : Sl w B 1 (.slice (some a) k c) k (xs.take k) := by
  have hl := h.len
  refine ⟨by rw [List.length_take, hl]; omega, by have := h.max; omega, ?_⟩
  rcases h.form with ⟨e, _⟩ | ⟨a', c', e, h1, h2, h3, h4⟩
  · cases e
  · cases e
    exact .inr ⟨a, c, rfl, by omega, h2, fun hh => h3 (by omega), fun j u hu => h4 j u (by rw [List.getElem?_take] at hu; split at hu; exact hu; cases hu)⟩
theorem Sl.cell {a : Addr} {c : Nat} (h : Sl w B size (.slice (some a) n c) n xs) {k : Nat} {u : Value} (hk : xs[k]? = some u) : w.cell? (a.add k) = some u := by
  rcases h.form with ⟨e, _⟩ | ⟨a', c', e, h1, h2, h3, h4⟩
  · cases e
  · cases e; exact h4 k u hk
theorem Sl.cap {a : Addr} {c : Nat} (h : Sl w B size (.slice (some a) n c) n xs) : n ≤ c ∧ c ≤ maxLen ∧ (0 < n → a.block < B) := by
  rcases h.form with ⟨e, _⟩ | ⟨a', c', e, h1, h2, h3, h4⟩
  · cases e
  · cases e; exact ⟨h1, h2, h3⟩
theorem Sl.some_ (h : Sl w B size v n xs) (hn : 0 < n) : ∃ a c, v = .slice (some a) n c := by
  rcases h.form with ⟨_, rfl⟩ | ⟨a, c, e, _⟩
  · omega
  · exact ⟨a, c, e⟩
theorem Sl.is_slice (h : Sl w B size v n xs) : ∃ A c, v = .slice A n c := by
  rcases h.form with ⟨rfl, rfl⟩ | ⟨a, c, rfl, _⟩
  · exact ⟨_, _, rfl⟩
  · exact ⟨_, _, rfl⟩
theorem Sl.of_own {base : Nat} {e : TypeId} (h : w.ownsRow base e size v n xs) : Sl w w.heap.size size v n xs := by
  obtain ⟨h1, h2⟩ := h
  rcases h2 with ⟨rfl, rfl⟩ | ⟨g, cap, cur, rfl, hb, hh, hn, hc, hz, ht⟩
  · exact ⟨h1, Nat.zero_le _, .inl ⟨rfl, rfl⟩⟩
  · have hg : g < w.heap.size := by
      rcases Nat.lt_or_ge g w.heap.size with hlt | hge
      · exact hlt
      · rw [Array.getElem?_eq_none hge] at hh; cases hh
    refine ⟨h1, Nat.le_trans hn hc, .inr ⟨⟨g, 0, none⟩, cap, rfl, hn, hc, fun _ => hg, fun j u hu => ?_⟩⟩
    have hj : (Addr.add ⟨g, 0, none⟩ j) = ⟨g, j, none⟩ := by
      unfold Addr.add; split
      · rename_i h0; rw [h0]
      · simp
    rw [hj, cell_of_row w g j cur e (0, 0) hh]
    rw [← ht, List.getElem?_take] at hu
    split at hu
    · simpa using hu
    · cases hu
theorem add_zero_off (g j : Nat) : (Addr.add ⟨g, 0, none⟩ j) = ⟨g, j, none⟩ := by
  unfold Addr.add; split
  · rename_i h0; rw [h0]
  · simp
/-- A row that was just written out. -/
theorem Sl.lit (w : World) (cs : Array Value) (t : TypeId) (c : Nat) (hn : n * size = cs.size) (hc : n ≤ c) (hm : c ≤ maxLen) : Sl (w.alloc (.cells cs t)) (w.heap.size + 1) size (.slice (some ⟨w.heap.size, 0, none⟩) n c) n cs.toList := by
  refine ⟨by simp [hn], Nat.le_trans hc hm, .inr ⟨_, c, rfl, hc, hm, fun _ => Nat.lt_succ_self _, fun j u hu => ?_⟩⟩
  rw [add_zero_off, cell_of_row (w.alloc (.cells cs t)) w.heap.size j cs t (0, 0) (heap_alloc_new w _)]
  simpa using hu
end
end Go.Proofs.YtfjdifeofnpcnaaDoor
/-
  Arguments that are slices: what the walk needs to know of them.
-/
namespace Go.Proofs.YtfjdifeofnpcnaaDoor

open Go.RowKit Go.ChangeShapes Go.WideShapes

section

variable {H : Type} {enc : TypeId × Value → H} {P : Program} {W : World}

theorem lt_of_cell {w : World} {a : Addr} {v : Value} (h : w.cell? a = some v) : a.block < w.heap.size := by
  rcases Nat.lt_or_ge a.block w.heap.size with h1 | h1
  · exact h1
  · simp [World.cell?, Array.getElem?_eq_none h1] at h
/-- A slice of integers that came in. -/
theorem open_ints_sl {t e : TypeId} {k : IntKind} {base : Nat} {v : Value} {d : DataW H} {ps : List MemPlace} (ht : P.underlying t = some (.slice e)) (he : P.underlying e = some (.int k)) (hc : P.cellsOf e = 1)
    (hval : Value.okWide P W .any base t v) (h : DataW.Trod enc P W 0 (fun _ => true) true t v d ps) : ∃ zs : List Int, Sl W W.heap.size 1 v zs.length (zs.map (Value.int k)) ∧ ∀ n ∈ zs, (Lit.int k n).wf = true := by
  obtain ⟨a0, len, cap, rfl⟩ := okWide_slice ht hval
  obtain ⟨fuel, hf⟩ := h
  rcases open_ints ht he hc hf with ⟨hcs, _⟩ | ⟨a, len', cap', zs, hcs, _, hl, hm, hz, _, hcell, hwz⟩
  · simp only [Value.cells] at hcs
    cases hcs
    exact ⟨[], Sl.nil, by simp⟩
  · simp only [Value.cells] at hcs
    cases hcs
    simp only [if_true] at hz
    have hlt : (zs.take len).length = len := by rw [List.length_take]; omega
    refine ⟨zs.take len, ?_, fun n hn => hwz n (List.mem_of_mem_take hn)⟩
    rw [hlt]
    refine ⟨by rw [List.length_map, hlt]; omega, Nat.le_trans hl hm, .inr ⟨a, cap, rfl, hl, hm, fun hp => lt_of_cell (a := a.add 0) (hcell 0 (by omega)), fun j u hu => ?_⟩⟩
    rw [List.getElem?_map] at hu
    obtain ⟨z, hz2, rfl⟩ := Option.map_eq_some_iff.1 hu
    rw [List.getElem?_take] at hz2
    split at hz2
    · have hj : j < zs.length := (List.getElem?_eq_some_iff.1 hz2).1
      rw [hcell j hj, List.getD_eq_getElem?_getD, hz2]; rfl
    · cases hz2
/-- A slice of strings that came in. -/
theorem open_strs_sl {t e : TypeId} {base : Nat} {v : Value} {d : DataW H} {ps : List MemPlace} (ht : P.underlying t = some (.slice e)) (he : P.underlying e = some .string) (hc : P.cellsOf e = 1)
    (hval : Value.okWide P W .any base t v) (h : DataW.Trod enc P W 0 (fun _ => true) true t v d ps) : ∃ ss : List ByteArray, Sl W W.heap.size 1 v ss.length (ss.map Value.string) ∧ ∀ s ∈ ss, s.size ≤ maxLen := by
  obtain ⟨a0, len, cap, rfl⟩ := okWide_slice ht hval
  obtain ⟨fuel, hf⟩ := h
  rcases open_strings ht he hc hf with ⟨hcs, _⟩ | ⟨a, len', cap', zs, hcs, _, hl, hm, hz, _, hcell, hwz⟩
  · simp only [Value.cells] at hcs
    cases hcs
    exact ⟨[], Sl.nil, by simp⟩
  · simp only [Value.cells] at hcs
    cases hcs
    simp only [if_true] at hz
    have hlt : (zs.take len).length = len := by rw [List.length_take]; omega
    refine ⟨zs.take len, ?_, fun n hn => hwz n (List.mem_of_mem_take hn)⟩
    rw [hlt]
    refine ⟨by rw [List.length_map, hlt]; omega, Nat.le_trans hl hm, .inr ⟨a, cap, rfl, hl, hm, fun hp => lt_of_cell (a := a.add 0) (hcell 0 (by omega)), fun j u hu => ?_⟩⟩
    rw [List.getElem?_map] at hu
    obtain ⟨z, hz2, rfl⟩ := Option.map_eq_some_iff.1 hu
    rw [List.getElem?_take] at hz2
    split at hz2
    · have hj : j < zs.length := (List.getElem?_eq_some_iff.1 hz2).1
      rw [hcell j hj, List.getD_eq_getElem?_getD, hz2]; rfl
    · cases hz2
end
end Go.Proofs.YtfjdifeofnpcnaaDoor
/-
  What a law is handed: slices that lead to nothing that turns.
-/
namespace Go.Proofs.YtfjdifeofnpcnaaDoor

open Go Go.LX Go.RowKit

theorem vsl_gen {w : World} {size n : Nat} {v : Value} {xs : List Value} (hsz : 0 < size) (h : Sl w w.heap.size size v n xs) {m : Int} {l : List PV} (hm : m = n) (hl : l.length = n * size) (hrel : ∀ (j : Nat) (u : PV), l[j]? = some u → ∃ x, xs[j]? = some x ∧ PR Ctx.empty.mut w u x) :
    LR Ctx.empty w (.p (.vsl (.sym m) true l)) v := by
  have h0 : (I.sym m).val = n := hm
  rcases h.form with ⟨rfl, rfl⟩ | ⟨a, c, rfl, h1, h2, h3, h4⟩
  · exact .p _ _ (.vsl0 _ _ _ _ _ h0 (Nat.zero_le _))
  · rcases Nat.eq_zero_or_pos n with rfl | hn
    · exact .p _ _ (.vsl0 _ _ _ _ _ h0 h2)
    · have hlen : 0 < l.length := by rw [hl]; exact Nat.mul_pos hn hsz
      obtain ⟨x0, hx0, _⟩ := hrel 0 l[0] (List.getElem?_eq_getElem hlen)
      have hc := h4 0 x0 hx0
      have hsp : a.spot = none := by
        have : w.cell? a = some x0 := hc
        unfold World.cell? at this
        split at this
        · split at this
          · cases this
          · rename_i hns
            cases hs : a.spot with
            | none => rfl
            | some _ => rw [hs] at hns; exact absurd rfl hns
        · cases this
      refine .p _ _ (.vsl _ _ _ a n c (fun j => xs.getD j Go.undef) h0 hsp (fun hM => ?_) (h3 hn) h1 h2 (fun j u hu => ?_) (fun j u hu => ?_))
      · rcases hM with hx | ⟨b, hb⟩
        · exact hx
        · cases hb
      · obtain ⟨x, hx, _⟩ := hrel j u hu
        rw [h4 j x hx, List.getD_eq_getElem?_getD, hx]; rfl
      · obtain ⟨x, hx, hp⟩ := hrel j u hu
        rw [List.getD_eq_getElem?_getD, hx]; exact hp
theorem vsl_ints {w : World} {k : IntKind} {v : Value} {zs : List Int} (h : Sl w w.heap.size 1 v zs.length (zs.map (Value.int k))) {m : Int} {l : List PV} (hm : m = zs.length) (hl : l = zs.map fun z => PV.int k (.sym z)) : LR Ctx.empty w (.p (.vsl (.sym m) true l)) v := by
  subst hl
  refine vsl_gen Nat.one_pos h hm (by simp) fun j u hu => ?_
  rw [List.getElem?_map] at hu
  cases hz : zs[j]? with
  | none => rw [hz] at hu; cases hu
  | some z =>
    rw [hz] at hu
    cases hu
    exact ⟨.int k z, by rw [List.getElem?_map, hz]; rfl, .int k _ z rfl⟩
end Go.Proofs.YtfjdifeofnpcnaaDoor
