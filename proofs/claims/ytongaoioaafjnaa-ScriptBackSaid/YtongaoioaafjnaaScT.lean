/-
  Bytes, as the document tells them.
-/
import Derived.Test.YtongaoioaafjnaaScR
namespace Go.Proofs.Ytongaoioaafjnaa
open Go Go.LX
set_option maxRecDepth 100000
set_option linter.unusedVariables false

def rF (e : E3) : Int := if e.1 = 2 then 160 else if e.1 = 3 then 192 else if e.1 = 4 then 240 else IntKind.u8.wrap e.2.1
def rS (e : E3) : Int := if e.1 = 2 then IntKind.u8.wrap e.2.1 else if e.1 = 3 then IntKind.u8.wrap e.2.1 else if e.1 = 4 then 0 else IntKind.u8.wrap e.2.2
def bytesR : List E3 → List Int
  | [] => []
  | e :: l => rF e :: rS e :: bytesR l
theorem bytesR_append : ∀ a b, bytesR (a ++ b) = bytesR a ++ bytesR b
  | [], b => rfl
  | e :: a, b => by simp [bytesR, bytesR_append a b]
theorem bytesR_length : ∀ a, (bytesR a).length = 2 * a.length
  | [] => rfl
  | e :: a => by simp [bytesR, bytesR_length a]; omega
theorem bytesR_8 : ∀ (A : List E3), ∀ x ∈ bytesR A, 0 ≤ x ∧ x < 256
  | [], x, h => by cases h
  | e :: l, x, h => by
    have h1 : 0 ≤ rF e ∧ rF e < 256 := by unfold rF; have := u8wrap e.2.1; repeat' split <;> omega
    have h2 : 0 ≤ rS e ∧ rS e < 256 := by unfold rS; have := u8wrap e.2.1; have := u8wrap e.2.2; repeat' split <;> omega
    rw [bytesR, List.mem_cons, List.mem_cons] at h
    rcases h with rfl | rfl | h
    · exact h1
    · exact h2
    · exact bytesR_8 l x h
set_option maxHeartbeats 4000000 in
theorem refBytes_lx (A : List E3) (m : Int) (la : List PV) (hm : m = A.length) (ha : la = ents A) (hA : (A.length : Int) < 400000) :
    CallF (fun _ => Try.prog) 15 [.p (.vsl (.sym m) true la)] [] 0 (fun r h n => (∃ (v : PV) (e : Int), r = .tup [.p v, .p (.int .i64 (.sym e))] ∧ (Es 400 (bytesR A) = A ∧ e = 0 ∧ v = .vsl (.sym (2 * m)) true (u8s (bytesR A)) ∨ Es 400 (bytesR A) ≠ A ∧ e = 1 ∧ v = .nils)) ∧ h = [] ∧ n = 0) := by
  refine callF_of_body tok Try.func15 (by kernel_rfl) rfl rfl rfl ?_; conv => cbv
  refine LoopF.mk (fun k s => ∃ (i j : Int) (L : List PV), s = ⟨.p (.vsl (.sym m) true la) :: .undef :: .undef :: .undef :: .sl 0 5 1 (.lit 0) (.sym j) :: .p (.int .i64 (.sym i)) :: undefs 44, [(0, .pure true L)], 1⟩ ∧ 0 ≤ i ∧ i ≤ m ∧ j = 2 * i ∧ L = u8s (bytesR (A.take i.toNat)) ∧ k = (m - i).toNat) m.toNat _
    (Re.of [] [0] (by first | exact Nat.zero_le _ | exact Nat.le_refl _ | decide) rfl rfl (by (try (conv => cbv)); (repeat' (first | exact trivial | rfl | exact SEq.mk rfl | (exact SEq.mk (by first | assumption | (symm; assumption))) | (simp only [I.val]; done) | (simp only [I.val]; omega) | omega | assumption | (refine And.intro ?_ ?_) | exact Or.inl rfl | exact Or.inr (by assumption) | exact List.Mem.head _ | exact List.Mem.tail _ (List.Mem.head _) | exact ⟨_, rfl⟩ | exact ⟨_, rfl, Or.inl rfl⟩ | (refine ⟨_, rfl, Or.inr ?_⟩; (try (conv => cbv))) | (simp only [I.val] at *; first | omega | (subst_vars; rfl) | simp_all)))) (by (try (conv => cbv)); (repeat' (first | exact trivial | rfl | exact SEq.mk rfl | (exact SEq.mk (by first | assumption | (symm; assumption))) | (simp only [I.val]; done) | (simp only [I.val]; omega) | omega | assumption | (refine And.intro ?_ ?_) | exact Or.inl rfl | exact Or.inr (by assumption) | exact List.Mem.head _ | exact List.Mem.tail _ (List.Mem.head _) | exact ⟨_, rfl⟩ | exact ⟨_, rfl, Or.inl rfl⟩ | (refine ⟨_, rfl, Or.inr ?_⟩; (try (conv => cbv))) | (simp only [I.val] at *; first | omega | (subst_vars; rfl) | simp_all))))) ⟨0, 0, [], rfl, by omega, by omega, by omega, rfl, by omega⟩ ?_
  rintro k s ⟨i, j, L, rfl, hi0, him, hj, hL, hk⟩
  conv => cbv
  refine Br.mk (fun e2 => ?_) (fun e2 => ?_)
  · simp only [I.val] at e2
    conv => cbv
    obtain ⟨⟨k1, x1, d1⟩, hea⟩ : ∃ e, A[i.toNat]? = some e := ⟨_, List.getElem?_eq_getElem (by omega)⟩
    obtain ⟨a1, a2, a3⟩ := ents_get A i.toNat _ hea
    dsimp only at a1 a2 a3
    rw [← ha] at a1 a2 a3
    have hl1 : L.length = 2 * i.toNat := by rw [hL, u8s_length, bytesR_length, List.length_take]; omega
    obtain ⟨k', rfl⟩ : ∃ k', k = k' + 1 := ⟨k - 1, by omega⟩
    refine Need.mk ⟨hi0, by simp only [I.val]; omega⟩ ?_
    conv => cbv
    refine Sum.mk fun z hz => ?_
    have hz2 : z = 3 * i := by have : z = i * 3 := hz; omega
    clear hz
    conv => cbv
    refine Cell.at (z + 0) _ a1 rfl (by omega) ?_
    conv => cbv
    refine Cell.at (z + 1) _ a2 rfl (by omega) ?_
    conv => cbv
    refine Cell.at (z + 2) _ a3 rfl (by omega) ?_
    conv => cbv
    refine draw_sound tok (by kernel_rfl) rfl (by kernel_rfl) ?_
    conv => cbv
    refine Br.mk (fun f1 => ?_) (fun f1 => ?_)
    · have f1 : k1 = 2 := f1
      conv => cbv
      refine draw_sound tok (by kernel_rfl) rfl (by kernel_rfl) ?_
      conv => cbv
      refine Fit.wrap fun b hb => ?_
      have hb : b = IntKind.u8.wrap x1 := hb
      conv => cbv
      refine Need.mk rfl ?_
      conv => cbv
      refine Room.new ⟨by show (L.length : Int) = j * 1; omega, by show (j + 2) * 1 ≤ 140737488355328; omega, by show j + 2 ≤ 9223372036854775807; omega⟩ ?_
      conv => cbv
      refine Upd.mk fun L2 hL2 => ?_
      conv => cbv
      refine Sum.mk fun j2 hj2 => ?_
      have hj2 : j2 = j + 2 := hj2
      conv => cbv
      refine Fit.mk (by show (-9223372036854775808 : Int) ≤ i + 1; omega) (by show i + 1 ≤ 9223372036854775807; omega) ?_
      intro i2 hi2
      have hi2 : i2 = i + 1 := hi2
      conv => cbv
      have hf : rF (k1, x1, d1) = 160 := by simp only [rF]; repeat' (first | rfl | rw [if_pos (by omega)] | rw [if_neg (by omega)] | rw [hb])
      have hs : rS (k1, x1, d1) = b := by simp only [rS]; repeat' (first | rfl | rw [if_pos (by omega)] | rw [if_neg (by omega)] | rw [hb])
      have hnew : u8s (bytesR (A.take i2.toNat)) = L ++ [.int .u8 (.sym (160)), .int .u8 (.sym (b))] := by rw [show i2.toNat = i.toNat + 1 by omega, List.take_add_one, hea, bytesR_append, u8s_app, ← hL, ← hf, ← hs]; rfl
      generalize hL3 : u8s (bytesR (A.take i2.toNat)) = L3 at hnew
      have hle : pvles L2 L3 := by rw [hnew, hL2]; exact pvles_app (pvles_refl _) (by simp [pvles, pvle, I.val])
      unfold pvles at hle
      refine Again.mk k' _ (Nat.lt_succ_self _) (Re.of [(3, 0)] [] (by first | exact Nat.zero_le _ | exact Nat.le_refl _ | decide) rfl rfl (by (try (conv => cbv)); (repeat' (first | exact trivial | rfl | exact SEq.mk rfl | (exact SEq.mk (by first | assumption | (symm; assumption))) | (simp only [I.val]; done) | (simp only [I.val]; omega) | omega | assumption | (refine And.intro ?_ ?_) | exact Or.inl rfl | exact Or.inr (by assumption) | exact List.Mem.head _ | exact List.Mem.tail _ (List.Mem.head _) | exact ⟨_, rfl⟩ | exact ⟨_, rfl, Or.inl rfl⟩ | (refine ⟨_, rfl, Or.inr ?_⟩; (try (conv => cbv))) | (simp only [I.val] at *; first | omega | (subst_vars; rfl) | simp_all)))) (by (try (conv => cbv)); (repeat' (first | exact trivial | rfl | exact SEq.mk rfl | (exact SEq.mk (by first | assumption | (symm; assumption))) | (simp only [I.val]; done) | (simp only [I.val]; omega) | omega | assumption | (refine And.intro ?_ ?_) | exact Or.inl rfl | exact Or.inr (by assumption) | exact List.Mem.head _ | exact List.Mem.tail _ (List.Mem.head _) | exact ⟨_, rfl⟩ | exact ⟨_, rfl, Or.inl rfl⟩ | (refine ⟨_, rfl, Or.inr ?_⟩; (try (conv => cbv))) | (simp only [I.val] at *; first | omega | (subst_vars; rfl) | simp_all))))) ⟨i2, j2, L3, rfl, by omega, by omega, by omega, hL3.symm, by omega⟩
    · have f1 : ¬ k1 = 2 := f1
      conv => cbv
      refine Br.mk (fun f2 => ?_) (fun f2 => ?_)
      · have f2 : k1 = 3 := f2
        conv => cbv
        refine draw_sound tok (by kernel_rfl) rfl (by kernel_rfl) ?_
        conv => cbv
        refine Fit.wrap fun b hb => ?_
        have hb : b = IntKind.u8.wrap x1 := hb
        conv => cbv
        refine Need.mk rfl ?_
        conv => cbv
        refine Room.new ⟨by show (L.length : Int) = j * 1; omega, by show (j + 2) * 1 ≤ 140737488355328; omega, by show j + 2 ≤ 9223372036854775807; omega⟩ ?_
        conv => cbv
        refine Upd.mk fun L2 hL2 => ?_
        conv => cbv
        refine Sum.mk fun j2 hj2 => ?_
        have hj2 : j2 = j + 2 := hj2
        conv => cbv
        refine Fit.mk (by show (-9223372036854775808 : Int) ≤ i + 1; omega) (by show i + 1 ≤ 9223372036854775807; omega) ?_
        intro i2 hi2
        have hi2 : i2 = i + 1 := hi2
        conv => cbv
        have hf : rF (k1, x1, d1) = 192 := by simp only [rF]; repeat' (first | rfl | rw [if_pos (by omega)] | rw [if_neg (by omega)] | rw [hb])
        have hs : rS (k1, x1, d1) = b := by simp only [rS]; repeat' (first | rfl | rw [if_pos (by omega)] | rw [if_neg (by omega)] | rw [hb])
        have hnew : u8s (bytesR (A.take i2.toNat)) = L ++ [.int .u8 (.sym (192)), .int .u8 (.sym (b))] := by rw [show i2.toNat = i.toNat + 1 by omega, List.take_add_one, hea, bytesR_append, u8s_app, ← hL, ← hf, ← hs]; rfl
        generalize hL3 : u8s (bytesR (A.take i2.toNat)) = L3 at hnew
        have hle : pvles L2 L3 := by rw [hnew, hL2]; exact pvles_app (pvles_refl _) (by simp [pvles, pvle, I.val])
        unfold pvles at hle
        refine Again.mk k' _ (Nat.lt_succ_self _) (Re.of [(3, 0)] [] (by first | exact Nat.zero_le _ | exact Nat.le_refl _ | decide) rfl rfl (by (try (conv => cbv)); (repeat' (first | exact trivial | rfl | exact SEq.mk rfl | (exact SEq.mk (by first | assumption | (symm; assumption))) | (simp only [I.val]; done) | (simp only [I.val]; omega) | omega | assumption | (refine And.intro ?_ ?_) | exact Or.inl rfl | exact Or.inr (by assumption) | exact List.Mem.head _ | exact List.Mem.tail _ (List.Mem.head _) | exact ⟨_, rfl⟩ | exact ⟨_, rfl, Or.inl rfl⟩ | (refine ⟨_, rfl, Or.inr ?_⟩; (try (conv => cbv))) | (simp only [I.val] at *; first | omega | (subst_vars; rfl) | simp_all)))) (by (try (conv => cbv)); (repeat' (first | exact trivial | rfl | exact SEq.mk rfl | (exact SEq.mk (by first | assumption | (symm; assumption))) | (simp only [I.val]; done) | (simp only [I.val]; omega) | omega | assumption | (refine And.intro ?_ ?_) | exact Or.inl rfl | exact Or.inr (by assumption) | exact List.Mem.head _ | exact List.Mem.tail _ (List.Mem.head _) | exact ⟨_, rfl⟩ | exact ⟨_, rfl, Or.inl rfl⟩ | (refine ⟨_, rfl, Or.inr ?_⟩; (try (conv => cbv))) | (simp only [I.val] at *; first | omega | (subst_vars; rfl) | simp_all))))) ⟨i2, j2, L3, rfl, by omega, by omega, by omega, hL3.symm, by omega⟩
      · have f2 : ¬ k1 = 3 := f2
        conv => cbv
        refine Br.mk (fun f3 => ?_) (fun f3 => ?_)
        · have f3 : k1 = 4 := f3
          conv => cbv
          refine Need.mk rfl ?_
          conv => cbv
          refine Room.new ⟨by show (L.length : Int) = j * 1; omega, by show (j + 2) * 1 ≤ 140737488355328; omega, by show j + 2 ≤ 9223372036854775807; omega⟩ ?_
          conv => cbv
          refine Upd.mk fun L2 hL2 => ?_
          conv => cbv
          refine Sum.mk fun j2 hj2 => ?_
          have hj2 : j2 = j + 2 := hj2
          conv => cbv
          refine Fit.mk (by show (-9223372036854775808 : Int) ≤ i + 1; omega) (by show i + 1 ≤ 9223372036854775807; omega) ?_
          intro i2 hi2
          have hi2 : i2 = i + 1 := hi2
          conv => cbv
          have hf : rF (k1, x1, d1) = 240 := by simp only [rF]; repeat' (first | rfl | rw [if_pos (by omega)] | rw [if_neg (by omega)])
          have hs : rS (k1, x1, d1) = 0 := by simp only [rS]; repeat' (first | rfl | rw [if_pos (by omega)] | rw [if_neg (by omega)])
          have hnew : u8s (bytesR (A.take i2.toNat)) = L ++ [.int .u8 (.sym (240)), .int .u8 (.sym (0))] := by rw [show i2.toNat = i.toNat + 1 by omega, List.take_add_one, hea, bytesR_append, u8s_app, ← hL, ← hf, ← hs]; rfl
          generalize hL3 : u8s (bytesR (A.take i2.toNat)) = L3 at hnew
          have hle : pvles L2 L3 := by rw [hnew, hL2]; exact pvles_app (pvles_refl _) (by simp [pvles, pvle, I.val])
          unfold pvles at hle
          refine Again.mk k' _ (Nat.lt_succ_self _) (Re.of [(3, 0)] [] (by first | exact Nat.zero_le _ | exact Nat.le_refl _ | decide) rfl rfl (by (try (conv => cbv)); (repeat' (first | exact trivial | rfl | exact SEq.mk rfl | (exact SEq.mk (by first | assumption | (symm; assumption))) | (simp only [I.val]; done) | (simp only [I.val]; omega) | omega | assumption | (refine And.intro ?_ ?_) | exact Or.inl rfl | exact Or.inr (by assumption) | exact List.Mem.head _ | exact List.Mem.tail _ (List.Mem.head _) | exact ⟨_, rfl⟩ | exact ⟨_, rfl, Or.inl rfl⟩ | (refine ⟨_, rfl, Or.inr ?_⟩; (try (conv => cbv))) | (simp only [I.val] at *; first | omega | (subst_vars; rfl) | simp_all)))) (by (try (conv => cbv)); (repeat' (first | exact trivial | rfl | exact SEq.mk rfl | (exact SEq.mk (by first | assumption | (symm; assumption))) | (simp only [I.val]; done) | (simp only [I.val]; omega) | omega | assumption | (refine And.intro ?_ ?_) | exact Or.inl rfl | exact Or.inr (by assumption) | exact List.Mem.head _ | exact List.Mem.tail _ (List.Mem.head _) | exact ⟨_, rfl⟩ | exact ⟨_, rfl, Or.inl rfl⟩ | (refine ⟨_, rfl, Or.inr ?_⟩; (try (conv => cbv))) | (simp only [I.val] at *; first | omega | (subst_vars; rfl) | simp_all))))) ⟨i2, j2, L3, rfl, by omega, by omega, by omega, hL3.symm, by omega⟩
        · have f3 : ¬ k1 = 4 := f3
          conv => cbv
          refine Fit.wrap fun a ha => ?_
          have ha : a = IntKind.u8.wrap x1 := ha
          conv => cbv
          refine Fit.wrap fun b hb => ?_
          have hb : b = IntKind.u8.wrap d1 := hb
          conv => cbv
          refine Need.mk rfl ?_
          conv => cbv
          refine Room.new ⟨by show (L.length : Int) = j * 1; omega, by show (j + 2) * 1 ≤ 140737488355328; omega, by show j + 2 ≤ 9223372036854775807; omega⟩ ?_
          conv => cbv
          refine Upd.mk fun L2 hL2 => ?_
          conv => cbv
          refine Sum.mk fun j2 hj2 => ?_
          have hj2 : j2 = j + 2 := hj2
          conv => cbv
          refine Fit.mk (by show (-9223372036854775808 : Int) ≤ i + 1; omega) (by show i + 1 ≤ 9223372036854775807; omega) ?_
          intro i2 hi2
          have hi2 : i2 = i + 1 := hi2
          conv => cbv
          have hf : rF (k1, x1, d1) = a := by simp only [rF]; repeat' (first | rfl | rw [if_pos (by omega)] | rw [if_neg (by omega)] | rw [ha] | rw [hb])
          have hs : rS (k1, x1, d1) = b := by simp only [rS]; repeat' (first | rfl | rw [if_pos (by omega)] | rw [if_neg (by omega)] | rw [ha] | rw [hb])
          have hnew : u8s (bytesR (A.take i2.toNat)) = L ++ [.int .u8 (.sym (a)), .int .u8 (.sym (b))] := by rw [show i2.toNat = i.toNat + 1 by omega, List.take_add_one, hea, bytesR_append, u8s_app, ← hL, ← hf, ← hs]; rfl
          generalize hL3 : u8s (bytesR (A.take i2.toNat)) = L3 at hnew
          have hle : pvles L2 L3 := by rw [hnew, hL2]; exact pvles_app (pvles_refl _) (by simp [pvles, pvle, I.val])
          unfold pvles at hle
          refine Again.mk k' _ (Nat.lt_succ_self _) (Re.of [(3, 0)] [] (by first | exact Nat.zero_le _ | exact Nat.le_refl _ | decide) rfl rfl (by (try (conv => cbv)); (repeat' (first | exact trivial | rfl | exact SEq.mk rfl | (exact SEq.mk (by first | assumption | (symm; assumption))) | (simp only [I.val]; done) | (simp only [I.val]; omega) | omega | assumption | (refine And.intro ?_ ?_) | exact Or.inl rfl | exact Or.inr (by assumption) | exact List.Mem.head _ | exact List.Mem.tail _ (List.Mem.head _) | exact ⟨_, rfl⟩ | exact ⟨_, rfl, Or.inl rfl⟩ | (refine ⟨_, rfl, Or.inr ?_⟩; (try (conv => cbv))) | (simp only [I.val] at *; first | omega | (subst_vars; rfl) | simp_all)))) (by (try (conv => cbv)); (repeat' (first | exact trivial | rfl | exact SEq.mk rfl | (exact SEq.mk (by first | assumption | (symm; assumption))) | (simp only [I.val]; done) | (simp only [I.val]; omega) | omega | assumption | (refine And.intro ?_ ?_) | exact Or.inl rfl | exact Or.inr (by assumption) | exact List.Mem.head _ | exact List.Mem.tail _ (List.Mem.head _) | exact ⟨_, rfl⟩ | exact ⟨_, rfl, Or.inl rfl⟩ | (refine ⟨_, rfl, Or.inr ?_⟩; (try (conv => cbv))) | (simp only [I.val] at *; first | omega | (subst_vars; rfl) | simp_all))))) ⟨i2, j2, L3, rfl, by omega, by omega, by omega, hL3.symm, by omega⟩
  · simp only [I.val] at e2
    conv => cbv
    have hEnd : L = u8s (bytesR A) := by rw [hL, show i.toNat = A.length by omega, List.take_length]
    have hbl := bytesR_length A
    have hb8 := bytesR_8 A
    refine callF_lend (refEntries_own (bytesR A) j L (by omega) hEnd hb8 (by omega)) (by simp [lends, lendV, hget, I.val]) (fun r h' n' ⟨k2, l2, e1, e2, e3, _, hl2⟩ => by subst e1 e2 e3; exact ⟨trivial, by simp only [flatB, hl2]; exact ents_flat _, trivial⟩) (fun r h' n' ⟨k2, l2, e1, e2, e3, hk2, hl2⟩ => ?_)
    subst e1 e2 e3
    conv => cbv
    refine callF_lend (plainEnt_lx A (Es 400 (bytesR A)) m k2 la l2 hm hk2 ha (pre_of hl2) (by omega)) (by simp [lends, lendV, hget, I.val, pvle]) (fun r h' n' ⟨⟨b, e1, _⟩, e2, e3⟩ => by subst e1 e2; exact ⟨trivial, trivial⟩) (fun r h' n' ⟨⟨b, e1, hb⟩, e2, e3⟩ => ?_)
    subst e1 e2 e3
    cases b with
    | true =>
      conv => cbv
      refine RetF.mk [.p (.vsl (.sym j) true L), .p (.int .i64 (.sym 0))] [] 0 (Re.of [] [] (by first | exact Nat.zero_le _ | exact Nat.le_refl _ | decide) rfl rfl (by (try (conv => cbv)); (repeat' (first | exact trivial | rfl | exact SEq.mk rfl | (exact SEq.mk (by first | assumption | (symm; assumption))) | (simp only [I.val]; done) | (simp only [I.val]; omega) | omega | assumption | (refine And.intro ?_ ?_) | exact Or.inl rfl | exact Or.inr (by assumption) | exact List.Mem.head _ | exact List.Mem.tail _ (List.Mem.head _) | exact ⟨_, rfl⟩ | exact ⟨_, rfl, Or.inl rfl⟩ | (refine ⟨_, rfl, Or.inr ?_⟩; (try (conv => cbv))) | (simp only [I.val] at *; first | omega | (subst_vars; rfl) | simp_all)))) (by (try (conv => cbv)); (repeat' (first | exact trivial | rfl | exact SEq.mk rfl | (exact SEq.mk (by first | assumption | (symm; assumption))) | (simp only [I.val]; done) | (simp only [I.val]; omega) | omega | assumption | (refine And.intro ?_ ?_) | exact Or.inl rfl | exact Or.inr (by assumption) | exact List.Mem.head _ | exact List.Mem.tail _ (List.Mem.head _) | exact ⟨_, rfl⟩ | exact ⟨_, rfl, Or.inl rfl⟩ | (refine ⟨_, rfl, Or.inr ?_⟩; (try (conv => cbv))) | (simp only [I.val] at *; first | omega | (subst_vars; rfl) | simp_all))))) rfl ⟨⟨.vsl (.sym j) true L, 0, rfl, .inl ⟨(hb.1 rfl).symm, rfl, by rw [hEnd, show 2 * m = j by omega]⟩⟩, rfl, rfl⟩
    | false =>
      conv => cbv
      refine RetF.mk [.p .nils, .p (.int .i64 (.sym 1))] [] 0 (Re.of [] [] (by first | exact Nat.zero_le _ | exact Nat.le_refl _ | decide) rfl rfl (by (try (conv => cbv)); (repeat' (first | exact trivial | rfl | exact SEq.mk rfl | (exact SEq.mk (by first | assumption | (symm; assumption))) | (simp only [I.val]; done) | (simp only [I.val]; omega) | omega | assumption | (refine And.intro ?_ ?_) | exact Or.inl rfl | exact Or.inr (by assumption) | exact List.Mem.head _ | exact List.Mem.tail _ (List.Mem.head _) | exact ⟨_, rfl⟩ | exact ⟨_, rfl, Or.inl rfl⟩ | (refine ⟨_, rfl, Or.inr ?_⟩; (try (conv => cbv))) | (simp only [I.val] at *; first | omega | (subst_vars; rfl) | simp_all)))) (by (try (conv => cbv)); (repeat' (first | exact trivial | rfl | exact SEq.mk rfl | (exact SEq.mk (by first | assumption | (symm; assumption))) | (simp only [I.val]; done) | (simp only [I.val]; omega) | omega | assumption | (refine And.intro ?_ ?_) | exact Or.inl rfl | exact Or.inr (by assumption) | exact List.Mem.head _ | exact List.Mem.tail _ (List.Mem.head _) | exact ⟨_, rfl⟩ | exact ⟨_, rfl, Or.inl rfl⟩ | (refine ⟨_, rfl, Or.inr ?_⟩; (try (conv => cbv))) | (simp only [I.val] at *; first | omega | (subst_vars; rfl) | simp_all))))) rfl ⟨⟨.nils, 1, rfl, .inr ⟨fun h => (by have := hb.2 h.symm; cases this), rfl, rfl⟩⟩, rfl, rfl⟩
end Go.Proofs.Ytongaoioaafjnaa
