/-
  Package script: the bytes of a row of entries.
-/
import Derived.Test.YtongaoioaafjnaaScQ
import Derived.Test.YtongaoioaafjnaaScJ
namespace Go.Proofs.Ytongaoioaafjnaa
open Go Go.LX
set_option maxRecDepth 100000
set_option linter.unusedVariables false

def bF (e : E3) : Int := if e.1 = 1 then IntKind.u8.wrap e.2.1 else if e.1 = 2 then 160 else if e.1 = 3 then 192 else 240
def bS (e : E3) : Int := if e.1 = 1 then IntKind.u8.wrap e.2.2 else if e.1 = 2 then IntKind.u8.wrap e.2.1 else if e.1 = 3 then IntKind.u8.wrap e.2.1 else 0
def bytesE : List E3 → List Int
  | [] => []
  | e :: l => bF e :: bS e :: bytesE l

theorem bytesE_append : ∀ a b, bytesE (a ++ b) = bytesE a ++ bytesE b
  | [], b => rfl
  | e :: a, b => by simp [bytesE, bytesE_append a b]
theorem bytesE_length : ∀ a, (bytesE a).length = 2 * a.length
  | [] => rfl
  | e :: a => by simp [bytesE, bytesE_length a]; omega
theorem u8s_app : ∀ a b, u8s (a ++ b) = u8s a ++ u8s b
  | [], b => rfl
  | x :: a, b => by simp [u8s, u8s_app a b]
theorem u8wrap (x : Int) : 0 ≤ IntKind.u8.wrap x ∧ IntKind.u8.wrap x < 256 := by
  simp [IntKind.wrap, IntKind.bits, IntKind.signed]; omega
theorem bytesE_8 : ∀ (A : List E3), ∀ x ∈ bytesE A, 0 ≤ x ∧ x < 256
  | [], x, h => by cases h
  | e :: l, x, h => by
    have h1 : 0 ≤ bF e ∧ bF e < 256 := by unfold bF; have := u8wrap e.2.1; repeat' split <;> omega
    have h2 : 0 ≤ bS e ∧ bS e < 256 := by unfold bS; have := u8wrap e.2.1; have := u8wrap e.2.2; repeat' split <;> omega
    rw [bytesE, List.mem_cons, List.mem_cons] at h
    rcases h with rfl | rfl | h
    · exact h1
    · exact h2
    · exact bytesE_8 l x h
theorem ents_flat : ∀ (A : List E3), ∀ u ∈ ents A, flatP u
  | [], u, h => by cases h
  | e :: l, u, h => by
    simp only [ents, List.mem_cons] at h
    rcases h with rfl | rfl | rfl | h
    · trivial
    · trivial
    · trivial
    · exact ents_flat l u h
set_option maxHeartbeats 2000000 in
theorem bytes_own (A : List E3) (m : Int) (la : List PV) (hm : m = A.length) (ha : Pre la A) (hA : (A.length : Int) < 400000) :
    CallF (fun _ => Try.prog) 14 [.p (.vsl (.sym m) true la)] [] 0 (fun r h n => (Es 400 (bytesE A) = A ∧ ∃ (j : Int) (L : List PV), r = .tup [.sl 0 5 1 (.lit 0) (.sym j), .p (.int .i64 (.sym 0))] ∧ h = [(0, .pure true L)] ∧ n = 1 ∧ j = 2 * m ∧ L = u8s (bytesE A)) ∨ (Es 400 (bytesE A) ≠ A ∧ r = .tup [.p .nils, .p (.int .i64 (.sym 1))] ∧ h = [] ∧ n = 0)) := by
  refine callF_of_body tok Try.func14 (by kernel_rfl) rfl rfl rfl ?_; conv => cbv
  refine LoopF.mk (fun k s => ∃ (i j : Int) (L : List PV), s = ⟨.p (.vsl (.sym m) true la) :: .undef :: .undef :: .undef :: .sl 0 5 1 (.lit 0) (.sym j) :: .undef :: .undef :: .undef :: .undef :: .p (.vsl (.sym m) true la) :: .p (.int .i64 (.sym m)) :: .p (.int .i64 (.sym i)) :: undefs 20, [(0, .pure true L)], 1⟩ ∧ 0 ≤ i ∧ i ≤ m ∧ j = 2 * i ∧ L = u8s (bytesE (A.take i.toNat)) ∧ k = (m - i).toNat) m.toNat _
    (Re.of [] [0] (by first | exact Nat.zero_le _ | exact Nat.le_refl _ | decide) rfl rfl (by (try (conv => cbv)); (repeat' (first | exact trivial | rfl | exact SEq.mk rfl | (exact SEq.mk (by first | assumption | (symm; assumption))) | (simp only [I.val]; done) | (simp only [I.val]; omega) | omega | assumption | (refine And.intro ?_ ?_) | exact Or.inl rfl | exact Or.inr (by assumption) | exact List.Mem.head _ | exact List.Mem.tail _ (List.Mem.head _) | exact ⟨_, rfl⟩ | exact ⟨_, rfl, Or.inl rfl⟩ | (refine ⟨_, rfl, Or.inr ?_⟩; (try (conv => cbv))) | (simp only [I.val] at *; first | omega | (subst_vars; rfl) | simp_all)))) (by (try (conv => cbv)); (repeat' (first | exact trivial | rfl | exact SEq.mk rfl | (exact SEq.mk (by first | assumption | (symm; assumption))) | (simp only [I.val]; done) | (simp only [I.val]; omega) | omega | assumption | (refine And.intro ?_ ?_) | exact Or.inl rfl | exact Or.inr (by assumption) | exact List.Mem.head _ | exact List.Mem.tail _ (List.Mem.head _) | exact ⟨_, rfl⟩ | exact ⟨_, rfl, Or.inl rfl⟩ | (refine ⟨_, rfl, Or.inr ?_⟩; (try (conv => cbv))) | (simp only [I.val] at *; first | omega | (subst_vars; rfl) | simp_all))))) ⟨0, 0, [], rfl, by omega, by omega, by omega, rfl, by omega⟩ ?_
  rintro k s ⟨i, j, L, rfl, hi0, him, hj, hL, hk⟩
  conv => cbv
  refine Br.mk (fun e2 => ?_) (fun e2 => ?_)
  · simp only [I.val] at e2
    conv => cbv
    obtain ⟨⟨k1, x1, d1⟩, hea⟩ : ∃ e, A[i.toNat]? = some e := ⟨_, List.getElem?_eq_getElem (by omega)⟩
    obtain ⟨a1, a2, a3⟩ := ents_get A i.toNat _ hea
    dsimp only at a1 a2 a3
    have a1 := ha _ _ a1
    have a2 := ha _ _ a2
    have a3 := ha _ _ a3
    refine Need.mk ⟨hi0, by simp only [I.val]; omega⟩ ?_
    conv => cbv
    refine Sum.mk fun z hz => ?_
    have hz2 : z = 3 * i := by have : z = i * 3 := hz; omega
    clear hz
    conv => cbv
    refine Cell.at (z + 0) _ a1 rfl (by omega) ?_
    conv => cbv
    refine Cell.at (z + 1) _ a2 rfl (by omega) ?_
    conv => cbv
    refine Cell.at (z + 2) _ a3 rfl (by omega) ?_
    conv => cbv
    refine callF_val (bytesOf_lx k1 x1 d1) (by simp [ales, ale, renVs, renV, pvle, I.val]) rfl (fun r ⟨f, s, hr, _⟩ => by subst hr; rfl) (fun r ⟨f, g, hr, hf, hg⟩ => ?_)
    subst hr
    conv => cbv
    refine Need.mk rfl ?_
    conv => cbv
    have hl1 : L.length = 2 * i.toNat := by rw [hL, u8s_length, bytesE_length, List.length_take]; omega
    refine Room.new ⟨by show (L.length : Int) = j * 1; omega, by show (j + 2) * 1 ≤ 140737488355328; omega, by show j + 2 ≤ 9223372036854775807; omega⟩ ?_
    conv => cbv
    refine Upd.mk fun L2 hL2 => ?_
    conv => cbv
    refine Sum.mk fun j2 hj2 => ?_
    have hj2 : j2 = j + 2 := hj2
    obtain ⟨k', rfl⟩ : ∃ k', k = k' + 1 := ⟨k - 1, by omega⟩
    conv => cbv
    refine Fit.mk (by show (-9223372036854775808 : Int) ≤ i + 1; omega) (by show i + 1 ≤ 9223372036854775807; omega) ?_
    intro i2 hi2
    have hi2 : i2 = i + 1 := hi2
    conv => cbv
    refine Again.mk k' _ (Nat.lt_succ_self _) (Re.of [(3, 0)] [] (by first | exact Nat.zero_le _ | exact Nat.le_refl _ | decide) rfl rfl (by (try (conv => cbv)); (repeat' (first | exact trivial | rfl | exact SEq.mk rfl | (exact SEq.mk (by first | assumption | (symm; assumption))) | (simp only [I.val]; done) | (simp only [I.val]; omega) | omega | assumption | (refine And.intro ?_ ?_) | exact Or.inl rfl | exact Or.inr (by assumption) | exact List.Mem.head _ | exact List.Mem.tail _ (List.Mem.head _) | exact ⟨_, rfl⟩ | exact ⟨_, rfl, Or.inl rfl⟩ | (refine ⟨_, rfl, Or.inr ?_⟩; (try (conv => cbv))) | (simp only [I.val] at *; first | omega | (subst_vars; rfl) | simp_all)))) (by (try (conv => cbv)); (repeat' (first | exact trivial | rfl | exact SEq.mk rfl | (exact SEq.mk (by first | assumption | (symm; assumption))) | (simp only [I.val]; done) | (simp only [I.val]; omega) | omega | assumption | (refine And.intro ?_ ?_) | exact Or.inl rfl | exact Or.inr (by assumption) | exact List.Mem.head _ | exact List.Mem.tail _ (List.Mem.head _) | exact ⟨_, rfl⟩ | exact ⟨_, rfl, Or.inl rfl⟩ | (refine ⟨_, rfl, Or.inr ?_⟩; (try (conv => cbv))) | (simp only [I.val] at *; first | omega | (subst_vars; rfl) | simp_all))))) ⟨i2, j2, L2, rfl, by omega, by omega, by omega, ?_, by omega⟩
    rw [hL2, hL, show i2.toNat = i.toNat + 1 by omega, List.take_add_one, hea, bytesE_append, u8s_app, hf, hg]
    rfl
  · simp only [I.val] at e2
    conv => cbv
    have hEnd : L = u8s (bytesE A) := by rw [hL, show i.toNat = A.length by omega, List.take_length]
    have hbl := bytesE_length A
    have hb8 := bytesE_8 A
    refine callF_lend (entries_own (bytesE A) j L (by omega) hEnd hb8 (by omega)) (by simp [lends, lendV, hget, I.val]) (fun r h' n' ⟨k2, l2, e1, e2, e3, _, hl2⟩ => by subst e1 e2 e3; exact ⟨trivial, by simp only [flatB, hl2]; exact ents_flat _, trivial⟩) (fun r h' n' ⟨k2, l2, e1, e2, e3, hk2, hl2⟩ => ?_)
    subst e1 e2 e3
    conv => cbv
    refine callF_lend (equalEnt_lx (Es 400 (bytesE A)) A k2 m l2 la hk2 hm (pre_of hl2) ha (by have := Es_le 400 (bytesE A); omega)) (by simp [lends, lendV, hget, I.val, pvle]) (fun r h' n' ⟨⟨b, e1, _⟩, e2, e3⟩ => by subst e1 e2; exact ⟨trivial, trivial⟩) (fun r h' n' ⟨⟨b, e1, hb⟩, e2, e3⟩ => ?_)
    subst e1 e2 e3
    cases b with
    | true =>
      conv => cbv
      refine RetF.mk [.sl 0 5 1 (.lit 0) (.sym j), .p (.int .i64 (.sym 0))] [(0, .pure true L)] 1 (Re.of [(0, 0)] [] (by first | exact Nat.zero_le _ | exact Nat.le_refl _ | decide) rfl rfl (by (try (conv => cbv)); (repeat' (first | exact trivial | rfl | exact SEq.mk rfl | (exact SEq.mk (by first | assumption | (symm; assumption))) | (simp only [I.val]; done) | (simp only [I.val]; omega) | omega | assumption | (refine And.intro ?_ ?_) | exact Or.inl rfl | exact Or.inr (by assumption) | exact List.Mem.head _ | exact List.Mem.tail _ (List.Mem.head _) | exact ⟨_, rfl⟩ | exact ⟨_, rfl, Or.inl rfl⟩ | (refine ⟨_, rfl, Or.inr ?_⟩; (try (conv => cbv))) | (simp only [I.val] at *; first | omega | (subst_vars; rfl) | simp_all)))) (by (try (conv => cbv)); (repeat' (first | exact trivial | rfl | exact SEq.mk rfl | (exact SEq.mk (by first | assumption | (symm; assumption))) | (simp only [I.val]; done) | (simp only [I.val]; omega) | omega | assumption | (refine And.intro ?_ ?_) | exact Or.inl rfl | exact Or.inr (by assumption) | exact List.Mem.head _ | exact List.Mem.tail _ (List.Mem.head _) | exact ⟨_, rfl⟩ | exact ⟨_, rfl, Or.inl rfl⟩ | (refine ⟨_, rfl, Or.inr ?_⟩; (try (conv => cbv))) | (simp only [I.val] at *; first | omega | (subst_vars; rfl) | simp_all))))) rfl (.inl ⟨hb.1 rfl, j, L, rfl, rfl, rfl, by omega, hEnd⟩)
    | false =>
      conv => cbv
      refine RetF.mk [.p .nils, .p (.int .i64 (.sym 1))] [] 0 (Re.of [] [] (by first | exact Nat.zero_le _ | exact Nat.le_refl _ | decide) rfl rfl (by (try (conv => cbv)); (repeat' (first | exact trivial | rfl | exact SEq.mk rfl | (exact SEq.mk (by first | assumption | (symm; assumption))) | (simp only [I.val]; done) | (simp only [I.val]; omega) | omega | assumption | (refine And.intro ?_ ?_) | exact Or.inl rfl | exact Or.inr (by assumption) | exact List.Mem.head _ | exact List.Mem.tail _ (List.Mem.head _) | exact ⟨_, rfl⟩ | exact ⟨_, rfl, Or.inl rfl⟩ | (refine ⟨_, rfl, Or.inr ?_⟩; (try (conv => cbv))) | (simp only [I.val] at *; first | omega | (subst_vars; rfl) | simp_all)))) (by (try (conv => cbv)); (repeat' (first | exact trivial | rfl | exact SEq.mk rfl | (exact SEq.mk (by first | assumption | (symm; assumption))) | (simp only [I.val]; done) | (simp only [I.val]; omega) | omega | assumption | (refine And.intro ?_ ?_) | exact Or.inl rfl | exact Or.inr (by assumption) | exact List.Mem.head _ | exact List.Mem.tail _ (List.Mem.head _) | exact ⟨_, rfl⟩ | exact ⟨_, rfl, Or.inl rfl⟩ | (refine ⟨_, rfl, Or.inr ?_⟩; (try (conv => cbv))) | (simp only [I.val] at *; first | omega | (subst_vars; rfl) | simp_all))))) rfl (.inr ⟨fun h => (by have := hb.2 h; cases this), rfl, rfl, rfl⟩)
theorem bytes_lx (A : List E3) (m : Int) (la : List PV) (hm : m = A.length) (ha : Pre la A) (hA : (A.length : Int) < 400000) :
    CallF (fun _ => Try.prog) 14 [.p (.vsl (.sym m) true la)] [] 0 (fun r h n => (∃ (v : PV) (e : Int), r = .tup [.p v, .p (.int .i64 (.sym e))] ∧ (Es 400 (bytesE A) = A ∧ e = 0 ∧ v = .vsl (.sym (2 * m)) true (u8s (bytesE A)) ∨ Es 400 (bytesE A) ≠ A ∧ e = 1 ∧ v = .nils)) ∧ h = [] ∧ n = 0) := by
  refine CallF.ret (bytes_own A m la hm ha hA) fun r h n hK => ?_
  rcases hK with ⟨h1, j, L, rfl, rfl, rfl, h2, h3⟩ | ⟨h1, rfl, rfl, rfl⟩
  · refine RetF.mk [.tup [.p (.vsl (.sym j) true L), .p (.int .i64 (.sym 0))]] [] 0 (Re.of [] [] (by first | exact Nat.zero_le _ | exact Nat.le_refl _ | decide) rfl rfl (by (try (conv => cbv)); (repeat' (first | exact trivial | rfl | exact SEq.mk rfl | (exact SEq.mk (by first | assumption | (symm; assumption))) | (simp only [I.val]; done) | (simp only [I.val]; omega) | omega | assumption | (refine And.intro ?_ ?_) | exact Or.inl rfl | exact Or.inr (by assumption) | exact List.Mem.head _ | exact List.Mem.tail _ (List.Mem.head _) | exact ⟨_, rfl⟩ | exact ⟨_, rfl, Or.inl rfl⟩ | (refine ⟨_, rfl, Or.inr ?_⟩; (try (conv => cbv))) | (simp only [I.val] at *; first | omega | (subst_vars; rfl) | simp_all)))) (by (try (conv => cbv)); (repeat' (first | exact trivial | rfl | exact SEq.mk rfl | (exact SEq.mk (by first | assumption | (symm; assumption))) | (simp only [I.val]; done) | (simp only [I.val]; omega) | omega | assumption | (refine And.intro ?_ ?_) | exact Or.inl rfl | exact Or.inr (by assumption) | exact List.Mem.head _ | exact List.Mem.tail _ (List.Mem.head _) | exact ⟨_, rfl⟩ | exact ⟨_, rfl, Or.inl rfl⟩ | (refine ⟨_, rfl, Or.inr ?_⟩; (try (conv => cbv))) | (simp only [I.val] at *; first | omega | (subst_vars; rfl) | simp_all))))) rfl ⟨⟨.vsl (.sym j) true L, 0, rfl, .inl ⟨h1, rfl, by rw [h3, h2]⟩⟩, rfl, rfl⟩
  · refine RetF.mk [.tup [.p .nils, .p (.int .i64 (.sym 1))]] [] 0 (Re.of [] [] (by first | exact Nat.zero_le _ | exact Nat.le_refl _ | decide) rfl rfl (by (try (conv => cbv)); (repeat' (first | exact trivial | rfl | exact SEq.mk rfl | (exact SEq.mk (by first | assumption | (symm; assumption))) | (simp only [I.val]; done) | (simp only [I.val]; omega) | omega | assumption | (refine And.intro ?_ ?_) | exact Or.inl rfl | exact Or.inr (by assumption) | exact List.Mem.head _ | exact List.Mem.tail _ (List.Mem.head _) | exact ⟨_, rfl⟩ | exact ⟨_, rfl, Or.inl rfl⟩ | (refine ⟨_, rfl, Or.inr ?_⟩; (try (conv => cbv))) | (simp only [I.val] at *; first | omega | (subst_vars; rfl) | simp_all)))) (by (try (conv => cbv)); (repeat' (first | exact trivial | rfl | exact SEq.mk rfl | (exact SEq.mk (by first | assumption | (symm; assumption))) | (simp only [I.val]; done) | (simp only [I.val]; omega) | omega | assumption | (refine And.intro ?_ ?_) | exact Or.inl rfl | exact Or.inr (by assumption) | exact List.Mem.head _ | exact List.Mem.tail _ (List.Mem.head _) | exact ⟨_, rfl⟩ | exact ⟨_, rfl, Or.inl rfl⟩ | (refine ⟨_, rfl, Or.inr ?_⟩; (try (conv => cbv))) | (simp only [I.val] at *; first | omega | (subst_vars; rfl) | simp_all))))) rfl ⟨⟨.nils, 1, rfl, .inr ⟨h1, rfl, rfl⟩⟩, rfl, rfl⟩
end Go.Proofs.Ytongaoioaafjnaa
