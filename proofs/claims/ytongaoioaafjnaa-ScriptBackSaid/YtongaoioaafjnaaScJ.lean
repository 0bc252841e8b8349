/-
  Law 27, ScriptJoins.
-/
import Derived.Test.YtongaoioaafjnaaScL
namespace Go.Proofs.Ytongaoioaafjnaa
open Go Go.LX
set_option maxRecDepth 100000
set_option linter.unusedVariables false

def Ef : List Int → List E3
  | [] => []
  | [p] => [ent p 0]
  | p :: q :: l => ent p q :: Ef l
theorem Es_take : ∀ (n : Nat) (l : List Int), Es n l = (Ef l).take n
  | 0, l => by simp [Es]
  | n + 1, [] => by simp [Es, Ef]
  | n + 1, [p] => by simp [Es, Ef]
  | n + 1, p :: q :: l => by simp [Es, Ef, Es_take n l]
theorem Ef_append : ∀ (t : Nat) (a b : List Int), a.length = 2 * t → Ef (a ++ b) = Ef a ++ Ef b
  | 0, a, b, h => by
    have : a = [] := List.eq_nil_of_length_eq_zero (by omega)
    subst this; simp [Ef]
  | t + 1, [], b, h => by simp at h
  | t + 1, [p], b, h => by simp at h; omega
  | t + 1, p :: q :: a, b, h => by
    simp only [List.cons_append, Ef, Ef_append t a b (by simp at h; omega)]
theorem take_take_append (X Y : List E3) (n : Nat) : (X.take n ++ Y.take n).take n = (X ++ Y).take n := by
  rw [List.take_append, List.take_append, List.take_take, List.take_take, Nat.min_self]
  congr 1
  rcases Nat.le_total n X.length with h | h
  · have h1 : n - X.length = 0 := by omega
    have h2 : n - (X.take n).length = 0 := by rw [List.length_take]; omega
    rw [h1, h2]; simp
  · have h2 : (X.take n).length = X.length := by rw [List.length_take]; omega
    rw [h2]; congr 1; omega
theorem joins (a b : List Int) (t : Nat) (h : a.length = 2 * t) : Es 400 (a ++ b) = (Es 400 a ++ Es 400 b).take 400 := by
  rw [Es_take, Es_take, Es_take, take_take_append, Ef_append t a b h]
theorem u8s_append : ∀ a b, u8s (a ++ b) = u8s a ++ u8s b
  | [], b => rfl
  | x :: a, b => by simp [u8s, u8s_append a b]
theorem u8s_take : ∀ (n : Nat) (l : List Int), u8s (l.take n) = (u8s l).take n
  | 0, l => rfl
  | n + 1, [] => rfl
  | n + 1, x :: l => by simp [u8s, u8s_take n l]

theorem pre_take (W : List E3) (n : Nat) : Pre (ents W) (W.take n) := by
  intro j u hu
  have h : ents W = ents (W.take n) ++ ents (W.drop n) := by rw [← ents_append, List.take_append_drop]
  rw [h, List.getElem?_append_left (List.getElem?_eq_some_iff.1 hu).1]
  exact hu
theorem Es_le (n : Nat) (l : List Int) : (Es n l).length ≤ n := by rw [Es_take, List.length_take]; omega
set_option maxHeartbeats 2000000 in
theorem scriptJoins_lx (xs ys : List Int) (m n : Int) (la lb : List PV) (hm : m = xs.length) (hn : n = ys.length) (ha : la = u8s xs) (hb : lb = u8s ys) (ha8 : ∀ x ∈ xs, 0 ≤ x ∧ x < 256) (hb8 : ∀ x ∈ ys, 0 ≤ x ∧ x < 256) :
    CallF (fun _ => Try.prog) 8 [.p (.vsl (.sym m) true la), .p (.vsl (.sym n) true lb)] [] 0 (fun r _ _ => r = .p (.bool true)) := by
  refine callF_of_body tok Try.func8 (by kernel_rfl) rfl rfl rfl ?_; conv => cbv
  refine Br.mk (fun e1 => ?_) (fun e1 => ?_)
  · conv => cbv
    refine callF_val awake27_lx (by simp [ales, renVs]) rfl (fun r hr => by subst hr; rfl) (fun r hr => ?_)
    subst hr
    conv => cbv
    refine RetF.mk [.p (.bool true)] [] 0 (Re.of [] [] (by first | exact Nat.zero_le _ | exact Nat.le_refl _ | decide) rfl rfl (by (try (conv => cbv)); (repeat' (first | exact trivial | rfl | exact SEq.mk rfl | (exact SEq.mk (by first | assumption | (symm; assumption))) | (simp only [I.val]; done) | (simp only [I.val]; omega) | omega | assumption | (refine And.intro ?_ ?_) | exact Or.inl rfl | exact Or.inr (by assumption) | exact List.Mem.head _ | exact List.Mem.tail _ (List.Mem.head _) | exact ⟨_, rfl⟩ | exact ⟨_, rfl, Or.inl rfl⟩ | (refine ⟨_, rfl, Or.inr ?_⟩; (try (conv => cbv))) | (simp only [I.val] at *; first | omega | (subst_vars; rfl) | simp_all)))) (by (try (conv => cbv)); (repeat' (first | exact trivial | rfl | exact SEq.mk rfl | (exact SEq.mk (by first | assumption | (symm; assumption))) | (simp only [I.val]; done) | (simp only [I.val]; omega) | omega | assumption | (refine And.intro ?_ ?_) | exact Or.inl rfl | exact Or.inr (by assumption) | exact List.Mem.head _ | exact List.Mem.tail _ (List.Mem.head _) | exact ⟨_, rfl⟩ | exact ⟨_, rfl, Or.inl rfl⟩ | (refine ⟨_, rfl, Or.inr ?_⟩; (try (conv => cbv))) | (simp only [I.val] at *; first | omega | (subst_vars; rfl) | simp_all))))) rfl rfl
  · simp only [I.val] at e1
    conv => cbv
    refine Br.mk (fun e2 => ?_) (fun e2 => ?_)
    · conv => cbv
      refine callF_val awake27_lx (by simp [ales, renVs]) rfl (fun r hr => by subst hr; rfl) (fun r hr => ?_)
      subst hr
      conv => cbv
      refine RetF.mk [.p (.bool true)] [] 0 (Re.of [] [] (by first | exact Nat.zero_le _ | exact Nat.le_refl _ | decide) rfl rfl (by (try (conv => cbv)); (repeat' (first | exact trivial | rfl | exact SEq.mk rfl | (exact SEq.mk (by first | assumption | (symm; assumption))) | (simp only [I.val]; done) | (simp only [I.val]; omega) | omega | assumption | (refine And.intro ?_ ?_) | exact Or.inl rfl | exact Or.inr (by assumption) | exact List.Mem.head _ | exact List.Mem.tail _ (List.Mem.head _) | exact ⟨_, rfl⟩ | exact ⟨_, rfl, Or.inl rfl⟩ | (refine ⟨_, rfl, Or.inr ?_⟩; (try (conv => cbv))) | (simp only [I.val] at *; first | omega | (subst_vars; rfl) | simp_all)))) (by (try (conv => cbv)); (repeat' (first | exact trivial | rfl | exact SEq.mk rfl | (exact SEq.mk (by first | assumption | (symm; assumption))) | (simp only [I.val]; done) | (simp only [I.val]; omega) | omega | assumption | (refine And.intro ?_ ?_) | exact Or.inl rfl | exact Or.inr (by assumption) | exact List.Mem.head _ | exact List.Mem.tail _ (List.Mem.head _) | exact ⟨_, rfl⟩ | exact ⟨_, rfl, Or.inl rfl⟩ | (refine ⟨_, rfl, Or.inr ?_⟩; (try (conv => cbv))) | (simp only [I.val] at *; first | omega | (subst_vars; rfl) | simp_all))))) rfl rfl
    · simp only [I.val] at e2
      conv => cbv
      have hq : m.tdiv 2 = m / 2 := Int.tdiv_eq_ediv_of_nonneg (by omega)
      refine Fit.mk (by show (-9223372036854775808 : Int) ≤ m.tdiv 2; omega) (by show m.tdiv 2 ≤ 9223372036854775807; omega) ?_
      intro q hq2
      have hq2 : q = m / 2 := hq2.trans hq
      conv => cbv
      refine Fit.mk (by show (-9223372036854775808 : Int) ≤ q * 2; omega) (by show q * 2 ≤ 9223372036854775807; omega) ?_
      intro k hk
      have hk : k = q * 2 := hk
      conv => cbv
      refine Need.mk ⟨by simp only [I.val]; omega, by simp only [I.val]; omega, by simp only [I.val]; omega⟩ ?_
      conv => cbv
      refine Upd.mk fun L1 hL1 => ?_
      conv => cbv
      refine Sum.mk fun k1 hk1 => ?_
      have hk1 : k1 = k := by have : k1 = k - 0 := hk1; omega
      subst hk1
      have hL1 : L1 = u8s (xs.take k1.toNat) := by rw [hL1, u8s_take, ← ha]; simp [I.val]
      have hlen1 : L1.length = k1.toNat := by rw [hL1, u8s_length, List.length_take]; omega
      conv => cbv
      refine Need.mk (by show (L1.length : Int) = k1 * 1; omega) ?_
      conv => cbv
      refine Need.mk ⟨by show k1 * 1 ≤ 140737488355328; omega, by show k1 ≤ 9223372036854775807; omega⟩ ?_
      conv => cbv
      refine Need.mk (by show (lb.length : Int) = n * 1; rw [hb, u8s_length]; omega) ?_
      conv => cbv
      refine Room.new ⟨by show (L1.length : Int) = k1 * 1; omega, by show (k1 + n) * 1 ≤ 140737488355328; omega, by show k1 + n ≤ 9223372036854775807; omega⟩ ?_
      conv => cbv
      refine Upd.mk fun L2 hL2 => ?_
      have hL2 : L2 = u8s (xs.take k1.toNat ++ ys) := by rw [hL2, u8s_append, hL1, hb]
      conv => cbv
      refine Sum.mk fun k2 hk2 => ?_
      have hk2 : k2 = k1 + n := hk2
      conv => cbv
      have c8 : ∀ x ∈ xs.take k1.toNat ++ ys, 0 ≤ x ∧ x < 256 := by
        intro x hx
        rcases List.mem_append.1 hx with h | h
        · exact ha8 x (List.mem_of_mem_take h)
        · exact hb8 x h
      refine callF_go (entries_lx (xs.take k1.toNat ++ ys) k2 L2 (by rw [hk2, List.length_append, List.length_take]; omega) hL2 c8 (by rw [List.length_append, List.length_take]; omega)) [] (Re.of [] [] (by first | exact Nat.zero_le _ | exact Nat.le_refl _ | decide) rfl rfl (by (try (conv => cbv)); (repeat' (first | exact trivial | rfl | exact SEq.mk rfl | (exact SEq.mk (by first | assumption | (symm; assumption))) | (simp only [I.val]; done) | (simp only [I.val]; omega) | omega | assumption | (refine And.intro ?_ ?_) | exact Or.inl rfl | exact Or.inr (by assumption) | exact List.Mem.head _ | exact List.Mem.tail _ (List.Mem.head _) | exact ⟨_, rfl⟩ | exact ⟨_, rfl, Or.inl rfl⟩ | (refine ⟨_, rfl, Or.inr ?_⟩; (try (conv => cbv))) | (simp only [I.val] at *; first | omega | (subst_vars; rfl) | simp_all)))) (by (try (conv => cbv)); (repeat' (first | exact trivial | rfl | exact SEq.mk rfl | (exact SEq.mk (by first | assumption | (symm; assumption))) | (simp only [I.val]; done) | (simp only [I.val]; omega) | omega | assumption | (refine And.intro ?_ ?_) | exact Or.inl rfl | exact Or.inr (by assumption) | exact List.Mem.head _ | exact List.Mem.tail _ (List.Mem.head _) | exact ⟨_, rfl⟩ | exact ⟨_, rfl, Or.inl rfl⟩ | (refine ⟨_, rfl, Or.inr ?_⟩; (try (conv => cbv))) | (simp only [I.val] at *; first | omega | (subst_vars; rfl) | simp_all))))) rfl rfl (fun r ⟨k, l, hr, _⟩ => by subst hr; rfl) (fun r ⟨kx, lx, hr, hkx, hlx⟩ => ?_)
      subst hr
      conv => cbv
      refine Need.mk ⟨by simp only [I.val]; omega, by simp only [I.val]; omega, by simp only [I.val]; omega⟩ ?_
      conv => cbv
      refine Upd.mk fun L3 hL3 => ?_
      conv => cbv
      refine Sum.mk fun k3 hk3 => ?_
      have hk3 : k3 = k1 := by have : k3 = k1 - 0 := hk3; omega
      subst hk3
      have hL3 : L3 = u8s (xs.take k3.toNat) := by rw [hL3, u8s_take, ← ha]; simp [I.val]
      conv => cbv
      refine callF_frame (entries_own (xs.take k3.toNat) k3 L3 (by rw [List.length_take]; omega) hL3 (fun x hx => ha8 x (List.mem_of_mem_take hx)) (by rw [List.length_take]; omega)) [] rfl trivial rfl rfl ?_
      rintro r h n' ⟨ky, ly, rfl, rfl, rfl, hky, hly⟩
      conv => cbv
      refine callF_val (entries_lx ys n lb hn hb hb8 (by omega)) (by simp [ales, ale, renVs, renV, pvle, I.val]) rfl (fun r ⟨k, l, hr, _⟩ => by subst hr; rfl) (fun r ⟨kz, lz, hr, hkz, hlz⟩ => ?_)
      subst hr
      conv => cbv
      have by_ := Es_le 400 (xs.take k3.toNat)
      have bz := Es_le 400 ys
      have hj := joins (xs.take k3.toNat) ys q.toNat (by rw [List.length_take]; omega)
      generalize Es 400 (xs.take k3.toNat ++ ys) = X at hkx hlx hj
      generalize Es 400 (xs.take k3.toNat) = Y at hky hly hj by_
      generalize Es 400 ys = Z at hkz hlz hj bz
      refine Need.mk (by show (lz.length : Int) = kz * 3; rw [hlz, ents_length]; omega) ?_
      conv => cbv
      refine Room.new ⟨by show (ly.length : Int) = ky * 3; rw [hly, ents_length]; omega, by show (ky + kz) * 24 ≤ 140737488355328; omega, by show ky + kz ≤ 9223372036854775807; omega⟩ ?_
      conv => cbv
      refine Upd.mk fun L5 hL5 => ?_
      have hL5 : L5 = ents (Y ++ Z) := by rw [hL5, hly, hlz, ents_append]
      conv => cbv
      refine Sum.mk fun k5 hk5 => ?_
      have hk5 : k5 = ky + kz := hk5
      conv => cbv
      refine callF_val awake27_lx (by simp [ales, renVs]) rfl (fun r hr => by subst hr; rfl) (fun r hr => ?_)
      subst hr
      conv => cbv
      have hXl : X.length = min (Y.length + Z.length) 400 := by rw [hj, List.length_take, List.length_append]; omega
      have f1 : 400 < k5 → kx = 400 := fun h => by omega
      have f2 : ¬ 400 < k5 → kx = k5 := fun h => by omega
      have f3 : 0 ≤ kx ∧ kx ≤ k5 := by omega
      have hpre : Pre L5 X := by rw [hL5, hj]; exact pre_take _ _
      have hX : (X.length : Int) < 1000000 := by omega
      clear hXl
      refine Br.mk (fun e3 => ?_) (fun e3 => ?_)
      · simp only [I.val] at e3
        conv => cbv
        refine Br.mk (fun e4 => ?_) (fun e4 => (e4 (f1 e3)).elim)
        conv => cbv
        refine Br.mk (fun e5 => ?_) (fun e5 => ?_)
        · simp only [I.val] at e5
          conv => cbv
          refine Need.mk ⟨by simp only [I.val]; omega, by simp only [I.val]; omega⟩ ?_
          conv => cbv
          refine callF_go (plainEnt_lx X X kx kx lx L5 hkx hkx hlx hpre hX) [] (Re.of [] [] (by first | exact Nat.zero_le _ | exact Nat.le_refl _ | decide) rfl rfl (by (try (conv => cbv)); (repeat' (first | exact trivial | rfl | exact SEq.mk rfl | (exact SEq.mk (by first | assumption | (symm; assumption))) | (simp only [I.val]; done) | (simp only [I.val]; omega) | omega | assumption | (refine And.intro ?_ ?_) | exact Or.inl rfl | exact Or.inr (by assumption) | exact List.Mem.head _ | exact List.Mem.tail _ (List.Mem.head _) | exact ⟨_, rfl⟩ | exact ⟨_, rfl, Or.inl rfl⟩ | (refine ⟨_, rfl, Or.inr ?_⟩; (try (conv => cbv))) | (simp only [I.val] at *; first | omega | (subst_vars; rfl) | simp_all)))) (by (try (conv => cbv)); (repeat' (first | exact trivial | rfl | exact SEq.mk rfl | (exact SEq.mk (by first | assumption | (symm; assumption))) | (simp only [I.val]; done) | (simp only [I.val]; omega) | omega | assumption | (refine And.intro ?_ ?_) | exact Or.inl rfl | exact Or.inr (by assumption) | exact List.Mem.head _ | exact List.Mem.tail _ (List.Mem.head _) | exact ⟨_, rfl⟩ | exact ⟨_, rfl, Or.inl rfl⟩ | (refine ⟨_, rfl, Or.inr ?_⟩; (try (conv => cbv))) | (simp only [I.val] at *; first | omega | (subst_vars; rfl) | simp_all))))) rfl rfl (fun r ⟨b, hr, _⟩ => by subst hr; rfl) (fun r ⟨b, hr, hb⟩ => ?_)
          have hb : b = true := hb.2 rfl
          subst hb hr
          conv => cbv
          refine RetF.mk [.p (.bool true)] [] 0 (Re.of [] [] (by first | exact Nat.zero_le _ | exact Nat.le_refl _ | decide) rfl rfl (by (try (conv => cbv)); (repeat' (first | exact trivial | rfl | exact SEq.mk rfl | (exact SEq.mk (by first | assumption | (symm; assumption))) | (simp only [I.val]; done) | (simp only [I.val]; omega) | omega | assumption | (refine And.intro ?_ ?_) | exact Or.inl rfl | exact Or.inr (by assumption) | exact List.Mem.head _ | exact List.Mem.tail _ (List.Mem.head _) | exact ⟨_, rfl⟩ | exact ⟨_, rfl, Or.inl rfl⟩ | (refine ⟨_, rfl, Or.inr ?_⟩; (try (conv => cbv))) | (simp only [I.val] at *; first | omega | (subst_vars; rfl) | simp_all)))) (by (try (conv => cbv)); (repeat' (first | exact trivial | rfl | exact SEq.mk rfl | (exact SEq.mk (by first | assumption | (symm; assumption))) | (simp only [I.val]; done) | (simp only [I.val]; omega) | omega | assumption | (refine And.intro ?_ ?_) | exact Or.inl rfl | exact Or.inr (by assumption) | exact List.Mem.head _ | exact List.Mem.tail _ (List.Mem.head _) | exact ⟨_, rfl⟩ | exact ⟨_, rfl, Or.inl rfl⟩ | (refine ⟨_, rfl, Or.inr ?_⟩; (try (conv => cbv))) | (simp only [I.val] at *; first | omega | (subst_vars; rfl) | simp_all))))) rfl rfl
        · simp only [I.val] at e5
          conv => cbv
          refine Need.mk ⟨by simp only [I.val]; omega, by simp only [I.val]; omega⟩ ?_
          conv => cbv
          refine callF_go (plainEnt_lx X X kx k5 lx L5 hkx (by omega) hlx hpre hX) [] (Re.of [] [] (by first | exact Nat.zero_le _ | exact Nat.le_refl _ | decide) rfl rfl (by (try (conv => cbv)); (repeat' (first | exact trivial | rfl | exact SEq.mk rfl | (exact SEq.mk (by first | assumption | (symm; assumption))) | (simp only [I.val]; done) | (simp only [I.val]; omega) | omega | assumption | (refine And.intro ?_ ?_) | exact Or.inl rfl | exact Or.inr (by assumption) | exact List.Mem.head _ | exact List.Mem.tail _ (List.Mem.head _) | exact ⟨_, rfl⟩ | exact ⟨_, rfl, Or.inl rfl⟩ | (refine ⟨_, rfl, Or.inr ?_⟩; (try (conv => cbv))) | (simp only [I.val] at *; first | omega | (subst_vars; rfl) | simp_all)))) (by (try (conv => cbv)); (repeat' (first | exact trivial | rfl | exact SEq.mk rfl | (exact SEq.mk (by first | assumption | (symm; assumption))) | (simp only [I.val]; done) | (simp only [I.val]; omega) | omega | assumption | (refine And.intro ?_ ?_) | exact Or.inl rfl | exact Or.inr (by assumption) | exact List.Mem.head _ | exact List.Mem.tail _ (List.Mem.head _) | exact ⟨_, rfl⟩ | exact ⟨_, rfl, Or.inl rfl⟩ | (refine ⟨_, rfl, Or.inr ?_⟩; (try (conv => cbv))) | (simp only [I.val] at *; first | omega | (subst_vars; rfl) | simp_all))))) rfl rfl (fun r ⟨b, hr, _⟩ => by subst hr; rfl) (fun r ⟨b, hr, hb⟩ => ?_)
          have hb : b = true := hb.2 rfl
          subst hb hr
          conv => cbv
          refine RetF.mk [.p (.bool true)] [] 0 (Re.of [] [] (by first | exact Nat.zero_le _ | exact Nat.le_refl _ | decide) rfl rfl (by (try (conv => cbv)); (repeat' (first | exact trivial | rfl | exact SEq.mk rfl | (exact SEq.mk (by first | assumption | (symm; assumption))) | (simp only [I.val]; done) | (simp only [I.val]; omega) | omega | assumption | (refine And.intro ?_ ?_) | exact Or.inl rfl | exact Or.inr (by assumption) | exact List.Mem.head _ | exact List.Mem.tail _ (List.Mem.head _) | exact ⟨_, rfl⟩ | exact ⟨_, rfl, Or.inl rfl⟩ | (refine ⟨_, rfl, Or.inr ?_⟩; (try (conv => cbv))) | (simp only [I.val] at *; first | omega | (subst_vars; rfl) | simp_all)))) (by (try (conv => cbv)); (repeat' (first | exact trivial | rfl | exact SEq.mk rfl | (exact SEq.mk (by first | assumption | (symm; assumption))) | (simp only [I.val]; done) | (simp only [I.val]; omega) | omega | assumption | (refine And.intro ?_ ?_) | exact Or.inl rfl | exact Or.inr (by assumption) | exact List.Mem.head _ | exact List.Mem.tail _ (List.Mem.head _) | exact ⟨_, rfl⟩ | exact ⟨_, rfl, Or.inl rfl⟩ | (refine ⟨_, rfl, Or.inr ?_⟩; (try (conv => cbv))) | (simp only [I.val] at *; first | omega | (subst_vars; rfl) | simp_all))))) rfl rfl
      · simp only [I.val] at e3
        conv => cbv
        refine Br.mk (fun e4 => ?_) (fun e4 => (e4 (f2 e3)).elim)
        conv => cbv
        refine Br.mk (fun e5 => ?_) (fun e5 => ?_)
        · simp only [I.val] at e5
          conv => cbv
          refine Need.mk ⟨by simp only [I.val]; omega, by simp only [I.val]; omega⟩ ?_
          conv => cbv
          refine callF_go (plainEnt_lx X X kx kx lx L5 hkx hkx hlx hpre hX) [] (Re.of [] [] (by first | exact Nat.zero_le _ | exact Nat.le_refl _ | decide) rfl rfl (by (try (conv => cbv)); (repeat' (first | exact trivial | rfl | exact SEq.mk rfl | (exact SEq.mk (by first | assumption | (symm; assumption))) | (simp only [I.val]; done) | (simp only [I.val]; omega) | omega | assumption | (refine And.intro ?_ ?_) | exact Or.inl rfl | exact Or.inr (by assumption) | exact List.Mem.head _ | exact List.Mem.tail _ (List.Mem.head _) | exact ⟨_, rfl⟩ | exact ⟨_, rfl, Or.inl rfl⟩ | (refine ⟨_, rfl, Or.inr ?_⟩; (try (conv => cbv))) | (simp only [I.val] at *; first | omega | (subst_vars; rfl) | simp_all)))) (by (try (conv => cbv)); (repeat' (first | exact trivial | rfl | exact SEq.mk rfl | (exact SEq.mk (by first | assumption | (symm; assumption))) | (simp only [I.val]; done) | (simp only [I.val]; omega) | omega | assumption | (refine And.intro ?_ ?_) | exact Or.inl rfl | exact Or.inr (by assumption) | exact List.Mem.head _ | exact List.Mem.tail _ (List.Mem.head _) | exact ⟨_, rfl⟩ | exact ⟨_, rfl, Or.inl rfl⟩ | (refine ⟨_, rfl, Or.inr ?_⟩; (try (conv => cbv))) | (simp only [I.val] at *; first | omega | (subst_vars; rfl) | simp_all))))) rfl rfl (fun r ⟨b, hr, _⟩ => by subst hr; rfl) (fun r ⟨b, hr, hb⟩ => ?_)
          have hb : b = true := hb.2 rfl
          subst hb hr
          conv => cbv
          refine RetF.mk [.p (.bool true)] [] 0 (Re.of [] [] (by first | exact Nat.zero_le _ | exact Nat.le_refl _ | decide) rfl rfl (by (try (conv => cbv)); (repeat' (first | exact trivial | rfl | exact SEq.mk rfl | (exact SEq.mk (by first | assumption | (symm; assumption))) | (simp only [I.val]; done) | (simp only [I.val]; omega) | omega | assumption | (refine And.intro ?_ ?_) | exact Or.inl rfl | exact Or.inr (by assumption) | exact List.Mem.head _ | exact List.Mem.tail _ (List.Mem.head _) | exact ⟨_, rfl⟩ | exact ⟨_, rfl, Or.inl rfl⟩ | (refine ⟨_, rfl, Or.inr ?_⟩; (try (conv => cbv))) | (simp only [I.val] at *; first | omega | (subst_vars; rfl) | simp_all)))) (by (try (conv => cbv)); (repeat' (first | exact trivial | rfl | exact SEq.mk rfl | (exact SEq.mk (by first | assumption | (symm; assumption))) | (simp only [I.val]; done) | (simp only [I.val]; omega) | omega | assumption | (refine And.intro ?_ ?_) | exact Or.inl rfl | exact Or.inr (by assumption) | exact List.Mem.head _ | exact List.Mem.tail _ (List.Mem.head _) | exact ⟨_, rfl⟩ | exact ⟨_, rfl, Or.inl rfl⟩ | (refine ⟨_, rfl, Or.inr ?_⟩; (try (conv => cbv))) | (simp only [I.val] at *; first | omega | (subst_vars; rfl) | simp_all))))) rfl rfl
        · simp only [I.val] at e5
          conv => cbv
          refine Need.mk ⟨by simp only [I.val]; omega, by simp only [I.val]; omega⟩ ?_
          conv => cbv
          refine callF_go (plainEnt_lx X X kx k5 lx L5 hkx (by omega) hlx hpre hX) [] (Re.of [] [] (by first | exact Nat.zero_le _ | exact Nat.le_refl _ | decide) rfl rfl (by (try (conv => cbv)); (repeat' (first | exact trivial | rfl | exact SEq.mk rfl | (exact SEq.mk (by first | assumption | (symm; assumption))) | (simp only [I.val]; done) | (simp only [I.val]; omega) | omega | assumption | (refine And.intro ?_ ?_) | exact Or.inl rfl | exact Or.inr (by assumption) | exact List.Mem.head _ | exact List.Mem.tail _ (List.Mem.head _) | exact ⟨_, rfl⟩ | exact ⟨_, rfl, Or.inl rfl⟩ | (refine ⟨_, rfl, Or.inr ?_⟩; (try (conv => cbv))) | (simp only [I.val] at *; first | omega | (subst_vars; rfl) | simp_all)))) (by (try (conv => cbv)); (repeat' (first | exact trivial | rfl | exact SEq.mk rfl | (exact SEq.mk (by first | assumption | (symm; assumption))) | (simp only [I.val]; done) | (simp only [I.val]; omega) | omega | assumption | (refine And.intro ?_ ?_) | exact Or.inl rfl | exact Or.inr (by assumption) | exact List.Mem.head _ | exact List.Mem.tail _ (List.Mem.head _) | exact ⟨_, rfl⟩ | exact ⟨_, rfl, Or.inl rfl⟩ | (refine ⟨_, rfl, Or.inr ?_⟩; (try (conv => cbv))) | (simp only [I.val] at *; first | omega | (subst_vars; rfl) | simp_all))))) rfl rfl (fun r ⟨b, hr, _⟩ => by subst hr; rfl) (fun r ⟨b, hr, hb⟩ => ?_)
          have hb : b = true := hb.2 rfl
          subst hb hr
          conv => cbv
          refine RetF.mk [.p (.bool true)] [] 0 (Re.of [] [] (by first | exact Nat.zero_le _ | exact Nat.le_refl _ | decide) rfl rfl (by (try (conv => cbv)); (repeat' (first | exact trivial | rfl | exact SEq.mk rfl | (exact SEq.mk (by first | assumption | (symm; assumption))) | (simp only [I.val]; done) | (simp only [I.val]; omega) | omega | assumption | (refine And.intro ?_ ?_) | exact Or.inl rfl | exact Or.inr (by assumption) | exact List.Mem.head _ | exact List.Mem.tail _ (List.Mem.head _) | exact ⟨_, rfl⟩ | exact ⟨_, rfl, Or.inl rfl⟩ | (refine ⟨_, rfl, Or.inr ?_⟩; (try (conv => cbv))) | (simp only [I.val] at *; first | omega | (subst_vars; rfl) | simp_all)))) (by (try (conv => cbv)); (repeat' (first | exact trivial | rfl | exact SEq.mk rfl | (exact SEq.mk (by first | assumption | (symm; assumption))) | (simp only [I.val]; done) | (simp only [I.val]; omega) | omega | assumption | (refine And.intro ?_ ?_) | exact Or.inl rfl | exact Or.inr (by assumption) | exact List.Mem.head _ | exact List.Mem.tail _ (List.Mem.head _) | exact ⟨_, rfl⟩ | exact ⟨_, rfl, Or.inl rfl⟩ | (refine ⟨_, rfl, Or.inr ?_⟩; (try (conv => cbv))) | (simp only [I.val] at *; first | omega | (subst_vars; rfl) | simp_all))))) rfl rfl
end Go.Proofs.Ytongaoioaafjnaa
