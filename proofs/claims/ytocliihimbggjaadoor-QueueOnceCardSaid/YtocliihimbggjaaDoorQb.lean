/-
  Layer 20: what a queue tells.
-/
import Derived.Test.YtocliihimbggjaaDoorGb
import Derived.Test.YtocliihimbggjaaDoorQa
import Derived.Lib.ItoaLen
import Derived.Test.YtocliihimbggjaaDoorBw
namespace Go.Proofs.YtocliihimbggjaaDoor
open Go Go.LX
set_option maxRecDepth 100000
set_option linter.unusedVariables false

def i64 (a : Int) : Prop := -9223372036854775808 ≤ a ∧ a ≤ 9223372036854775807
theorem enc_len : ∀ (A : List Int), (∀ a ∈ A, i64 a) → (enc A).length ≤ 22 * A.length
  | [], _ => by simp [enc]
  | a :: A, h => by
    have h1 := enc_len A fun x hx => h x (List.mem_cons_of_mem _ hx)
    have ha := h a List.mem_cons_self
    have h2 := Lib.itoa_length_le a ha.1 ha.2
    rw [enc, List.length_append, List.length_cons, List.length_cons]; omega

theorem enc_at (B : List Int) (c : Int) (C : List Int) (p : Nat) (hp : p ≤ (Lib.itoa c).length) : (enc (B ++ c :: C))[(enc B).length + p]? = (Lib.itoa c ++ [32])[p]? := by
  rw [enc_append, List.getElem?_append_right (by omega), enc, Nat.add_sub_cancel_left]
  rcases Nat.lt_or_ge p (Lib.itoa c).length with h | h
  · rw [List.getElem?_append_left h, List.getElem?_append_left h]
  · have : p = (Lib.itoa c).length := by omega
    rw [List.getElem?_append_right h, List.getElem?_append_right h, this, Nat.sub_self]; rfl
theorem ext_mid (l : List UInt8) (a b : Nat) (h : a ≤ b) : (ByteArray.mk l.toArray).extract a b = ⟨((l.drop a).take (b - a)).toArray⟩ := by
  apply ByteArray.ext
  apply Array.ext'
  rw [ByteArray.data_extract, Array.toList_extract]
set_option maxHeartbeats 2000000 in
theorem all_lx (A : List Int) (z : ByteArray) (hz : z = ⟨(enc A).toArray⟩) (hA : ∀ a ∈ A, i64 a) (hl : A.length ≤ 1000) : CallF (fun _ => Tryd.prog) 27 [.ptr 0 (.lit 0)] [(0, .pure false [.str fun _ => z])] 1 (fun r h n => ∃ (k : Int) (L : List PV), r = .sl 1 3 1 (.lit 0) (.sym k) ∧ h = [(1, .pure true L), (0, .pure false [.str fun _ => z])] ∧ n = 2 ∧ L = ints A ∧ k = A.length) := by
  refine callF_of_body tok Tryd.func27 (by kernel_rfl) rfl rfl rfl ?_; conv => cbv
  have hel := enc_len A hA
  obtain ⟨N, hN⟩ : ∃ N : Int, N = (enc A).length := ⟨_, rfl⟩
  refine LoopF.mk (fun m s => ∃ (pos from_ j : Int) (L : List PV) (B C : List Int) (p : Nat), s = ⟨.ptr 0 (.lit 0) :: .undef :: .undef :: .sl 2 3 1 (.lit 0) (.sym j) :: .p (.int .i64 (.sym from_)) :: (undefs 10 ++ .ptr 1 (.lit 0) :: undefs 24), [(1, .iter (fun _ => z) (.sym pos)), (2, .pure true L), (0, .pure false [.str fun _ => z])], 3⟩ ∧
      A = B ++ C ∧ L = ints B ∧ j = B.length ∧ from_ = (enc B).length ∧ pos = from_ + p ∧ (C = [] → p = 0) ∧ (∀ c C', C = c :: C' → p ≤ (Lib.itoa c).length) ∧ m = (N - pos).toNat) N.toNat _
    (Re.of [(0, 0), (1, 1)] [2] (by first | exact Nat.zero_le _ | exact Nat.le_refl _ | decide | (dsimp only; decide)) rfl rfl (by (try (conv => cbv)); (repeat' (first | exact trivial | rfl | exact SEq.mk rfl | (exact SEq.mk (by first | assumption | (symm; assumption))) | (simp only [I.val]; done) | (simp only [I.val]; omega) | omega | assumption | (refine And.intro ?_ ?_) | exact Or.inl rfl | exact Or.inr (by assumption) | exact List.Mem.head _ | exact List.Mem.tail _ (List.Mem.head _) | exact ⟨_, rfl⟩ | exact ⟨_, rfl, Or.inl rfl⟩ | (refine ⟨_, rfl, Or.inr ?_⟩; (try (conv => cbv))) | (simp only [I.val] at *; first | omega | (subst_vars; rfl) | simp_all) | (refine Or.inr ?_; (try (conv => cbv)))))) (by (try (conv => cbv)); (repeat' (first | exact trivial | rfl | exact SEq.mk rfl | (exact SEq.mk (by first | assumption | (symm; assumption))) | (simp only [I.val]; done) | (simp only [I.val]; omega) | omega | assumption | (refine And.intro ?_ ?_) | exact Or.inl rfl | exact Or.inr (by assumption) | exact List.Mem.head _ | exact List.Mem.tail _ (List.Mem.head _) | exact ⟨_, rfl⟩ | exact ⟨_, rfl, Or.inl rfl⟩ | (refine ⟨_, rfl, Or.inr ?_⟩; (try (conv => cbv))) | (simp only [I.val] at *; first | omega | (subst_vars; rfl) | simp_all) | (refine Or.inr ?_; (try (conv => cbv))))))) ⟨0, 0, 0, [], [], A, 0, rfl, rfl, rfl, rfl, rfl, rfl, fun _ => rfl, fun _ _ _ => Nat.zero_le _, by omega⟩ ?_
  rintro m s ⟨pos, from_, j, L, B, C, p, rfl, hBC, hL, hj, hf, hp, hC0, hC, hm⟩
  have hzs : (z.size : Int) = N := by rw [hz, hN]; show ((enc A).toArray.size : Int) = _; simp
  have hlenA : (enc A).length = (enc B).length + (enc C).length := by rw [hBC, enc_append, List.length_append]
  have hBl : A.length = B.length + C.length := by rw [hBC, List.length_append]
  conv => cbv
  cases C with
  | nil =>
    have hp0 := hC0 rfl
    have he0 : (enc ([] : List Int)).length = 0 := rfl
    refine NextS.over (by show (z.size : Int) ≤ pos; omega) ?_
    conv => cbv
    refine RetF.mk [.sl 1 3 1 (.lit 0) (.sym j)] [(1, .pure true L), (0, .pure false [.str fun _ => z])] 2 (Re.of [(0, 0), (2, 1)] [] (by first | exact Nat.zero_le _ | exact Nat.le_refl _ | decide | (dsimp only; decide)) rfl rfl (by (try (conv => cbv)); (repeat' (first | exact trivial | rfl | exact SEq.mk rfl | (exact SEq.mk (by first | assumption | (symm; assumption))) | (simp only [I.val]; done) | (simp only [I.val]; omega) | omega | assumption | (refine And.intro ?_ ?_) | exact Or.inl rfl | exact Or.inr (by assumption) | exact List.Mem.head _ | exact List.Mem.tail _ (List.Mem.head _) | exact ⟨_, rfl⟩ | exact ⟨_, rfl, Or.inl rfl⟩ | (refine ⟨_, rfl, Or.inr ?_⟩; (try (conv => cbv))) | (simp only [I.val] at *; first | omega | (subst_vars; rfl) | simp_all) | (refine Or.inr ?_; (try (conv => cbv)))))) (by (try (conv => cbv)); (repeat' (first | exact trivial | rfl | exact SEq.mk rfl | (exact SEq.mk (by first | assumption | (symm; assumption))) | (simp only [I.val]; done) | (simp only [I.val]; omega) | omega | assumption | (refine And.intro ?_ ?_) | exact Or.inl rfl | exact Or.inr (by assumption) | exact List.Mem.head _ | exact List.Mem.tail _ (List.Mem.head _) | exact ⟨_, rfl⟩ | exact ⟨_, rfl, Or.inl rfl⟩ | (refine ⟨_, rfl, Or.inr ?_⟩; (try (conv => cbv))) | (simp only [I.val] at *; first | omega | (subst_vars; rfl) | simp_all) | (refine Or.inr ?_; (try (conv => cbv))))))) rfl ⟨j, L, rfl, rfl, rfl, ?_, ?_⟩
    · rw [hL, hBC, List.append_nil]
    · rw [hj, hBC, List.append_nil]
  | cons c C =>
    have hpc := hC c C rfl
    have hci : i64 c := hA c (by rw [hBC]; simp)
    have hec : (enc (c :: C)).length = (Lib.itoa c).length + 1 + (enc C).length := by rw [enc, List.length_append, List.length_cons]; omega
    obtain ⟨x, hx⟩ : ∃ x, (Lib.itoa c ++ [32])[p]? = some x := ⟨_, List.getElem?_eq_getElem (by rw [List.length_append]; simp; omega)⟩
    have hxe : (enc A)[pos.toNat]? = some x := by
      rw [← hx, ← enc_at B c C p hpc, ← hBC]; congr 1; omega
    have hd := dec_at (enc A) (enc_low A) pos.toNat x hxe
    rw [← hz] at hd
    refine NextS.more (by show pos < (z.size : Int); omega) ?_
    intro r p' hr hp'
    have hr : r = (x.toNat : Int) := by
      have : r = ((Utf8.decode z pos.toNat).1 : Int) := hr
      rw [this, hd]
    have hp' : p' = pos + 1 := by
      have : p' = pos + ((Utf8.decode z pos.toNat).2 : Int) := hp'
      rw [this, hd]; rfl
    obtain ⟨m', rfl⟩ : ∃ m', m = m' + 1 := ⟨m - 1, by omega⟩
    conv => cbv
    refine Br.mk (fun g => ?_) (fun g => ?_)
    · have g : r = 32 := g
      have hx32 : x = 32 := UInt8.toNat_inj.1 (by show x.toNat = 32; omega)
      have hpe : p = (Lib.itoa c).length := by
        rcases Nat.lt_or_ge p (Lib.itoa c).length with h | h
        · rw [List.getElem?_append_left h] at hx
          have := itoa_dig c x (List.mem_of_getElem? hx)
          have h32 : x.toNat = 32 := by rw [hx32]; rfl
          omega
        · omega
      conv => cbv
      refine Need.mk (show 0 ≤ from_ ∧ from_ ≤ pos ∧ pos ≤ (z.size : Int) by omega) ?_
      refine Str.mk fun y hy => ?_
      have hy : y = z.extract from_.toNat pos.toNat := hy
      have hyc : y = ⟨(Lib.itoa c).toArray⟩ := by
        rw [hy, hz, ext_mid _ _ _ (by omega), hBC, enc_append, show from_.toNat = (enc B).length by omega, List.drop_left, enc, show pos.toNat - (enc B).length = (Lib.itoa c).length by omega, List.take_left]
      have hil := Lib.itoa_length_le c hci.1 hci.2
      have hys : y.size = (Lib.itoa c).length := by rw [hyc]; show (Lib.itoa c).toArray.size = _; simp
      conv => cbv
      refine callF_val (atoi_lx y c (by omega) (by rw [hyc]; exact atoi_itoa c hci.1 hci.2)) (by simp [ales, ale, renVs, renV, pvle_refl]) rfl (fun r hr => by subst hr; rfl) (fun r hr => ?_)
      subst hr
      conv => cbv
      refine Room.new rfl ?_
      conv => cbv
      refine Room.new ⟨?_, ?_, ?_⟩ ?_
      · rw [hL, ints_length]; show ((B.length : Nat) : Int) = j * 1; omega
      · show (j + 1) * 8 ≤ 140737488355328; omega
      · show j + 1 ≤ 9223372036854775807; omega
      conv => cbv
      refine Upd.mk fun L2 hL2 => ?_
      have hL2 : L2 = L ++ [.int .i64 (.sym c)] := hL2
      conv => cbv
      refine Sum.mk fun j2 hj2 => ?_
      have hj2 : j2 = j + 1 := hj2
      conv => cbv
      refine Fit.mk (by show (-9223372036854775808 : Int) ≤ pos + 1; omega) (by show pos + 1 ≤ 9223372036854775807; omega) fun f2 hf2 => ?_
      have hf2 : f2 = pos + 1 := hf2
      have q1 : A = (B ++ [c]) ++ C := by rw [hBC, List.append_assoc]; rfl
      have q2 : L2 = ints (B ++ [c]) := by rw [hL2, hL, ints, ints, List.map_append]; rfl
      have q3 : j2 = ((B ++ [c]).length : Nat) := by rw [List.length_append]; show j2 = ((B.length + 1 : Nat) : Int); omega
      have q4 : f2 = ((enc (B ++ [c])).length : Nat) := by rw [enc_append, List.length_append, enc, List.length_append]; show f2 = (((enc B).length + ((Lib.itoa c).length + 1) : Nat) : Int); omega
      have q5 : p' = f2 + ((0 : Nat) : Int) := by omega
      have q6 : m' = (N - p').toNat := by omega
      conv => cbv
      refine Again.mk m' _ (Nat.lt_succ_self _) (Re.of [(0, 0), (1, 1), (4, 2)] [] (by first | exact Nat.zero_le _ | exact Nat.le_refl _ | decide | (dsimp only; decide)) rfl rfl (by (try (conv => cbv)); (repeat' (first | exact trivial | rfl | exact SEq.mk rfl | (exact SEq.mk (by first | assumption | (symm; assumption))) | (simp only [I.val]; done) | (simp only [I.val]; omega) | omega | assumption | (refine And.intro ?_ ?_) | exact Or.inl rfl | exact Or.inr (by assumption) | exact List.Mem.head _ | exact List.Mem.tail _ (List.Mem.head _) | exact ⟨_, rfl⟩ | exact ⟨_, rfl, Or.inl rfl⟩ | (refine ⟨_, rfl, Or.inr ?_⟩; (try (conv => cbv))) | (simp only [I.val] at *; first | omega | (subst_vars; rfl) | simp_all) | (refine Or.inr ?_; (try (conv => cbv)))))) (by (try (conv => cbv)); (repeat' (first | exact trivial | rfl | exact SEq.mk rfl | (exact SEq.mk (by first | assumption | (symm; assumption))) | (simp only [I.val]; done) | (simp only [I.val]; omega) | omega | assumption | (refine And.intro ?_ ?_) | exact Or.inl rfl | exact Or.inr (by assumption) | exact List.Mem.head _ | exact List.Mem.tail _ (List.Mem.head _) | exact ⟨_, rfl⟩ | exact ⟨_, rfl, Or.inl rfl⟩ | (refine ⟨_, rfl, Or.inr ?_⟩; (try (conv => cbv))) | (simp only [I.val] at *; first | omega | (subst_vars; rfl) | simp_all) | (refine Or.inr ?_; (try (conv => cbv))))))) ⟨p', f2, j2, L2, B ++ [c], C, 0, rfl, q1, q2, q3, q4, q5, fun _ => rfl, fun _ _ _ => Nat.zero_le _, q6⟩
    · have g : ¬ r = 32 := g
      have hpl : p < (Lib.itoa c).length := by
        rcases Nat.lt_or_ge p (Lib.itoa c).length with h | h
        · exact h
        · have he : p = (Lib.itoa c).length := by omega
          rw [he, List.getElem?_append_right (Nat.le_refl _), Nat.sub_self] at hx
          have hx : (32 : UInt8) = x := Option.some.inj hx
          exact absurd (by rw [hr, ← hx]; rfl) g
      conv => cbv
      refine Again.mk m' _ (Nat.lt_succ_self _) (Re.of [(0, 0), (1, 1), (2, 2)] [] (by first | exact Nat.zero_le _ | exact Nat.le_refl _ | decide | (dsimp only; decide)) rfl rfl (by (try (conv => cbv)); (repeat' (first | exact trivial | rfl | exact SEq.mk rfl | (exact SEq.mk (by first | assumption | (symm; assumption))) | (simp only [I.val]; done) | (simp only [I.val]; omega) | omega | assumption | (refine And.intro ?_ ?_) | exact Or.inl rfl | exact Or.inr (by assumption) | exact List.Mem.head _ | exact List.Mem.tail _ (List.Mem.head _) | exact ⟨_, rfl⟩ | exact ⟨_, rfl, Or.inl rfl⟩ | (refine ⟨_, rfl, Or.inr ?_⟩; (try (conv => cbv))) | (simp only [I.val] at *; first | omega | (subst_vars; rfl) | simp_all) | (refine Or.inr ?_; (try (conv => cbv)))))) (by (try (conv => cbv)); (repeat' (first | exact trivial | rfl | exact SEq.mk rfl | (exact SEq.mk (by first | assumption | (symm; assumption))) | (simp only [I.val]; done) | (simp only [I.val]; omega) | omega | assumption | (refine And.intro ?_ ?_) | exact Or.inl rfl | exact Or.inr (by assumption) | exact List.Mem.head _ | exact List.Mem.tail _ (List.Mem.head _) | exact ⟨_, rfl⟩ | exact ⟨_, rfl, Or.inl rfl⟩ | (refine ⟨_, rfl, Or.inr ?_⟩; (try (conv => cbv))) | (simp only [I.val] at *; first | omega | (subst_vars; rfl) | simp_all) | (refine Or.inr ?_; (try (conv => cbv))))))) ⟨p', from_, j, L, B, c :: C, p + 1, rfl, hBC, hL, hj, hf, (by show p' = from_ + ((p + 1 : Nat) : Int); omega), (fun h => by cases h), (fun c2 C2 h => by cases h; omega), by omega⟩
end Go.Proofs.YtocliihimbggjaaDoor
