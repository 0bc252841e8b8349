/-
  Layer 20: what a queue does.
-/
import Derived.Test.YtocliihimbggjaaDoorQc
namespace Go.Proofs.YtocliihimbggjaaDoor
open Go Go.LX
set_option maxRecDepth 100000
set_option linter.unusedVariables false

theorem queueNew_lx : CallF (fun _ => Tryd.prog) 18 [] [] 0 (fun r h n => ∃ z : ByteArray, r = .ptr 0 (.lit 0) ∧ h = [(0, .pure false [.str fun _ => z])] ∧ n = 1 ∧ z = ⟨(enc []).toArray⟩) := by
  refine callF_of_body tok Tryd.func18 (by kernel_rfl) rfl rfl rfl ?_; conv => cbv
  refine RetF.mk [.ptr 0 (.lit 0)] [(0, .pure false [.str fun _ => ⟨#[]⟩])] 1 (Re.of [(0, 0)] [] (by first | exact Nat.zero_le _ | exact Nat.le_refl _ | decide | (dsimp only; decide)) rfl rfl (by (try (conv => cbv)); (repeat' (first | exact trivial | rfl | exact SEq.mk rfl | (exact SEq.mk (by first | assumption | (symm; assumption))) | (simp only [I.val]; done) | (simp only [I.val]; omega) | omega | assumption | (refine And.intro ?_ ?_) | exact Or.inl rfl | exact Or.inr (by assumption) | exact List.Mem.head _ | exact List.Mem.tail _ (List.Mem.head _) | exact ⟨_, rfl⟩ | exact ⟨_, rfl, Or.inl rfl⟩ | (refine ⟨_, rfl, Or.inr ?_⟩; (try (conv => cbv))) | (simp only [I.val] at *; first | omega | (subst_vars; rfl) | simp_all) | (refine Or.inr ?_; (try (conv => cbv)))))) (by (try (conv => cbv)); (repeat' (first | exact trivial | rfl | exact SEq.mk rfl | (exact SEq.mk (by first | assumption | (symm; assumption))) | (simp only [I.val]; done) | (simp only [I.val]; omega) | omega | assumption | (refine And.intro ?_ ?_) | exact Or.inl rfl | exact Or.inr (by assumption) | exact List.Mem.head _ | exact List.Mem.tail _ (List.Mem.head _) | exact ⟨_, rfl⟩ | exact ⟨_, rfl, Or.inl rfl⟩ | (refine ⟨_, rfl, Or.inr ?_⟩; (try (conv => cbv))) | (simp only [I.val] at *; first | omega | (subst_vars; rfl) | simp_all) | (refine Or.inr ?_; (try (conv => cbv))))))) rfl ⟨⟨#[]⟩, rfl, rfl, rfl, rfl⟩
theorem all_nil : CallF (fun _ => Tryd.prog) 27 [.p .nilp] [] 0 (fun r h n => r = .p .nils ∧ h = [] ∧ n = 0) := by
  refine callF_of_body tok Tryd.func27 (by kernel_rfl) rfl rfl rfl ?_; conv => cbv
  refine RetF.mk [.p .nils] [] 0 (Re.of [] [] (by first | exact Nat.zero_le _ | exact Nat.le_refl _ | decide | (dsimp only; decide)) rfl rfl (by (try (conv => cbv)); (repeat' (first | exact trivial | rfl | exact SEq.mk rfl | (exact SEq.mk (by first | assumption | (symm; assumption))) | (simp only [I.val]; done) | (simp only [I.val]; omega) | omega | assumption | (refine And.intro ?_ ?_) | exact Or.inl rfl | exact Or.inr (by assumption) | exact List.Mem.head _ | exact List.Mem.tail _ (List.Mem.head _) | exact ⟨_, rfl⟩ | exact ⟨_, rfl, Or.inl rfl⟩ | (refine ⟨_, rfl, Or.inr ?_⟩; (try (conv => cbv))) | (simp only [I.val] at *; first | omega | (subst_vars; rfl) | simp_all) | (refine Or.inr ?_; (try (conv => cbv)))))) (by (try (conv => cbv)); (repeat' (first | exact trivial | rfl | exact SEq.mk rfl | (exact SEq.mk (by first | assumption | (symm; assumption))) | (simp only [I.val]; done) | (simp only [I.val]; omega) | omega | assumption | (refine And.intro ?_ ?_) | exact Or.inl rfl | exact Or.inr (by assumption) | exact List.Mem.head _ | exact List.Mem.tail _ (List.Mem.head _) | exact ⟨_, rfl⟩ | exact ⟨_, rfl, Or.inl rfl⟩ | (refine ⟨_, rfl, Or.inr ?_⟩; (try (conv => cbv))) | (simp only [I.val] at *; first | omega | (subst_vars; rfl) | simp_all) | (refine Or.inr ?_; (try (conv => cbv))))))) rfl ⟨rfl, rfl, rfl⟩
theorem queueLen_lx (A : List Int) (z : ByteArray) (hz : z = ⟨(enc A).toArray⟩) (hA : ∀ a ∈ A, i64 a) (hl : A.length ≤ 1000) : CallF (fun _ => Tryd.prog) 28 [.ptr 0 (.lit 0)] [(0, .pure false [.str fun _ => z])] 1 (fun r h n => ∃ m : Int, r = .p (.int .i64 (.sym m)) ∧ h = [(0, .pure false [.str fun _ => z])] ∧ n = 1 ∧ m = A.length) := by
  refine callF_of_body tok Tryd.func28 (by kernel_rfl) rfl rfl rfl ?_; conv => cbv
  refine callF_frame (all_lx A z hz hA hl) [(0, 0)] rfl (by simp [hmapOk, nget, hget, renB, okB]) rfl rfl (fun r h' n' ⟨k, L, e1, e2, e3, hL, hk⟩ => ?_)
  subst e1 e2 e3
  conv => cbv
  refine RetF.mk [.p (.int .i64 (.sym k))] [(0, .pure false [.str fun _ => z])] 1 (Re.of [(0, 0)] [] (by first | exact Nat.zero_le _ | exact Nat.le_refl _ | decide | (dsimp only; decide)) rfl rfl (by (try (conv => cbv)); (repeat' (first | exact trivial | rfl | exact SEq.mk rfl | (exact SEq.mk (by first | assumption | (symm; assumption))) | (simp only [I.val]; done) | (simp only [I.val]; omega) | omega | assumption | (refine And.intro ?_ ?_) | exact Or.inl rfl | exact Or.inr (by assumption) | exact List.Mem.head _ | exact List.Mem.tail _ (List.Mem.head _) | exact ⟨_, rfl⟩ | exact ⟨_, rfl, Or.inl rfl⟩ | (refine ⟨_, rfl, Or.inr ?_⟩; (try (conv => cbv))) | (simp only [I.val] at *; first | omega | (subst_vars; rfl) | simp_all) | (refine Or.inr ?_; (try (conv => cbv)))))) (by (try (conv => cbv)); (repeat' (first | exact trivial | rfl | exact SEq.mk rfl | (exact SEq.mk (by first | assumption | (symm; assumption))) | (simp only [I.val]; done) | (simp only [I.val]; omega) | omega | assumption | (refine And.intro ?_ ?_) | exact Or.inl rfl | exact Or.inr (by assumption) | exact List.Mem.head _ | exact List.Mem.tail _ (List.Mem.head _) | exact ⟨_, rfl⟩ | exact ⟨_, rfl, Or.inl rfl⟩ | (refine ⟨_, rfl, Or.inr ?_⟩; (try (conv => cbv))) | (simp only [I.val] at *; first | omega | (subst_vars; rfl) | simp_all) | (refine Or.inr ?_; (try (conv => cbv))))))) rfl ⟨k, rfl, rfl, rfl, hk⟩
theorem queueLen_nil : CallF (fun _ => Tryd.prog) 28 [.p .nilp] [] 0 (fun r h n => r = .p (.int .i64 (.sym 0)) ∧ h = [] ∧ n = 0) := by
  refine callF_of_body tok Tryd.func28 (by kernel_rfl) rfl rfl rfl ?_; conv => cbv
  refine callF_frame all_nil [] rfl trivial rfl rfl (fun r h' n' ⟨e1, e2, e3⟩ => ?_)
  subst e1 e2 e3
  conv => cbv
  refine RetF.mk [.p (.int .i64 (.sym 0))] [] 0 (Re.of [] [] (by first | exact Nat.zero_le _ | exact Nat.le_refl _ | decide | (dsimp only; decide)) rfl rfl (by (try (conv => cbv)); (repeat' (first | exact trivial | rfl | exact SEq.mk rfl | (exact SEq.mk (by first | assumption | (symm; assumption))) | (simp only [I.val]; done) | (simp only [I.val]; omega) | omega | assumption | (refine And.intro ?_ ?_) | exact Or.inl rfl | exact Or.inr (by assumption) | exact List.Mem.head _ | exact List.Mem.tail _ (List.Mem.head _) | exact ⟨_, rfl⟩ | exact ⟨_, rfl, Or.inl rfl⟩ | (refine ⟨_, rfl, Or.inr ?_⟩; (try (conv => cbv))) | (simp only [I.val] at *; first | omega | (subst_vars; rfl) | simp_all) | (refine Or.inr ?_; (try (conv => cbv)))))) (by (try (conv => cbv)); (repeat' (first | exact trivial | rfl | exact SEq.mk rfl | (exact SEq.mk (by first | assumption | (symm; assumption))) | (simp only [I.val]; done) | (simp only [I.val]; omega) | omega | assumption | (refine And.intro ?_ ?_) | exact Or.inl rfl | exact Or.inr (by assumption) | exact List.Mem.head _ | exact List.Mem.tail _ (List.Mem.head _) | exact ⟨_, rfl⟩ | exact ⟨_, rfl, Or.inl rfl⟩ | (refine ⟨_, rfl, Or.inr ?_⟩; (try (conv => cbv))) | (simp only [I.val] at *; first | omega | (subst_vars; rfl) | simp_all) | (refine Or.inr ?_; (try (conv => cbv))))))) rfl ⟨rfl, rfl, rfl⟩
open Go.RowKit Go.Sort in
/-- slices.Delete of one number. -/
theorem delete_lx (A : List Int) (i : Nat) (k u v : Int) (L : List PV) (hL : L = ints A) (hk : k = A.length) (hi : i < A.length) (hu : u = i) (hv : v = i + 1) (hl : A.length ≤ 1000) :
    CallF (fun _ => Tryd.prog) 35 [.sl 0 3 1 (.lit 0) (.sym k), .p (.int .i64 (.sym u)), .p (.int .i64 (.sym v))] [(0, .pure true L)] 1
      (fun r h n => ∃ (k' : Int) (L' : List PV), r = .sl 0 3 1 (.lit 0) (.sym k') ∧ h = [(0, .pure true L')] ∧ n = 1 ∧ L' = ints (A.take i ++ A.drop (i + 1) ++ [0]) ∧ k' = (A.length : Int) - 1) := by
  refine .mk ⟨_, _, Tryd.func35, by kernel_rfl, rfl⟩ fun c w xs hr hN hl2 hrel => ?_
  obtain ⟨x, y, z, rfl, hx, hy, hz⟩ : ∃ x y z, xs = #[x, y, z] ∧ LR c w (.sl 0 3 1 (.lit 0) (.sym k)) x ∧ LR c w (.p (.int .i64 (.sym u))) y ∧ LR c w (.p (.int .i64 (.sym v))) z := by
    have h0 := hrel 0 _ rfl
    have h1 := hrel 1 _ rfl
    have h2 := hrel 2 _ rfl
    rcases xs with ⟨l⟩
    match l, hl2 with
    | [x, y, z], _ => exact ⟨x, y, z, rfl, h0, h1, h2⟩
  have hy : y = .int .i64 u := hy.inv_int
  have hz : z = .int .i64 v := hz.inv_int
  subst hy hz
  obtain ⟨m, hm, hB⟩ := hr.live 0 _ rfl
  cases hx with
  | goneS _ _ _ _ _ _ _ _ hm' _ => rw [hm] at hm'; cases hm'
  | slv _ _ _ _ _ hm' ho' hn' => simp only [I.val] at hn'; omega
  | sl _ _ _ _ _ r o n cp tot hm' ho' hn' hk' hcp hs' ht' =>
    rw [hm] at hm'; cases hm'
    obtain ⟨cur, ty, hg, hle, hrl⟩ := hB
    simp only [I.val] at ho' hn'
    have ho0 : o = 0 := by omega
    subst ho0
    have hsh : ty = 3 ∧ cur.size = tot := by
      rw [World.shape?, hg] at hs'
      cases hs'; exact ⟨rfl, rfl⟩
    obtain ⟨rfl, rfl⟩ := hsh
    have hnA : n = A.length := by omega
    subst hnA
    have hcell : ∀ j, j < A.length → cur[j]? = some (.int .i64 A[j]!) := by
      intro j hj
      have h1 := hrl j (.int .i64 (.sym A[j]!)) (by rw [hL, ints_get, List.getElem?_eq_getElem hj, getElem!_pos A j hj]; rfl)
      rw [Array.getD_eq_getD_getElem?, Array.getElem?_eq_getElem (by omega : j < cur.size)] at h1
      rw [Array.getElem?_eq_getElem (by omega : j < cur.size)]
      generalize cur[j] = q at h1
      have h1 : PR c.mut w (.int .i64 (.sym A[j]!)) q := h1
      cases h1 with | int _ _ m hm => rw [← hm]; rfl
    have hd := Tryd.slices_Delete_int r 0 cp i (i + 1) A w (fun j hj => ⟨by
      have hj : j < A.length := by simpa using hj
      simp only [World.cell?, hg, Nat.zero_add]
      have h2 := hcell j hj
      simpa using h2, by simp [World.frozen?, hg]⟩) hk' (by unfold maxLen at hcp; omega) (by omega) hi
    have e1 : (.int .i64 u : Value) = .int .i64 i := by rw [hu]
    have e2 : (.int .i64 v : Value) = .int .i64 ((i + 1 : Nat) : Int) := by rw [hv]; rfl
    rw [e1, e2]
    refine hd.mono ?_
    rintro e w' ⟨rfl, q, rfl⟩
    have hrep : List.replicate (i + 1 - i) (0 : Int) = [0] := by rw [show i + 1 - i = 1 by omega]; rfl
    rw [hrep]
    have hBl : (A.take i ++ A.drop (i + 1) ++ [0]).length = A.length := by simp; omega
    generalize hB : A.take i ++ A.drop (i + 1) ++ [0] = B at hBl
    have hg' : (putRow (Value.int .i64) (Sort.ahead w q) r 0 B.toArray).heap[r]? = some (.cells (putCells (Value.int .i64) 0 B.toArray cur) 3 (0, 0)) := by
      simp [putRow, mapBlock, Array.getElem?_modify, onCells]; exact ⟨_, hg, rfl⟩
    have hcs : (putCells (Value.int .i64) 0 B.toArray cur).size = cur.size := by simp [putCells]
    have ht : Turn w (putRow (Value.int .i64) (Sort.ahead w q) r 0 B.toArray) r := by
      refine ⟨rfl, rfl, rfl, by rw [size_putRow]; rfl, fun k hk => ?_, ?_⟩
      · have hk' : ¬ r = k := fun h => hk h.symm
        simp [putRow, mapBlock, Array.getElem?_modify, hk']
      · simp only [World.shape?, hg, hg', hcs]
    have hB' : BR c (putRow (Value.int .i64) (Sort.ahead w q) r 0 B.toArray) (.pure true (ints B)) (some r) := by
      refine ⟨_, _, hg', by rw [ints_length, hcs]; omega, fun j u hu => ?_⟩
      rw [ints_get] at hu
      cases e : B[j]? with
      | none => rw [e] at hu; cases hu
      | some b =>
        rw [e] at hu; cases hu
        have hj : j < B.length := (List.getElem?_eq_some_iff.1 e).1
        have hb : B[j]! = b := by rw [getElem!_pos B j hj]; exact (List.getElem?_eq_some_iff.1 e).2
        rw [Array.getD_eq_getD_getElem?, putCells, Array.getElem?_mapIdx, Array.getElem?_eq_getElem (by omega : j < cur.size), Option.map_some, if_pos ⟨Nat.zero_le _, by simpa using hj⟩]
        simp only [Nat.sub_zero, Option.getD_some, List.getElem!_toArray, hb]
        exact .int _ _ _ rfl
    have hfin := hr.turn (B' := .pure true (ints B)) rfl hm ht hB'
    refine ⟨c, .sl 0 3 1 (.lit 0) (.sym ((A.length : Int) - 1)), _, [(0, .pure true (ints B))], 1, rfl, ⟨(A.length : Int) - 1, ints B, rfl, rfl, rfl, rfl, rfl⟩, hfin, hN, ?_, Ext.turn hr hm ht⟩
    refine .sl _ _ _ _ _ r 0 (A.length - (i + 1 - i)) cp cur.size hm rfl ?_ (by omega) hcp ?_ ht'
    · simp only [I.val]; omega
    · rw [ht.shape]; exact hs'
theorem erase_first (a : Int) : ∀ (A : List Int) (i : Nat), A[i]? = some a → (∀ j, j < i → A[j]? ≠ some a) → A.erase a = A.take i ++ A.drop (i + 1)
  | [], i, h, _ => by simp at h
  | x :: A, 0, h, _ => by simp at h; subst h; simp
  | x :: A, i + 1, h, hn => by
    have hx : ¬ x = a := fun e => hn 0 (Nat.succ_pos _) (by rw [e]; rfl)
    rw [List.erase_cons_tail (by simpa using hx), erase_first a A i (by simpa using h) (fun j hj => by have := hn (j + 1) (by omega); simpa using this)]
    rfl
theorem queueAdd_lx (A : List Int) (a : Int) (z : ByteArray) (hz : z = ⟨(enc A).toArray⟩) (hA : ∀ a ∈ A, i64 a) (ha : i64 a) (hl : A.length ≤ 900) (o : Unit → Obj) (ho : IsPow o) :
    CallF (fun _ => Tryd.prog) 24 [.ptr 1 (.lit 0), .p (.int .i64 (.sym a))] [(0, .fix 2 o), (1, .pure false [.str fun _ => z])] 2
      (fun r h n => ∃ (b : Bool) (z' : ByteArray) (A' : List Int), r = .p (.bool b) ∧ h = [(0, .fix 2 o), (1, .pure false [.str fun _ => z'])] ∧ n = 2 ∧ z' = ⟨(enc A').toArray⟩ ∧ ((a ∈ A ∧ b = false ∧ A' = A) ∨ (a ∉ A ∧ b = true ∧ A' = A ++ [a]))) := by
  refine callF_of_body tok Tryd.func24 (by kernel_rfl) rfl rfl rfl ?_; conv => cbv
  refine callF_frame (all_lx A z hz hA (by omega)) [(0, 1)] rfl (by simp [hmapOk, nget, hget, renB, okB]) rfl rfl (fun r h' n' ⟨k, L, e1, e2, e3, hL, hk⟩ => ?_)
  subst e1 e2 e3
  conv => cbv
  refine callF_lend (contains_lx A a k L hL hk (by omega)) (by simp [lends, lendV, hget, I.val, pvle]) (fun r h' n' ⟨⟨b, e1, _⟩, e2, e3⟩ => by subst e1 e2; exact ⟨trivial, trivial⟩) (fun r h' n' ⟨⟨b, e1, hb⟩, e2, e3⟩ => ?_)
  subst e1 e2 e3
  cases b with
  | true =>
    conv => cbv
    refine RetF.mk [.p (.bool false)] [(0, .fix 2 o), (1, .pure false [.str fun _ => z])] 2 (Re.of [(0, 0), (1, 1)] [] (by first | exact Nat.zero_le _ | exact Nat.le_refl _ | decide | (dsimp only; decide)) rfl rfl (by (try (conv => cbv)); (repeat' (first | exact trivial | rfl | exact SEq.mk rfl | (exact SEq.mk (by first | assumption | (symm; assumption))) | (simp only [I.val]; done) | (simp only [I.val]; omega) | omega | assumption | (refine And.intro ?_ ?_) | exact Or.inl rfl | exact Or.inr (by assumption) | exact List.Mem.head _ | exact List.Mem.tail _ (List.Mem.head _) | exact ⟨_, rfl⟩ | exact ⟨_, rfl, Or.inl rfl⟩ | (refine ⟨_, rfl, Or.inr ?_⟩; (try (conv => cbv))) | (simp only [I.val] at *; first | omega | (subst_vars; rfl) | simp_all) | (refine Or.inr ?_; (try (conv => cbv)))))) (by (try (conv => cbv)); (repeat' (first | exact trivial | rfl | exact SEq.mk rfl | (exact SEq.mk (by first | assumption | (symm; assumption))) | (simp only [I.val]; done) | (simp only [I.val]; omega) | omega | assumption | (refine And.intro ?_ ?_) | exact Or.inl rfl | exact Or.inr (by assumption) | exact List.Mem.head _ | exact List.Mem.tail _ (List.Mem.head _) | exact ⟨_, rfl⟩ | exact ⟨_, rfl, Or.inl rfl⟩ | (refine ⟨_, rfl, Or.inr ?_⟩; (try (conv => cbv))) | (simp only [I.val] at *; first | omega | (subst_vars; rfl) | simp_all) | (refine Or.inr ?_; (try (conv => cbv))))))) rfl ⟨false, z, A, rfl, rfl, rfl, hz, .inl ⟨hb.1 rfl, rfl, rfl⟩⟩
  | false =>
    have hna : a ∉ A := fun h => by have := hb.2 h; cases this
    conv => cbv
    refine drawn_sound tok (by kernel_rfl) [(5, [3, 2, 1, 0]), (6, [3, 2, 1, 0]), (10, [])] [0, 1, 2, 3, 4, 5, 6, 7, 8, 9, 10] (by kernel_rfl) ?_; conv => cbv
    refine callF_lendF (write_lx [a] 1 (ints [a]) rfl rfl (by intro x hx; rw [List.mem_singleton.1 hx]; exact ha) (by simp) o ho) [(0, 0)] rfl (by simp [fixOn, hget]) (by simp [allFix, isFix, nget]) (by simp [lends, lendV, hget, I.val, ints]) (fun r h' n' ⟨⟨y, e1, _⟩, e2, e3⟩ => by subst e1 e2; exact ⟨trivial, trivial, trivial⟩) (fun r h' n' ⟨⟨y, e1, hy⟩, e2, e3⟩ => ?_)
    subst e1 e2 e3
    conv => cbv
    have hzl : z.size = (enc A).length := by rw [hz]; show (enc A).toArray.size = _; simp
    have hyl : y.size = (enc [a]).length := by rw [hy]; show (enc [a]).toArray.size = _; simp
    have h1 := enc_len A hA
    have h2 := enc_len [a] (by intro x hx; rw [List.mem_singleton.1 hx]; exact ha)
    have h3 : [a].length = 1 := rfl
    refine Need.mk (by show z.size + y.size ≤ 9223372036854775807; omega) ?_
    refine Str.mk fun t ht => ?_
    have ht : t = z ++ y := ht
    conv => cbv
    refine RetF.mk [.p (.bool true)] [(0, .fix 2 o), (1, .pure false [.str fun _ => t])] 2 (Re.of [(0, 0), (1, 1)] [] (by first | exact Nat.zero_le _ | exact Nat.le_refl _ | decide | (dsimp only; decide)) rfl rfl (by (try (conv => cbv)); (repeat' (first | exact trivial | rfl | exact SEq.mk rfl | (exact SEq.mk (by first | assumption | (symm; assumption))) | (simp only [I.val]; done) | (simp only [I.val]; omega) | omega | assumption | (refine And.intro ?_ ?_) | exact Or.inl rfl | exact Or.inr (by assumption) | exact List.Mem.head _ | exact List.Mem.tail _ (List.Mem.head _) | exact ⟨_, rfl⟩ | exact ⟨_, rfl, Or.inl rfl⟩ | (refine ⟨_, rfl, Or.inr ?_⟩; (try (conv => cbv))) | (simp only [I.val] at *; first | omega | (subst_vars; rfl) | simp_all) | (refine Or.inr ?_; (try (conv => cbv)))))) (by (try (conv => cbv)); (repeat' (first | exact trivial | rfl | exact SEq.mk rfl | (exact SEq.mk (by first | assumption | (symm; assumption))) | (simp only [I.val]; done) | (simp only [I.val]; omega) | omega | assumption | (refine And.intro ?_ ?_) | exact Or.inl rfl | exact Or.inr (by assumption) | exact List.Mem.head _ | exact List.Mem.tail _ (List.Mem.head _) | exact ⟨_, rfl⟩ | exact ⟨_, rfl, Or.inl rfl⟩ | (refine ⟨_, rfl, Or.inr ?_⟩; (try (conv => cbv))) | (simp only [I.val] at *; first | omega | (subst_vars; rfl) | simp_all) | (refine Or.inr ?_; (try (conv => cbv))))))) rfl ⟨true, t, A ++ [a], rfl, rfl, rfl, ?_, .inr ⟨hna, rfl, rfl⟩⟩
    rw [ht, hz, hy, enc_append]
    apply ByteArray.ext
    apply Array.ext'
    rw [ByteArray.data_append, Array.toList_append]
theorem queueAdd_nil (a : I) : CallF (fun _ => Tryd.prog) 24 [.p .nilp, .p (.int .i64 a)] [] 0 (fun r h n => r = .p (.bool false) ∧ h = [] ∧ n = 0) := by
  refine callF_of_body tok Tryd.func24 (by kernel_rfl) rfl rfl rfl ?_; conv => cbv
  refine RetF.mk [.p (.bool false)] [] 0 (Re.of [] [] (by first | exact Nat.zero_le _ | exact Nat.le_refl _ | decide | (dsimp only; decide)) rfl rfl (by (try (conv => cbv)); (repeat' (first | exact trivial | rfl | exact SEq.mk rfl | (exact SEq.mk (by first | assumption | (symm; assumption))) | (simp only [I.val]; done) | (simp only [I.val]; omega) | omega | assumption | (refine And.intro ?_ ?_) | exact Or.inl rfl | exact Or.inr (by assumption) | exact List.Mem.head _ | exact List.Mem.tail _ (List.Mem.head _) | exact ⟨_, rfl⟩ | exact ⟨_, rfl, Or.inl rfl⟩ | (refine ⟨_, rfl, Or.inr ?_⟩; (try (conv => cbv))) | (simp only [I.val] at *; first | omega | (subst_vars; rfl) | simp_all) | (refine Or.inr ?_; (try (conv => cbv)))))) (by (try (conv => cbv)); (repeat' (first | exact trivial | rfl | exact SEq.mk rfl | (exact SEq.mk (by first | assumption | (symm; assumption))) | (simp only [I.val]; done) | (simp only [I.val]; omega) | omega | assumption | (refine And.intro ?_ ?_) | exact Or.inl rfl | exact Or.inr (by assumption) | exact List.Mem.head _ | exact List.Mem.tail _ (List.Mem.head _) | exact ⟨_, rfl⟩ | exact ⟨_, rfl, Or.inl rfl⟩ | (refine ⟨_, rfl, Or.inr ?_⟩; (try (conv => cbv))) | (simp only [I.val] at *; first | omega | (subst_vars; rfl) | simp_all) | (refine Or.inr ?_; (try (conv => cbv))))))) rfl ⟨rfl, rfl, rfl⟩
theorem queueAt_lx (A : List Int) (i : Int) (hi : i64 i) (z : ByteArray) (hz : z = ⟨(enc A).toArray⟩) (hA : ∀ a ∈ A, i64 a) (hl : A.length ≤ 900) :
    CallF (fun _ => Tryd.prog) 22 [.ptr 0 (.lit 0), .p (.int .i64 (.sym i))] [(0, .pure false [.str fun _ => z])] 1
      (fun r h n => ∃ (x : Int) (b : Bool), r = .tup [.p (.int .i64 (.sym x)), .p (.bool b)] ∧ h = [(0, .pure false [.str fun _ => z])] ∧ n = 1 ∧ ((A = [] ∧ x = 0 ∧ b = false) ∨ (A ≠ [] ∧ b = true ∧ A[(max i 0).toNat % A.length]? = some x))) := by
  refine callF_of_body tok Tryd.func22 (by kernel_rfl) rfl rfl rfl ?_; conv => cbv
  refine callF_frame (all_lx A z hz hA (by omega)) [(0, 0)] rfl (by simp [hmapOk, nget, hget, renB, okB]) rfl rfl (fun r h' n' ⟨k, L, e1, e2, e3, hL, hk⟩ => ?_)
  subst e1 e2 e3
  conv => cbv
  refine Br.mk (fun g => ?_) (fun g => ?_)
  · have g : k = 0 := g
    conv => cbv
    refine RetF.mk [.p (.int .i64 (.sym 0)), .p (.bool false)] [(0, .pure false [.str fun _ => z])] 1 (Re.of [(0, 0)] [] (by first | exact Nat.zero_le _ | exact Nat.le_refl _ | decide | (dsimp only; decide)) rfl rfl (by (try (conv => cbv)); (repeat' (first | exact trivial | rfl | exact SEq.mk rfl | (exact SEq.mk (by first | assumption | (symm; assumption))) | (simp only [I.val]; done) | (simp only [I.val]; omega) | omega | assumption | (refine And.intro ?_ ?_) | exact Or.inl rfl | exact Or.inr (by assumption) | exact List.Mem.head _ | exact List.Mem.tail _ (List.Mem.head _) | exact ⟨_, rfl⟩ | exact ⟨_, rfl, Or.inl rfl⟩ | (refine ⟨_, rfl, Or.inr ?_⟩; (try (conv => cbv))) | (simp only [I.val] at *; first | omega | (subst_vars; rfl) | simp_all) | (refine Or.inr ?_; (try (conv => cbv)))))) (by (try (conv => cbv)); (repeat' (first | exact trivial | rfl | exact SEq.mk rfl | (exact SEq.mk (by first | assumption | (symm; assumption))) | (simp only [I.val]; done) | (simp only [I.val]; omega) | omega | assumption | (refine And.intro ?_ ?_) | exact Or.inl rfl | exact Or.inr (by assumption) | exact List.Mem.head _ | exact List.Mem.tail _ (List.Mem.head _) | exact ⟨_, rfl⟩ | exact ⟨_, rfl, Or.inl rfl⟩ | (refine ⟨_, rfl, Or.inr ?_⟩; (try (conv => cbv))) | (simp only [I.val] at *; first | omega | (subst_vars; rfl) | simp_all) | (refine Or.inr ?_; (try (conv => cbv))))))) rfl ⟨0, false, rfl, rfl, rfl, .inl ⟨List.eq_nil_of_length_eq_zero (by omega), rfl, rfl⟩⟩
  · have g : ¬ k = 0 := g
    have hAne : A ≠ [] := fun e => by rw [e] at hk; exact g hk
    obtain ⟨u, hu, q⟩ : ∃ u : Int, u = max i 0 ∧ (i < 0 → u = 0) ∧ (¬ i < 0 → u = i) := ⟨max i 0, rfl, by omega, by omega⟩
    have hkp : 0 < k := by omega
    obtain ⟨x, hx⟩ : ∃ x, A[u.toNat % A.length]? = some x := ⟨_, List.getElem?_eq_getElem (Nat.mod_lt _ (by omega))⟩
    have hmod : u.tmod k = ((u.toNat % A.length : Nat) : Int) := by
      rw [Int.tmod_eq_emod_of_nonneg (by omega), hk, Int.natCast_emod]; congr 1; omega
    have hlt : u.toNat % A.length < A.length := Nat.mod_lt _ (by omega)
    conv => cbv
    refine Br.mk (fun g2 => ?_) (fun g2 => ?_)
    · have g2 : i < 0 := g2
      conv => cbv
      refine Need.mk (show k ≠ 0 from g) ?_
      conv => cbv
      refine Sum.mk fun v hv => ?_
      have hv : v = (u.toNat % A.length : Nat) := by
        have hv : v = Int.tmod 0 k := hv
        rw [hv, ← hmod, q.1 g2]
      conv => cbv
      refine Need.mk (show 0 ≤ v ∧ v < k by omega) ?_
      conv => cbv
      refine Cell.mk (.int .i64 (.sym x)) (by show L[(v + 0).toNat]? = _; rw [Int.add_zero, hL, ints_get, show v.toNat = u.toNat % A.length by omega, hx]; rfl) ?_
      conv => cbv
      refine RetF.mk [.p (.int .i64 (.sym x)), .p (.bool true)] [(0, .pure false [.str fun _ => z])] 1 (Re.of [(0, 0)] [] (by first | exact Nat.zero_le _ | exact Nat.le_refl _ | decide | (dsimp only; decide)) rfl rfl (by (try (conv => cbv)); (repeat' (first | exact trivial | rfl | exact SEq.mk rfl | (exact SEq.mk (by first | assumption | (symm; assumption))) | (simp only [I.val]; done) | (simp only [I.val]; omega) | omega | assumption | (refine And.intro ?_ ?_) | exact Or.inl rfl | exact Or.inr (by assumption) | exact List.Mem.head _ | exact List.Mem.tail _ (List.Mem.head _) | exact ⟨_, rfl⟩ | exact ⟨_, rfl, Or.inl rfl⟩ | (refine ⟨_, rfl, Or.inr ?_⟩; (try (conv => cbv))) | (simp only [I.val] at *; first | omega | (subst_vars; rfl) | simp_all) | (refine Or.inr ?_; (try (conv => cbv)))))) (by (try (conv => cbv)); (repeat' (first | exact trivial | rfl | exact SEq.mk rfl | (exact SEq.mk (by first | assumption | (symm; assumption))) | (simp only [I.val]; done) | (simp only [I.val]; omega) | omega | assumption | (refine And.intro ?_ ?_) | exact Or.inl rfl | exact Or.inr (by assumption) | exact List.Mem.head _ | exact List.Mem.tail _ (List.Mem.head _) | exact ⟨_, rfl⟩ | exact ⟨_, rfl, Or.inl rfl⟩ | (refine ⟨_, rfl, Or.inr ?_⟩; (try (conv => cbv))) | (simp only [I.val] at *; first | omega | (subst_vars; rfl) | simp_all) | (refine Or.inr ?_; (try (conv => cbv))))))) rfl ⟨x, true, rfl, rfl, rfl, .inr ⟨hAne, rfl, by rw [← hu]; exact hx⟩⟩
    · have g2 : ¬ i < 0 := g2
      conv => cbv
      refine Need.mk (show k ≠ 0 from g) ?_
      conv => cbv
      refine Sum.mk fun v hv => ?_
      have hv : v = (u.toNat % A.length : Nat) := by
        have hv : v = Int.tmod i k := hv
        rw [hv, ← hmod, q.2 g2]
      conv => cbv
      refine Need.mk (show 0 ≤ v ∧ v < k by omega) ?_
      conv => cbv
      refine Cell.mk (.int .i64 (.sym x)) (by show L[(v + 0).toNat]? = _; rw [Int.add_zero, hL, ints_get, show v.toNat = u.toNat % A.length by omega, hx]; rfl) ?_
      conv => cbv
      refine RetF.mk [.p (.int .i64 (.sym x)), .p (.bool true)] [(0, .pure false [.str fun _ => z])] 1 (Re.of [(0, 0)] [] (by first | exact Nat.zero_le _ | exact Nat.le_refl _ | decide | (dsimp only; decide)) rfl rfl (by (try (conv => cbv)); (repeat' (first | exact trivial | rfl | exact SEq.mk rfl | (exact SEq.mk (by first | assumption | (symm; assumption))) | (simp only [I.val]; done) | (simp only [I.val]; omega) | omega | assumption | (refine And.intro ?_ ?_) | exact Or.inl rfl | exact Or.inr (by assumption) | exact List.Mem.head _ | exact List.Mem.tail _ (List.Mem.head _) | exact ⟨_, rfl⟩ | exact ⟨_, rfl, Or.inl rfl⟩ | (refine ⟨_, rfl, Or.inr ?_⟩; (try (conv => cbv))) | (simp only [I.val] at *; first | omega | (subst_vars; rfl) | simp_all) | (refine Or.inr ?_; (try (conv => cbv)))))) (by (try (conv => cbv)); (repeat' (first | exact trivial | rfl | exact SEq.mk rfl | (exact SEq.mk (by first | assumption | (symm; assumption))) | (simp only [I.val]; done) | (simp only [I.val]; omega) | omega | assumption | (refine And.intro ?_ ?_) | exact Or.inl rfl | exact Or.inr (by assumption) | exact List.Mem.head _ | exact List.Mem.tail _ (List.Mem.head _) | exact ⟨_, rfl⟩ | exact ⟨_, rfl, Or.inl rfl⟩ | (refine ⟨_, rfl, Or.inr ?_⟩; (try (conv => cbv))) | (simp only [I.val] at *; first | omega | (subst_vars; rfl) | simp_all) | (refine Or.inr ?_; (try (conv => cbv))))))) rfl ⟨x, true, rfl, rfl, rfl, .inr ⟨hAne, rfl, by rw [← hu]; exact hx⟩⟩
theorem queueAt_nil (i : I) : CallF (fun _ => Tryd.prog) 22 [.p .nilp, .p (.int .i64 i)] [] 0 (fun r h n => r = .tup [.p (.int .i64 (.sym 0)), .p (.bool false)] ∧ h = [] ∧ n = 0) := by
  refine callF_of_body tok Tryd.func22 (by kernel_rfl) rfl rfl rfl ?_; conv => cbv
  refine callF_frame all_nil [] rfl trivial rfl rfl (fun r h' n' ⟨e1, e2, e3⟩ => ?_)
  subst e1 e2 e3
  conv => cbv
  refine RetF.mk [.p (.int .i64 (.sym 0)), .p (.bool false)] [] 0 (Re.of [] [] (by first | exact Nat.zero_le _ | exact Nat.le_refl _ | decide | (dsimp only; decide)) rfl rfl (by (try (conv => cbv)); (repeat' (first | exact trivial | rfl | exact SEq.mk rfl | (exact SEq.mk (by first | assumption | (symm; assumption))) | (simp only [I.val]; done) | (simp only [I.val]; omega) | omega | assumption | (refine And.intro ?_ ?_) | exact Or.inl rfl | exact Or.inr (by assumption) | exact List.Mem.head _ | exact List.Mem.tail _ (List.Mem.head _) | exact ⟨_, rfl⟩ | exact ⟨_, rfl, Or.inl rfl⟩ | (refine ⟨_, rfl, Or.inr ?_⟩; (try (conv => cbv))) | (simp only [I.val] at *; first | omega | (subst_vars; rfl) | simp_all) | (refine Or.inr ?_; (try (conv => cbv)))))) (by (try (conv => cbv)); (repeat' (first | exact trivial | rfl | exact SEq.mk rfl | (exact SEq.mk (by first | assumption | (symm; assumption))) | (simp only [I.val]; done) | (simp only [I.val]; omega) | omega | assumption | (refine And.intro ?_ ?_) | exact Or.inl rfl | exact Or.inr (by assumption) | exact List.Mem.head _ | exact List.Mem.tail _ (List.Mem.head _) | exact ⟨_, rfl⟩ | exact ⟨_, rfl, Or.inl rfl⟩ | (refine ⟨_, rfl, Or.inr ?_⟩; (try (conv => cbv))) | (simp only [I.val] at *; first | omega | (subst_vars; rfl) | simp_all) | (refine Or.inr ?_; (try (conv => cbv))))))) rfl ⟨rfl, rfl, rfl⟩
theorem queueRemove_lx (A : List Int) (a : Int) (z : ByteArray) (hz : z = ⟨(enc A).toArray⟩) (hA : ∀ a ∈ A, i64 a) (ha : i64 a) (hl : A.length ≤ 900) (o : Unit → Obj) (ho : IsPow o) :
    CallF (fun _ => Tryd.prog) 20 [.ptr 1 (.lit 0), .p (.int .i64 (.sym a))] [(0, .fix 2 o), (1, .pure false [.str fun _ => z])] 2
      (fun r h n => ∃ (b : Bool) (z' : ByteArray) (A' : List Int), r = .p (.bool b) ∧ h = [(0, .fix 2 o), (1, .pure false [.str fun _ => z'])] ∧ n = 2 ∧ z' = ⟨(enc A').toArray⟩ ∧ A' = A.erase a ∧ (b = true ↔ a ∈ A)) := by
  refine callF_of_body tok Tryd.func20 (by kernel_rfl) rfl rfl rfl ?_; conv => cbv
  refine callF_frame (all_lx A z hz hA (by omega)) [(0, 1)] rfl (by simp [hmapOk, nget, hget, renB, okB]) rfl rfl (fun r h' n' ⟨k, L, e1, e2, e3, hL, hk⟩ => ?_)
  subst e1 e2 e3
  conv => cbv
  refine callF_lend (index_lx A a k L hL hk (by omega)) (by simp [lends, lendV, hget, I.val, pvle]) (fun r h' n' ⟨⟨b, e1, _⟩, e2, e3⟩ => by subst e1 e2; exact ⟨trivial, trivial⟩) (fun r h' n' ⟨⟨m, e1, hm⟩, e2, e3⟩ => ?_)
  subst e1 e2 e3
  conv => cbv
  refine Br.mk (fun g => ?_) (fun g => ?_)
  · have g : m < 0 := g
    have hna : a ∉ A := by
      rcases hm with ⟨i, _, _, h⟩ | ⟨h, _⟩
      · omega
      · exact h
    conv => cbv
    refine RetF.mk [.p (.bool false)] [(0, .fix 2 o), (1, .pure false [.str fun _ => z])] 2 (Re.of [(0, 0), (1, 1)] [] (by first | exact Nat.zero_le _ | exact Nat.le_refl _ | decide | (dsimp only; decide)) rfl rfl (by (try (conv => cbv)); (repeat' (first | exact trivial | rfl | exact SEq.mk rfl | (exact SEq.mk (by first | assumption | (symm; assumption))) | (simp only [I.val]; done) | (simp only [I.val]; omega) | omega | assumption | (refine And.intro ?_ ?_) | exact Or.inl rfl | exact Or.inr (by assumption) | exact List.Mem.head _ | exact List.Mem.tail _ (List.Mem.head _) | exact ⟨_, rfl⟩ | exact ⟨_, rfl, Or.inl rfl⟩ | (refine ⟨_, rfl, Or.inr ?_⟩; (try (conv => cbv))) | (simp only [I.val] at *; first | omega | (subst_vars; rfl) | simp_all) | (refine Or.inr ?_; (try (conv => cbv)))))) (by (try (conv => cbv)); (repeat' (first | exact trivial | rfl | exact SEq.mk rfl | (exact SEq.mk (by first | assumption | (symm; assumption))) | (simp only [I.val]; done) | (simp only [I.val]; omega) | omega | assumption | (refine And.intro ?_ ?_) | exact Or.inl rfl | exact Or.inr (by assumption) | exact List.Mem.head _ | exact List.Mem.tail _ (List.Mem.head _) | exact ⟨_, rfl⟩ | exact ⟨_, rfl, Or.inl rfl⟩ | (refine ⟨_, rfl, Or.inr ?_⟩; (try (conv => cbv))) | (simp only [I.val] at *; first | omega | (subst_vars; rfl) | simp_all) | (refine Or.inr ?_; (try (conv => cbv))))))) rfl ⟨false, z, A, rfl, rfl, rfl, hz, by rw [List.erase_of_not_mem hna], by simp [hna]⟩
  · have g : ¬ m < 0 := g
    obtain ⟨i, hi, hno, hmi⟩ : ∃ i : Nat, A[i]? = some a ∧ (∀ j, j < i → A[j]? ≠ some a) ∧ m = i := by
      rcases hm with h | ⟨_, h⟩
      · exact h
      · omega
    have hiA : i < A.length := (List.getElem?_eq_some_iff.1 hi).1
    conv => cbv
    refine Fit.mk (by show (-9223372036854775808 : Int) ≤ m + 1; omega) (by show m + 1 ≤ 9223372036854775807; omega) fun m2 hm2 => ?_
    have hm2 : m2 = m + 1 := hm2
    conv => cbv
    refine callF_frame (delete_lx A i k m m2 L hL hk hiA hmi (by omega) (by omega)) [(0, 2)] rfl (by simp [hmapOk, nget, hget, renB, okB]) rfl rfl (fun r h' n' ⟨k3, L3, e1, e2, e3, hL3, hk3⟩ => ?_)
    subst e1 e2 e3
    conv => cbv
    have hpre : ints (A.take i ++ A.drop (i + 1)) <+: L3 := by rw [hL3, ints, ints, List.map_append (l₂ := [0])]; exact List.prefix_append _ _
    have hAl : (A.take i ++ A.drop (i + 1)).length = A.length - 1 := by rw [List.length_append, List.length_take, List.length_drop]; omega
    refine callF_lendF (write_lx (A.take i ++ A.drop (i + 1)) k3 (ints (A.take i ++ A.drop (i + 1))) rfl (by rw [hAl]; omega) (fun x hx => hA x (by rcases List.mem_append.1 hx with h | h; exact List.mem_of_mem_take h; exact List.mem_of_mem_drop h)) (by omega) o ho) [(0, 0)] rfl (by simp [fixOn, hget]) (by simp [allFix, isFix, nget]) (by simp [lends, lendV, hget, I.val, hpre]) (fun r h' n' ⟨⟨y, e1, _⟩, e2, e3⟩ => by subst e1 e2; exact ⟨trivial, trivial, trivial⟩) (fun r h' n' ⟨⟨y, e1, hy⟩, e2, e3⟩ => ?_)
    subst e1 e2 e3
    conv => cbv
    refine RetF.mk [.p (.bool true)] [(0, .fix 2 o), (1, .pure false [.str fun _ => y])] 2 (Re.of [(0, 0), (1, 1)] [] (by first | exact Nat.zero_le _ | exact Nat.le_refl _ | decide | (dsimp only; decide)) rfl rfl (by (try (conv => cbv)); (repeat' (first | exact trivial | rfl | exact SEq.mk rfl | (exact SEq.mk (by first | assumption | (symm; assumption))) | (simp only [I.val]; done) | (simp only [I.val]; omega) | omega | assumption | (refine And.intro ?_ ?_) | exact Or.inl rfl | exact Or.inr (by assumption) | exact List.Mem.head _ | exact List.Mem.tail _ (List.Mem.head _) | exact ⟨_, rfl⟩ | exact ⟨_, rfl, Or.inl rfl⟩ | (refine ⟨_, rfl, Or.inr ?_⟩; (try (conv => cbv))) | (simp only [I.val] at *; first | omega | (subst_vars; rfl) | simp_all) | (refine Or.inr ?_; (try (conv => cbv)))))) (by (try (conv => cbv)); (repeat' (first | exact trivial | rfl | exact SEq.mk rfl | (exact SEq.mk (by first | assumption | (symm; assumption))) | (simp only [I.val]; done) | (simp only [I.val]; omega) | omega | assumption | (refine And.intro ?_ ?_) | exact Or.inl rfl | exact Or.inr (by assumption) | exact List.Mem.head _ | exact List.Mem.tail _ (List.Mem.head _) | exact ⟨_, rfl⟩ | exact ⟨_, rfl, Or.inl rfl⟩ | (refine ⟨_, rfl, Or.inr ?_⟩; (try (conv => cbv))) | (simp only [I.val] at *; first | omega | (subst_vars; rfl) | simp_all) | (refine Or.inr ?_; (try (conv => cbv))))))) rfl ⟨true, y, _, rfl, rfl, rfl, hy, (erase_first a A i hi hno).symm, ⟨fun _ => List.mem_of_getElem? hi, fun _ => rfl⟩⟩
end Go.Proofs.YtocliihimbggjaaDoor
