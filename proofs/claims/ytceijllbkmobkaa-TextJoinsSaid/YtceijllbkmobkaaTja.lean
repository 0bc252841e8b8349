/-
  Layer 1: lines of a text whose signs may all stand.
-/
import Derived.Test.YtceijllbkmobkaaBw
import Derived.Test.YtceijllbkmobkaaTextJ
import Derived.Laws.RangeAny
namespace Go.Proofs.Ytceijllbkmobkaa
open Go Go.LX
set_option maxRecDepth 100000
set_option linter.unusedVariables false
set_option linter.unusedSimpArgs false

theorem dec_at (l : List UInt8) (hl : ∀ c ∈ l, c.toNat < 128) (i : Nat) (c : UInt8) (h : l[i]? = some c) : Utf8.decode ⟨l.toArray⟩ i = (c.toNat, 1) := by
  have hi := (List.getElem?_eq_some_iff.1 h).1
  have hc : l[i] = c := (List.getElem?_eq_some_iff.1 h).2
  have hsz : i < (ByteArray.mk l.toArray).size := by show i < l.toArray.size; simpa using hi
  have hg : (ByteArray.mk l.toArray)[i]'hsz = c := by show l.toArray[i]'_ = c; simpa using hc
  have := decode_ascii ⟨l.toArray⟩ i hsz (by rw [hg]; exact hl c (List.mem_of_getElem? h))
  rw [this, hg]
theorem bol_size (l : List UInt8) : (bytesOfL l).size = l.length := by show l.toArray.size = _; simp
theorem bol_app (l : List UInt8) (c : UInt8) : bytesOfL (l ++ [c]) = bytesOfL l ++ ⟨#[c]⟩ := by
  apply ByteArray.ext
  rw [ByteArray.data_append]
  show (l ++ [c]).toArray = l.toArray ++ #[c]
  simp
theorem bol_nil (l : List UInt8) : bytesOfL l = ⟨#[]⟩ ↔ l = [] := by
  constructor
  · intro h
    have := congrArg ByteArray.size h
    rw [bol_size] at this
    exact List.length_eq_zero_iff.1 this
  · rintro rfl; rfl
/-- Lines, as cells. -/
def spv (l : List (List UInt8)) : List PV := l.map fun x => .str fun _ => bytesOfL x
theorem spv_length (l : List (List UInt8)) : (spv l).length = l.length := List.length_map _
theorem spv_get {l : List (List UInt8)} {i : Nat} {x : List UInt8} (h : l[i]? = some x) : (spv l)[i]? = some (.str fun _ => bytesOfL x) := by rw [spv, List.getElem?_map, h]; rfl
theorem spv_app (a : List (List UInt8)) (x : List UInt8) : spv a ++ [.str fun _ => bytesOfL x] = spv (a ++ [x]) := by rw [spv, spv, List.map_append]; rfl
theorem withLine_none (j : Int) (L : List PV) (y : ByteArray) (hy : y = ⟨#[]⟩) : CallF (fun _ => Try.prog) 12 [.sl 0 9 1 (.lit 0) (.sym j), .p (.str fun _ => y)] [(0, .pure true L)] 1
    (fun r h n => r = .sl 0 9 1 (.lit 0) (.sym j) ∧ h = [(0, .pure true L)] ∧ n = 1) := by
  refine callF_of_body tok Try.func12 (by kernel_rfl) rfl rfl rfl ?_; conv => cbv
  refine Br.mk (fun g => ?_) (fun g => ?_)
  case refine_2 =>
    have gf : False := g hy
    cases gf
  conv => cbv
  refine RetF.mk [.sl 0 9 1 (.lit 0) (.sym j)] [(0, .pure true L)] 1 (Re.of [(0, 0)] [] (by first | exact Nat.zero_le _ | exact Nat.le_refl _ | decide | (dsimp only; decide)) rfl rfl (by (try (conv => cbv)); (repeat' (first | exact trivial | rfl | exact SEq.mk rfl | (exact SEq.mk (by first | assumption | (symm; assumption))) | (simp only [I.val]; done) | (simp only [I.val]; omega) | omega | assumption | (refine And.intro ?_ ?_) | exact Or.inl rfl | exact Or.inr (by assumption) | exact List.Mem.head _ | exact List.Mem.tail _ (List.Mem.head _) | exact ⟨_, rfl⟩ | exact ⟨_, rfl, Or.inl rfl⟩ | (refine ⟨_, rfl, Or.inr ?_⟩; (try (conv => cbv))) | (simp only [I.val] at *; first | omega | (subst_vars; rfl) | simp_all) | (refine Or.inr ?_; (try (conv => cbv)))))) (by (try (conv => cbv)); (repeat' (first | exact trivial | rfl | exact SEq.mk rfl | (exact SEq.mk (by first | assumption | (symm; assumption))) | (simp only [I.val]; done) | (simp only [I.val]; omega) | omega | assumption | (refine And.intro ?_ ?_) | exact Or.inl rfl | exact Or.inr (by assumption) | exact List.Mem.head _ | exact List.Mem.tail _ (List.Mem.head _) | exact ⟨_, rfl⟩ | exact ⟨_, rfl, Or.inl rfl⟩ | (refine ⟨_, rfl, Or.inr ?_⟩; (try (conv => cbv))) | (simp only [I.val] at *; first | omega | (subst_vars; rfl) | simp_all) | (refine Or.inr ?_; (try (conv => cbv))))))) rfl ⟨rfl, rfl, rfl⟩
theorem withLine_some (j k : Int) (L L' : List PV) (y : ByteArray) (hy : ¬ y = ⟨#[]⟩) (hj : (L.length : Int) = j) (hjb : j ≤ 100000) (hk : k = j + 1) (hL' : L' = L ++ [.str fun _ => y]) : CallF (fun _ => Try.prog) 12 [.sl 0 9 1 (.lit 0) (.sym j), .p (.str fun _ => y)] [(0, .pure true L)] 1
    (fun r h n => r = .sl 1 9 1 (.lit 0) (.sym k) ∧ h = [(1, .pure true L')] ∧ n = 2) := by
  refine callF_of_body tok Try.func12 (by kernel_rfl) rfl rfl rfl ?_; conv => cbv
  refine Br.mk (fun g => ?_) (fun g => ?_)
  case refine_1 =>
    have gf : False := hy g
    cases gf
  conv => cbv
  refine Room.new rfl ?_
  conv => cbv
  refine Room.new ⟨?_, ?_, ?_⟩ ?_
  · show (L.length : Int) = j * 1; omega
  · show (j + 1) * 16 ≤ 140737488355328; omega
  · show j + 1 ≤ 9223372036854775807; omega
  conv => cbv
  refine Upd.mk fun L2 hL2 => ?_
  have hL2 : L2 = L' := hL2.trans hL'.symm
  clear hL'
  subst hL2
  conv => cbv
  refine Sum.mk fun k2 hk2 => ?_
  have hk2 : k2 = j + 1 := hk2
  have hkk : k2 = k := by omega
  conv => cbv
  refine RetF.mk [.sl 1 9 1 (.lit 0) (.sym k)] [(1, .pure true L2)] 2 (Re.of [(2, 1)] [] (by first | exact Nat.zero_le _ | exact Nat.le_refl _ | decide | (dsimp only; decide)) rfl rfl (by (try (conv => cbv)); (repeat' (first | exact trivial | rfl | exact SEq.mk rfl | (exact SEq.mk (by first | assumption | (symm; assumption))) | (simp only [I.val]; done) | (simp only [I.val]; omega) | omega | assumption | (refine And.intro ?_ ?_) | exact Or.inl rfl | exact Or.inr (by assumption) | exact List.Mem.head _ | exact List.Mem.tail _ (List.Mem.head _) | exact ⟨_, rfl⟩ | exact ⟨_, rfl, Or.inl rfl⟩ | (refine ⟨_, rfl, Or.inr ?_⟩; (try (conv => cbv))) | (simp only [I.val] at *; first | omega | (subst_vars; rfl) | simp_all) | (refine Or.inr ?_; (try (conv => cbv)))))) (by (try (conv => cbv)); (repeat' (first | exact trivial | rfl | exact SEq.mk rfl | (exact SEq.mk (by first | assumption | (symm; assumption))) | (simp only [I.val]; done) | (simp only [I.val]; omega) | omega | assumption | (refine And.intro ?_ ?_) | exact Or.inl rfl | exact Or.inr (by assumption) | exact List.Mem.head _ | exact List.Mem.tail _ (List.Mem.head _) | exact ⟨_, rfl⟩ | exact ⟨_, rfl, Or.inl rfl⟩ | (refine ⟨_, rfl, Or.inr ?_⟩; (try (conv => cbv))) | (simp only [I.val] at *; first | omega | (subst_vars; rfl) | simp_all) | (refine Or.inr ?_; (try (conv => cbv))))))) rfl ⟨rfl, rfl, rfl⟩
theorem reset_lx (j : Int) (L : List PV) : CallF (fun _ => Try.prog) 14 [.ptr 0 (.lit 0)] [(0, .bld 40 [.p (.vsl (.sym j) true L)])] 1 (fun r h n' => r = .tup [] ∧ h = [(0, .bld 40 [.p .nils])] ∧ n' = 1) := by
  refine callF_of_body tok Try.func14 (by kernel_rfl) rfl rfl rfl ?_; conv => cbv
  refine RetF.mk [] [(0, .bld 40 [.p .nils])] 1 (Re.of [(0, 0)] [] (by first | exact Nat.zero_le _ | exact Nat.le_refl _ | decide | (dsimp only; decide)) rfl rfl (by (try (conv => cbv)); (repeat' (first | exact trivial | rfl | exact SEq.mk rfl | (exact SEq.mk (by first | assumption | (symm; assumption))) | (simp only [I.val]; done) | (simp only [I.val]; omega) | omega | assumption | (refine And.intro ?_ ?_) | exact Or.inl rfl | exact Or.inr (by assumption) | exact List.Mem.head _ | exact List.Mem.tail _ (List.Mem.head _) | exact ⟨_, rfl⟩ | exact ⟨_, rfl, Or.inl rfl⟩ | (refine ⟨_, rfl, Or.inr ?_⟩; (try (conv => cbv))) | (simp only [I.val] at *; first | omega | (subst_vars; rfl) | simp_all) | (refine Or.inr ?_; (try (conv => cbv)))))) (by (try (conv => cbv)); (repeat' (first | exact trivial | rfl | exact SEq.mk rfl | (exact SEq.mk (by first | assumption | (symm; assumption))) | (simp only [I.val]; done) | (simp only [I.val]; omega) | omega | assumption | (refine And.intro ?_ ?_) | exact Or.inl rfl | exact Or.inr (by assumption) | exact List.Mem.head _ | exact List.Mem.tail _ (List.Mem.head _) | exact ⟨_, rfl⟩ | exact ⟨_, rfl, Or.inl rfl⟩ | (refine ⟨_, rfl, Or.inr ?_⟩; (try (conv => cbv))) | (simp only [I.val] at *; first | omega | (subst_vars; rfl) | simp_all) | (refine Or.inr ?_; (try (conv => cbv))))))) rfl ⟨rfl, rfl, rfl⟩
theorem checkSigns_lx (bl : List UInt8) (z : ByteArray) (hz : z = bytesOfL bl) (hg : Good8 bl) (hlen : bl.length ≤ 2000) : CallF (fun _ => Try.prog) 7 [.p (.str fun _ => z)] [] 0 (fun r h n' => r = .p (.int .i64 (.sym 0)) ∧ h = [] ∧ n' = 0) := by
  obtain ⟨N, hN⟩ : ∃ N : Int, N = bl.length := ⟨_, rfl⟩
  have hzs : (z.size : Int) = N := by rw [hz, bol_size, hN]
  have hlow : ∀ c ∈ bl, c.toNat < 128 := fun c hc => by have := hg c hc; omega
  refine callF_of_body tok Try.func7 (by kernel_rfl) rfl rfl rfl ?_; conv => cbv
  refine LoopF.mk (fun k s => ∃ pos : Int, s = ⟨.p (.str fun _ => z) :: (undefs 2 ++ .p (.int .i64 (.sym pos)) :: .p (.int .i64 (.sym 0)) :: (undefs 2 ++ .p (.str fun _ => z) :: .ptr 0 (.lit 0) :: undefs 21)), [(0, .iter (fun _ => z) (.sym pos))], 1⟩ ∧ 0 ≤ pos ∧ pos ≤ N ∧ k = (N - pos).toNat) N.toNat _
    (Re.of [(0, 0)] [] (by first | exact Nat.zero_le _ | exact Nat.le_refl _ | decide | (dsimp only; decide)) rfl rfl (by (try (conv => cbv)); (repeat' (first | exact trivial | rfl | exact SEq.mk rfl | (exact SEq.mk (by first | assumption | (symm; assumption))) | (simp only [I.val]; done) | (simp only [I.val]; omega) | omega | assumption | (refine And.intro ?_ ?_) | exact Or.inl rfl | exact Or.inr (by assumption) | exact List.Mem.head _ | exact List.Mem.tail _ (List.Mem.head _) | exact ⟨_, rfl⟩ | exact ⟨_, rfl, Or.inl rfl⟩ | (refine ⟨_, rfl, Or.inr ?_⟩; (try (conv => cbv))) | (simp only [I.val] at *; first | omega | (subst_vars; rfl) | simp_all) | (refine Or.inr ?_; (try (conv => cbv)))))) (by (try (conv => cbv)); (repeat' (first | exact trivial | rfl | exact SEq.mk rfl | (exact SEq.mk (by first | assumption | (symm; assumption))) | (simp only [I.val]; done) | (simp only [I.val]; omega) | omega | assumption | (refine And.intro ?_ ?_) | exact Or.inl rfl | exact Or.inr (by assumption) | exact List.Mem.head _ | exact List.Mem.tail _ (List.Mem.head _) | exact ⟨_, rfl⟩ | exact ⟨_, rfl, Or.inl rfl⟩ | (refine ⟨_, rfl, Or.inr ?_⟩; (try (conv => cbv))) | (simp only [I.val] at *; first | omega | (subst_vars; rfl) | simp_all) | (refine Or.inr ?_; (try (conv => cbv))))))) ⟨0, rfl, by omega, by omega, by omega⟩ ?_
  rintro k s ⟨pos, rfl, h0, h1, hk⟩
  conv => cbv
  by_cases hend : pos = N
  · refine NextS.over (by show (z.size : Int) ≤ pos; omega) ?_
    conv => cbv
    refine Br.mk (fun g => ?_) (fun g => ?_)
    case refine_1 =>
      have gf : False := by have g : 2000 < pos := g; omega
      cases gf
    conv => cbv
    refine Br.mk (fun g => ?_) (fun g => ?_)
    case refine_1 =>
      have gf : False := by have g : (0 : Int) < 0 := g; omega
      cases gf
    conv => cbv
    refine RetF.mk [.p (.int .i64 (.sym 0))] [] 0 (Re.of [] [] (by first | exact Nat.zero_le _ | exact Nat.le_refl _ | decide | (dsimp only; decide)) rfl rfl (by (try (conv => cbv)); (repeat' (first | exact trivial | rfl | exact SEq.mk rfl | (exact SEq.mk (by first | assumption | (symm; assumption))) | (simp only [I.val]; done) | (simp only [I.val]; omega) | omega | assumption | (refine And.intro ?_ ?_) | exact Or.inl rfl | exact Or.inr (by assumption) | exact List.Mem.head _ | exact List.Mem.tail _ (List.Mem.head _) | exact ⟨_, rfl⟩ | exact ⟨_, rfl, Or.inl rfl⟩ | (refine ⟨_, rfl, Or.inr ?_⟩; (try (conv => cbv))) | (simp only [I.val] at *; first | omega | (subst_vars; rfl) | simp_all) | (refine Or.inr ?_; (try (conv => cbv)))))) (by (try (conv => cbv)); (repeat' (first | exact trivial | rfl | exact SEq.mk rfl | (exact SEq.mk (by first | assumption | (symm; assumption))) | (simp only [I.val]; done) | (simp only [I.val]; omega) | omega | assumption | (refine And.intro ?_ ?_) | exact Or.inl rfl | exact Or.inr (by assumption) | exact List.Mem.head _ | exact List.Mem.tail _ (List.Mem.head _) | exact ⟨_, rfl⟩ | exact ⟨_, rfl, Or.inl rfl⟩ | (refine ⟨_, rfl, Or.inr ?_⟩; (try (conv => cbv))) | (simp only [I.val] at *; first | omega | (subst_vars; rfl) | simp_all) | (refine Or.inr ?_; (try (conv => cbv))))))) rfl ⟨rfl, rfl, rfl⟩
  · obtain ⟨c, hc⟩ : ∃ c, bl[pos.toNat]? = some c := ⟨_, List.getElem?_eq_getElem (by omega)⟩
    have hd := dec_at bl hlow pos.toNat c hc
    have hcg := hg c (List.mem_of_getElem? hc)
    obtain ⟨k', rfl⟩ : ∃ k', k = k' + 1 := ⟨k - 1, by omega⟩
    refine NextS.more (by show pos < (z.size : Int); omega) ?_
    intro r p' hr hp
    have hr : r = (c.toNat : Int) := by
      have : r = ((Utf8.decode z pos.toNat).1 : Int) := hr
      rw [this, hz, bytesOfL, hd]
    have hp : p' = pos + 1 := by
      have : p' = pos + ((Utf8.decode z pos.toNat).2 : Int) := hp
      rw [this, hz, bytesOfL, hd]; rfl
    conv => cbv
    refine Fit.mk (by show (-9223372036854775808 : Int) ≤ pos + 1; omega) (by show pos + 1 ≤ 9223372036854775807; omega) fun c2 hc2 => ?_
    have hc2 : c2 = pos + 1 := hc2
    have hcp : c2 = p' := by omega
    conv => cbv
    refine Br.mk (fun g => ?_) (fun g => ?_)
    · have g : ¬ r = 10 := g
      conv => cbv
      refine Br.mk (fun g => ?_) (fun g => ?_)
      case refine_1 =>
        have gf : False := by have g : r < 32 := g; omega
        cases gf
      conv => cbv
      refine Br.mk (fun g => ?_) (fun g => ?_)
      case refine_1 =>
        have gf : False := by have g : 126 < r := g; omega
        cases gf
      conv => cbv
      refine Again.mk k' _ (Nat.lt_succ_self _) (Re.of [(0, 0)] [] (by first | exact Nat.zero_le _ | exact Nat.le_refl _ | decide | (dsimp only; decide)) rfl rfl (by (try (conv => cbv)); (repeat' (first | exact trivial | rfl | exact SEq.mk rfl | (exact SEq.mk (by first | assumption | (symm; assumption))) | (simp only [I.val]; done) | (simp only [I.val]; omega) | omega | assumption | (refine And.intro ?_ ?_) | exact Or.inl rfl | exact Or.inr (by assumption) | exact List.Mem.head _ | exact List.Mem.tail _ (List.Mem.head _) | exact ⟨_, rfl⟩ | exact ⟨_, rfl, Or.inl rfl⟩ | (refine ⟨_, rfl, Or.inr ?_⟩; (try (conv => cbv))) | (simp only [I.val] at *; first | omega | (subst_vars; rfl) | simp_all) | (refine Or.inr ?_; (try (conv => cbv)))))) (by (try (conv => cbv)); (repeat' (first | exact trivial | rfl | exact SEq.mk rfl | (exact SEq.mk (by first | assumption | (symm; assumption))) | (simp only [I.val]; done) | (simp only [I.val]; omega) | omega | assumption | (refine And.intro ?_ ?_) | exact Or.inl rfl | exact Or.inr (by assumption) | exact List.Mem.head _ | exact List.Mem.tail _ (List.Mem.head _) | exact ⟨_, rfl⟩ | exact ⟨_, rfl, Or.inl rfl⟩ | (refine ⟨_, rfl, Or.inr ?_⟩; (try (conv => cbv))) | (simp only [I.val] at *; first | omega | (subst_vars; rfl) | simp_all) | (refine Or.inr ?_; (try (conv => cbv))))))) ⟨p', rfl, by omega, by omega, by omega⟩
    · conv => cbv
      refine Again.mk k' _ (Nat.lt_succ_self _) (Re.of [(0, 0)] [] (by first | exact Nat.zero_le _ | exact Nat.le_refl _ | decide | (dsimp only; decide)) rfl rfl (by (try (conv => cbv)); (repeat' (first | exact trivial | rfl | exact SEq.mk rfl | (exact SEq.mk (by first | assumption | (symm; assumption))) | (simp only [I.val]; done) | (simp only [I.val]; omega) | omega | assumption | (refine And.intro ?_ ?_) | exact Or.inl rfl | exact Or.inr (by assumption) | exact List.Mem.head _ | exact List.Mem.tail _ (List.Mem.head _) | exact ⟨_, rfl⟩ | exact ⟨_, rfl, Or.inl rfl⟩ | (refine ⟨_, rfl, Or.inr ?_⟩; (try (conv => cbv))) | (simp only [I.val] at *; first | omega | (subst_vars; rfl) | simp_all) | (refine Or.inr ?_; (try (conv => cbv)))))) (by (try (conv => cbv)); (repeat' (first | exact trivial | rfl | exact SEq.mk rfl | (exact SEq.mk (by first | assumption | (symm; assumption))) | (simp only [I.val]; done) | (simp only [I.val]; omega) | omega | assumption | (refine And.intro ?_ ?_) | exact Or.inl rfl | exact Or.inr (by assumption) | exact List.Mem.head _ | exact List.Mem.tail _ (List.Mem.head _) | exact ⟨_, rfl⟩ | exact ⟨_, rfl, Or.inl rfl⟩ | (refine ⟨_, rfl, Or.inr ?_⟩; (try (conv => cbv))) | (simp only [I.val] at *; first | omega | (subst_vars; rfl) | simp_all) | (refine Or.inr ?_; (try (conv => cbv))))))) ⟨p', rfl, by omega, by omega, by omega⟩
end Go.Proofs.Ytceijllbkmobkaa
