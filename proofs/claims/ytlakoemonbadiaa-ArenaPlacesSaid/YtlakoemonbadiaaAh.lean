/-
  Layer 7: ArenaPlaces.
-/
import Derived.Test.YtlakoemonbadiaaAg
namespace Go.Proofs.Ytlakoemonbadiaa
open Go Go.LX
set_option maxRecDepth 100000
set_option linter.unusedVariables false
set_option linter.unusedSimpArgs false

/-- An arena, and the places of all its objects, which are buffers. -/
structure Placed (R : List Rw) (ws ats : List Int) : Prop where
  ok : AOk R ws
  len : R.length = 12
  cnt : objCount R = ats.length
  kept : ∀ a ∈ ats, ∃ l, Kept R ws a 2 l
theorem Placed.err {R R' : List Rw} {ws ws' ats : List Int} {n a e : Int} (h : Placed R ws ats) (hAl : Alloct R ws 2 n a e R' ws') (he : ¬ e = 0) : Placed R' ws' ats := by
  cases hAl with
  | arg _ => exact h
  | room i s R' hc ha =>
    obtain ⟨rfl, _⟩ := full_count h.ok.rows (ofN_slots n) ha
    exact h
  | ok i s _ R' hc ha hi hat => exact absurd rfl he
theorem Placed.ok_ {R R' : List Rw} {ws ws' ats : List Int} {n a e : Int} (h : Placed R ws ats) (hAl : Alloct R ws 2 n a e R' ws') (he : e = 0) : Placed R' ws' (ats ++ [a]) := by
  obtain ⟨h1, h2⟩ := h.ok.alloct hAl
  obtain ⟨g1, g2, g3, g4, g5, g6⟩ := alloct_ok h.ok hAl he
  refine ⟨h1, by rw [h2, h.len], by rw [g3, h.cnt, List.length_append]; rfl, fun b hb => ?_⟩
  rcases List.mem_append.1 hb with hb | hb
  · obtain ⟨l, hl⟩ := h.kept b hb
    exact ⟨l, g5 b 2 l hl⟩
  · rw [List.mem_singleton.1 hb]; exact ⟨n, g1⟩
theorem kindR_no {R : List Rw} {ws : List Int} {a v : Int} (h : ¬ IsObj R a) (hv : KindR R ws a v) : v = 0 := by
  cases hv with
  | no hn => rfl
  | is k' l' h' => exact absurd h'.obj h
theorem obj_mod {R : List Rw} (hR : RowsOk R) {a : Int} (h : IsObj R a) : a % 4 = 0 ∧ 0 ≤ a ∧ a + 4 ≤ 32 * R.length := by
  obtain ⟨w, h⟩ := isObj_iff.1 h
  obtain ⟨h1, h2, h3, k, h4⟩ := h.facts hR
  rcases h3 with h3 | h3 | h3 | h3 <;> (rw [h3] at h4; omega)
set_option maxHeartbeats 4000000 in
theorem arenaPlaces_law (ks : List Int) (m off : Int) (ZL : List PV) (hm : m = ks.length) (hZL : ZL = ks.map fun z => PV.int .i64 (.sym z)) (hml : m ≤ 9223372036854775807) (hkb : ∀ z ∈ ks, -9223372036854775808 ≤ z ∧ z ≤ 9223372036854775807) (ho : -9223372036854775808 ≤ off ∧ off ≤ 9223372036854775807) :
    CallF (fun _ => Try.prog) 6 [.p (.vsl (.sym m) true ZL), .p (.int .i64 (.sym off))] [] 0 (fun r _ _ => r = .p (.bool true)) := by
  obtain ⟨Rz, hRz⟩ : ∃ Rz, Rz = List.replicate (12 : Int).toNat ((0, []) : Rw) := ⟨_, rfl⟩
  obtain ⟨wz, hwz⟩ : ∃ wz, wz = List.replicate (384 : Int).toNat (0 : Int) := ⟨_, rfl⟩
  have hA : AOk Rz wz := by rw [hRz, hwz]; exact AOk.new 12
  have hno : ∀ a, ¬ IsObj Rz a := by rw [hRz]; exact new_none 12
  have hlz : Rz.length = 12 := by rw [hRz]; rfl
  have hcz : objCount Rz = 0 := by rw [hRz]; exact new_count 12
  obtain ⟨L0, hL0⟩ : ∃ L0, L0 = rpv Rz := ⟨_, rfl⟩
  obtain ⟨D0, hD0⟩ : ∃ D0, D0 = ipv wz := ⟨_, rfl⟩
  refine callF_of_body tok Try.func6 (by kernel_rfl) rfl rfl rfl ?_; conv => cbv
  refine CallF.le (args0 := [.p (.int .i64 (.sym 12))]) (callF_frame (newA_lx 12 384 (by decide) (by decide) rfl L0 D0 (by rw [hL0, hRz]) (by rw [hD0, hwz])) [] rfl trivial rfl rfl (fun r h' n' ⟨e1, e2, e3⟩ => ?_)) (by simp [ales, ale, pvle, I.val])
  subst e1 e2 e3
  conv => cbv
  refine callF_frame awake07_lx [] rfl trivial rfl rfl (fun r h' n' ⟨e1, e2, e3⟩ => ?_)
  subst e1 e2 e3
  conv => cbv
  obtain ⟨g, hg⟩ : ∃ g : List Int → Int, ∀ l, g l = l.length := ⟨_, fun _ => rfl⟩
  have g0 : g [] = 0 := by rw [hg]; rfl
  have P0 : Placed Rz wz [] := ⟨hA, hlz, hcz, fun a ha => by simp at ha⟩
  refine LoopF.mk (fun k s => ∃ (i j : Int) (L1 D1 O : List PV) (R : List Rw) (ws ats : List Int), s = ⟨.p (.vsl (.sym m) true ZL) :: .p (.int .i64 (.sym off)) :: (undefs 3 ++ .ptr 0 (.lit 0) :: .undef :: .sl 4 3 1 (.lit 0) (.sym j) :: .p (.int .i64 (.sym i)) :: undefs 111), [(0, .mix [.ptr 1 (.lit 0), .sl 3 3 1 (.lit 0) (.sym 384)]), (1, .mix [.sl 2 79 2 (.lit 0) (.sym 12)]), (2, .pure true L1), (3, .pure true D1), (4, .pure true O)], 5⟩ ∧ Placed R ws ats ∧ L1 = rpv R ∧ D1 = ipv ws ∧ O = ipv ats ∧ j = g ats ∧ 0 ≤ i ∧ i ≤ 10 ∧ 0 ≤ j ∧ j ≤ i ∧ k = (10 - i).toNat) 10 _
    (Re.of [(0, 0), (1, 1), (2, 2), (3, 3)] [4] (by first | exact Nat.zero_le _ | exact Nat.le_refl _ | decide | (dsimp only; decide)) rfl rfl (by (try (conv => cbv)); (repeat' (first | exact trivial | rfl | exact SEq.mk rfl | (exact SEq.mk (by first | assumption | (symm; assumption))) | (simp only [I.val]; done) | (simp only [I.val]; omega) | omega | assumption | (refine And.intro ?_ ?_) | exact Or.inl rfl | exact Or.inr (by assumption) | exact List.Mem.head _ | exact List.Mem.tail _ (List.Mem.head _) | exact ⟨_, rfl⟩ | exact ⟨_, rfl, Or.inl rfl⟩ | (refine ⟨_, rfl, Or.inr ?_⟩; (try (conv => cbv))) | (simp only [I.val] at *; first | omega | (subst_vars; rfl) | simp_all) | (refine Or.inr ?_; (try (conv => cbv)))))) (by (try (conv => cbv)); (repeat' (first | exact trivial | rfl | exact SEq.mk rfl | (exact SEq.mk (by first | assumption | (symm; assumption))) | (simp only [I.val]; done) | (simp only [I.val]; omega) | omega | assumption | (refine And.intro ?_ ?_) | exact Or.inl rfl | exact Or.inr (by assumption) | exact List.Mem.head _ | exact List.Mem.tail _ (List.Mem.head _) | exact ⟨_, rfl⟩ | exact ⟨_, rfl, Or.inl rfl⟩ | (refine ⟨_, rfl, Or.inr ?_⟩; (try (conv => cbv))) | (simp only [I.val] at *; first | omega | (subst_vars; rfl) | simp_all) | (refine Or.inr ?_; (try (conv => cbv))))))) ⟨0, 0, L0, D0, [], Rz, wz, [], rfl, P0, hL0, hD0, rfl, g0.symm, by omega, by omega, by omega, by omega, by omega⟩ ?_
  clear P0 hL0 hD0
  rintro k s ⟨i, j, L1, D1, O, R, ws, ats, rfl, hP, hL1, hD1, hO, hj, hi0, hi1, hj0, hj1, hk⟩
  conv => cbv
  refine Br.mk (fun gi => ?_) (fun gi => ?_)
  · have gi : i < m := gi
    conv => cbv
    refine Br.mk (fun gi2 => ?_) (fun gi2 => ?_)
    · have gi2 : i < 10 := gi2
      obtain ⟨k', rfl⟩ : ∃ k', k = k' + 1 := ⟨k - 1, by omega⟩
      obtain ⟨z, hz⟩ : ∃ z, ks[i.toNat]? = some z := ⟨_, List.getElem?_eq_getElem (by omega)⟩
      have hzb := hkb z (List.mem_of_getElem? hz)
      have hc : ZL[i.toNat]? = some (.int .i64 (.sym z)) := by rw [hZL, List.getElem?_map, hz]; rfl
      have hPl := hP.len
      have hn12 : (12 : Int) = R.length := by rw [hPl]; rfl
      have hr1000 : R.length ≤ 1000 := by omega
      conv => cbv
      refine Need.mk ⟨hi0, by show i < m; omega⟩ ?_
      conv => cbv
      refine Cell.at i _ hc (by simp [I.val]) rfl ?_
      conv => cbv
      refine Fit.wrap fun xz hxz => ?_
      have hxz : xz = IntKind.u64.wrap z := hxz
      have hxz0 : 0 ≤ xz := by rw [hxz]; simp [IntKind.wrap, IntKind.bits, IntKind.signed]; omega
      clear hxz
      conv => cbv
      refine Sum.mk fun yz hyz => ?_
      have hyz : yz = xz % 32 := (show yz = xz.tmod 32 from hyz).trans (Int.tmod_eq_emod_of_nonneg hxz0)
      conv => cbv
      refine Fit.mk (by show (-9223372036854775808 : Int) ≤ yz; omega) (by show yz ≤ 9223372036854775807; omega) fun sz hsz => ?_
      have hsz : sz = yz := hsz
      have hsz0 : 0 ≤ sz := by omega
      have hsz31 : sz ≤ 31 := by omega
      clear hsz hyz hxz0
      conv => cbv
      refine CallF.le (args0 := [.ptr 0 (.lit 0), .p (.int .i64 (.sym 2)), .p (.int .i64 (.sym sz))]) (callF_frame (allocA_lx 2 sz R ws 12 384 L1 D1 hL1 hD1 hn12 hr1000 hP.ok rfl) [(0, 0), (1, 1), (2, 2), (3, 3)] rfl (by simp [hmapOk, nget, hget, renB, okB, renV, renVs, rn, okVs, okV]) rfl rfl (fun r h' n' hrr => ?_)) (by simp [ales, ale, pvle, I.val])
      obtain ⟨a, e, R2, w2, L2, D2, e1, e2, e3, hL2, hD2, hAl⟩ := hrr
      subst e1 e2 e3
      conv => cbv
      refine Br.mk (fun ge => ?_) (fun ge => ?_)
      · have ge : ¬ e = 0 := ge
        have hP2 := hP.err hAl ge
        clear hAl hP hL1 hD1 hPl hn12 hr1000
        have hPl := hP2.len
        have hn12 : (12 : Int) = R2.length := by rw [hPl]; rfl
        have hr1000 : R2.length ≤ 1000 := by omega
        have hmod : ∀ a, IsObj R2 a → a % 4 = 0 ∧ 0 ≤ a ∧ a + 4 ≤ 384 := fun a ha => by have := obj_mod hP2.ok.rows ha; omega
        have hjl : j = ats.length := by rw [hj, hg]
        have hcnt : j = objCount R2 := by rw [hjl, hP2.cnt]
        conv => cbv
        refine Fit.wrap fun xo hxo => ?_
        have hxo : xo = IntKind.u64.wrap off := hxo
        have hxo0 : 0 ≤ xo := by rw [hxo]; simp [IntKind.wrap, IntKind.bits, IntKind.signed]; omega
        clear hxo
        conv => cbv
        refine Sum.mk fun yo hyo => ?_
        have hyo : yo = xo % 3 := (show yo = xo.tmod 3 from hyo).trans (Int.tmod_eq_emod_of_nonneg hxo0)
        conv => cbv
        refine Fit.mk (by show (-9223372036854775808 : Int) ≤ yo; omega) (by show yo ≤ 9223372036854775807; omega) fun zo hzo => ?_
        have hzo : zo = yo := hzo
        conv => cbv
        refine Fit.mk (by show (-9223372036854775808 : Int) ≤ 1 + zo; omega) (by show 1 + zo ≤ 9223372036854775807; omega) fun o2 ho2 => ?_
        have ho2 : o2 = 1 + zo := ho2
        have ho20 : 1 ≤ o2 := by omega
        have ho23 : o2 ≤ 3 := by omega
        clear ho2 hzo hyo hxo0
        conv => cbv
        refine LoopF.mk (fun k s => ∃ i2 : Int, s = ⟨.undef :: .p (.int .i64 (.sym o2)) :: (undefs 3 ++ .ptr 0 (.lit 0) :: .undef :: .sl 4 3 1 (.lit 0) (.sym j) :: (undefs 3 ++ .p (.int .i64 (.sym i2)) :: undefs 108)), [(0, .mix [.ptr 1 (.lit 0), .sl 3 3 1 (.lit 0) (.sym 384)]), (1, .mix [.sl 2 79 2 (.lit 0) (.sym 12)]), (2, .pure true L2), (3, .pure true D2), (4, .pure true O)], 5⟩ ∧ 0 ≤ i2 ∧ i2 ≤ j ∧ k = (j - i2).toNat) j.toNat _
          (Re.of [(0, 0), (1, 1), (2, 2), (3, 3), (4, 4)] [] (by first | exact Nat.zero_le _ | exact Nat.le_refl _ | decide | (dsimp only; decide)) rfl rfl (by (try (conv => cbv)); (repeat' (first | exact trivial | rfl | exact SEq.mk rfl | (exact SEq.mk (by first | assumption | (symm; assumption))) | (simp only [I.val]; done) | (simp only [I.val]; omega) | omega | assumption | (refine And.intro ?_ ?_) | exact Or.inl rfl | exact Or.inr (by assumption) | exact List.Mem.head _ | exact List.Mem.tail _ (List.Mem.head _) | exact ⟨_, rfl⟩ | exact ⟨_, rfl, Or.inl rfl⟩ | (refine ⟨_, rfl, Or.inr ?_⟩; (try (conv => cbv))) | (simp only [I.val] at *; first | omega | (subst_vars; rfl) | simp_all) | (refine Or.inr ?_; (try (conv => cbv)))))) (by (try (conv => cbv)); (repeat' (first | exact trivial | rfl | exact SEq.mk rfl | (exact SEq.mk (by first | assumption | (symm; assumption))) | (simp only [I.val]; done) | (simp only [I.val]; omega) | omega | assumption | (refine And.intro ?_ ?_) | exact Or.inl rfl | exact Or.inr (by assumption) | exact List.Mem.head _ | exact List.Mem.tail _ (List.Mem.head _) | exact ⟨_, rfl⟩ | exact ⟨_, rfl, Or.inl rfl⟩ | (refine ⟨_, rfl, Or.inr ?_⟩; (try (conv => cbv))) | (simp only [I.val] at *; first | omega | (subst_vars; rfl) | simp_all) | (refine Or.inr ?_; (try (conv => cbv))))))) ⟨0, rfl, by omega, by omega, by omega⟩ ?_
        rintro k2 s ⟨i2, rfl, hi20, hi21, hk2⟩
        conv => cbv
        refine Br.mk (fun gi => ?_) (fun gi => ?_)
        · have gi : i2 < j := gi
          obtain ⟨k2', rfl⟩ : ∃ k', k2 = k' + 1 := ⟨k2 - 1, by omega⟩
          obtain ⟨a, ha⟩ : ∃ a, ats[i2.toNat]? = some a := ⟨_, List.getElem?_eq_getElem (by omega)⟩
          have hcO : O[i2.toNat]? = some (.int .i64 (.sym a)) := by rw [hO]; exact ipv_get ha
          obtain ⟨l, hl⟩ := hP2.kept a (List.mem_of_getElem? ha)
          have ham := hmod a hl.obj
          have hoff : ¬ IsObj R2 (a + o2) := fun h => by have := hmod _ h; omega
          conv => cbv
          refine Need.mk ⟨hi20, gi⟩ ?_
          conv => cbv
          refine Cell.at i2 _ hcO (by simp [I.val]) rfl ?_
          conv => cbv
          refine Sum.mk fun q hq => ?_
          have hq : q = a % 4 := (show q = a.tmod 4 from hq).trans (Int.tmod_eq_emod_of_nonneg (by omega))
          conv => cbv
          refine Br.mk (fun g => ?_) (fun g => ?_)
          case refine_1 =>
            have gf : False := by have g : ¬ q = 0 := g; omega
            cases gf
          conv => cbv
          refine Need.mk ⟨hi20, gi⟩ ?_
          conv => cbv
          refine Cell.at i2 _ hcO (by simp [I.val]) rfl ?_
          conv => cbv
          refine callF_frame (kind_lx R2 w2 12 a 384 L2 D2 hL2 hD2 hn12 hr1000 hP2.ok rfl) [(0, 0), (1, 1), (2, 2), (3, 3)] rfl (by simp [hmapOk, nget, hget, renB, okB, renV, renVs, rn, okVs, okV]) rfl rfl (fun r h' n' hrr => ?_)
          obtain ⟨kv, e1, e2, e3, hkv⟩ := hrr
          subst e1 e2 e3
          conv => cbv
          have hkv := kindR_of hl hkv
          refine Br.mk (fun g => ?_) (fun g => ?_)
          case refine_1 =>
            have gf : False := g hkv
            cases gf
          conv => cbv
          refine Need.mk ⟨hi20, gi⟩ ?_
          conv => cbv
          refine Cell.at i2 _ hcO (by simp [I.val]) rfl ?_
          conv => cbv
          refine Fit.mk (by show (-9223372036854775808 : Int) ≤ a + o2; omega) (by show a + o2 ≤ 9223372036854775807; omega) fun b hb => ?_
          have hb : b = a + o2 := hb
          rw [← hb] at hoff
          conv => cbv
          refine callF_frame (kind_lx R2 w2 12 b 384 L2 D2 hL2 hD2 hn12 hr1000 hP2.ok rfl) [(0, 0), (1, 1), (2, 2), (3, 3)] rfl (by simp [hmapOk, nget, hget, renB, okB, renV, renVs, rn, okVs, okV]) rfl rfl (fun r h' n' hrr => ?_)
          obtain ⟨kw, e1, e2, e3, hkw⟩ := hrr
          subst e1 e2 e3
          conv => cbv
          have hkw := kindR_no hoff hkw
          refine Br.mk (fun g => ?_) (fun g => ?_)
          case refine_1 =>
            have gf : False := g hkw
            cases gf
          conv => cbv
          refine Need.mk ⟨hi20, gi⟩ ?_
          conv => cbv
          refine Cell.at i2 _ hcO (by simp [I.val]) rfl ?_
          conv => cbv
          refine Fit.mk (by show (-9223372036854775808 : Int) ≤ a + o2; omega) (by show a + o2 ≤ 9223372036854775807; omega) fun b2 hb2 => ?_
          have hb2 : b2 = a + o2 := hb2
          have hb2 : b2 = b := by omega
          rw [← hb2] at hoff
          conv => cbv
          refine callF_frame (freeA_lx b2 R2 w2 12 384 L2 D2 hL2 hD2 hn12 hr1000 hP2.ok rfl) [(0, 0), (1, 1), (2, 2), (3, 3)] rfl (by simp [hmapOk, nget, hget, renB, okB, renV, renVs, rn, okVs, okV]) rfl rfl (fun r h' n' hrr => ?_)
          obtain ⟨ef, Rf, Lf, e1, e2, e3, hLf, hFf⟩ := hrr
          subst e1 e2 e3
          conv => cbv
          obtain ⟨hef, hRf⟩ := freet_none hFf hoff
          have hLL : Lf = L2 := by rw [hLf, hL2, hRf]
          clear hLf hFf
          subst hLL
          refine Br.mk (fun g => ?_) (fun g => ?_)
          case refine_1 =>
            have gf : False := g hef
            cases gf
          conv => cbv
          refine Fit.mk (by show (-9223372036854775808 : Int) ≤ i2 + 1; omega) (by show i2 + 1 ≤ 9223372036854775807; omega) fun i3 hi3 => ?_
          have hi3 : i3 = i2 + 1 := hi3
          conv => cbv
          refine Again.mk k2' _ (Nat.lt_succ_self _) (Re.of [(0, 0), (1, 1), (2, 2), (3, 3), (4, 4)] [] (by first | exact Nat.zero_le _ | exact Nat.le_refl _ | decide | (dsimp only; decide)) rfl rfl (by (try (conv => cbv)); (repeat' (first | exact trivial | rfl | exact SEq.mk rfl | (exact SEq.mk (by first | assumption | (symm; assumption))) | (simp only [I.val]; done) | (simp only [I.val]; omega) | omega | assumption | (refine And.intro ?_ ?_) | exact Or.inl rfl | exact Or.inr (by assumption) | exact List.Mem.head _ | exact List.Mem.tail _ (List.Mem.head _) | exact ⟨_, rfl⟩ | exact ⟨_, rfl, Or.inl rfl⟩ | (refine ⟨_, rfl, Or.inr ?_⟩; (try (conv => cbv))) | (simp only [I.val] at *; first | omega | (subst_vars; rfl) | simp_all) | (refine Or.inr ?_; (try (conv => cbv)))))) (by (try (conv => cbv)); (repeat' (first | exact trivial | rfl | exact SEq.mk rfl | (exact SEq.mk (by first | assumption | (symm; assumption))) | (simp only [I.val]; done) | (simp only [I.val]; omega) | omega | assumption | (refine And.intro ?_ ?_) | exact Or.inl rfl | exact Or.inr (by assumption) | exact List.Mem.head _ | exact List.Mem.tail _ (List.Mem.head _) | exact ⟨_, rfl⟩ | exact ⟨_, rfl, Or.inl rfl⟩ | (refine ⟨_, rfl, Or.inr ?_⟩; (try (conv => cbv))) | (simp only [I.val] at *; first | omega | (subst_vars; rfl) | simp_all) | (refine Or.inr ?_; (try (conv => cbv))))))) ⟨i3, rfl, by omega, by omega, by omega⟩
        · have gi : ¬ i2 < j := gi
          have hm1 : ¬ IsObj R2 (-1) := fun h => by have := hmod _ h; omega
          have hm2 : ¬ IsObj R2 384 := fun h => by have := hmod _ h; omega
          conv => cbv
          refine CallF.le (args0 := [.ptr 0 (.lit 0), .p (.int .i64 (.sym (-1)))]) (callF_frame (kind_lx R2 w2 12 (-1) 384 L2 D2 hL2 hD2 hn12 hr1000 hP2.ok rfl) [(0, 0), (1, 1), (2, 2), (3, 3)] rfl (by simp [hmapOk, nget, hget, renB, okB, renV, renVs, rn, okVs, okV]) rfl rfl (fun r h' n' hrr => ?_)) (by simp [ales, ale, pvle, I.val])
          obtain ⟨kv, e1, e2, e3, hkv⟩ := hrr
          subst e1 e2 e3
          conv => cbv
          have hkv := kindR_no hm1 hkv
          refine Br.mk (fun g => ?_) (fun g => ?_)
          case refine_2 =>
            have gf : False := g hkv
            cases gf
          conv => cbv
          refine callF_frame (wordsA_lx R2 w2 12 384 L2 D2 hL2 hD2 hn12 hr1000 hP2.ok rfl) [(0, 0), (1, 1), (2, 2), (3, 3)] rfl (by simp [hmapOk, nget, hget, renB, okB, renV, renVs, rn, okVs, okV]) rfl rfl (fun r h' n' ⟨e1, e2, e3⟩ => ?_)
          subst e1 e2 e3
          conv => cbv
          refine callF_frame (kind_lx R2 w2 12 384 384 L2 D2 hL2 hD2 hn12 hr1000 hP2.ok rfl) [(0, 0), (1, 1), (2, 2), (3, 3)] rfl (by simp [hmapOk, nget, hget, renB, okB, renV, renVs, rn, okVs, okV]) rfl rfl (fun r h' n' hrr => ?_)
          obtain ⟨kw, e1, e2, e3, hkw⟩ := hrr
          subst e1 e2 e3
          conv => cbv
          have hkw := kindR_no hm2 hkw
          refine Br.mk (fun g => ?_) (fun g => ?_)
          case refine_2 =>
            have gf : False := g hkw
            cases gf
          conv => cbv
          refine callF_frame (objects_lx j R2 12 384 L2 D2 hL2 hn12 hr1000 hP2.ok.rows rfl hcnt) [(0, 0), (1, 1), (2, 2), (3, 3)] rfl (by simp [hmapOk, nget, hget, renB, okB, renV, renVs, rn, okVs, okV]) rfl rfl (fun r h' n' hrr => ?_)
          obtain ⟨OO, e1, e2, e3, hOO⟩ := hrr
          subst e1 e2 e3
          conv => cbv
          refine Br.mk (fun g => ?_) (fun g => ?_)
          case refine_2 =>
            have gf : False := g rfl
            cases gf
          conv => cbv
          refine RetF.mk [.p (.bool true)] [] 0 (Re.of [] [] (by first | exact Nat.zero_le _ | exact Nat.le_refl _ | decide | (dsimp only; decide)) rfl rfl (by (try (conv => cbv)); (repeat' (first | exact trivial | rfl | exact SEq.mk rfl | (exact SEq.mk (by first | assumption | (symm; assumption))) | (simp only [I.val]; done) | (simp only [I.val]; omega) | omega | assumption | (refine And.intro ?_ ?_) | exact Or.inl rfl | exact Or.inr (by assumption) | exact List.Mem.head _ | exact List.Mem.tail _ (List.Mem.head _) | exact ⟨_, rfl⟩ | exact ⟨_, rfl, Or.inl rfl⟩ | (refine ⟨_, rfl, Or.inr ?_⟩; (try (conv => cbv))) | (simp only [I.val] at *; first | omega | (subst_vars; rfl) | simp_all) | (refine Or.inr ?_; (try (conv => cbv)))))) (by (try (conv => cbv)); (repeat' (first | exact trivial | rfl | exact SEq.mk rfl | (exact SEq.mk (by first | assumption | (symm; assumption))) | (simp only [I.val]; done) | (simp only [I.val]; omega) | omega | assumption | (refine And.intro ?_ ?_) | exact Or.inl rfl | exact Or.inr (by assumption) | exact List.Mem.head _ | exact List.Mem.tail _ (List.Mem.head _) | exact ⟨_, rfl⟩ | exact ⟨_, rfl, Or.inl rfl⟩ | (refine ⟨_, rfl, Or.inr ?_⟩; (try (conv => cbv))) | (simp only [I.val] at *; first | omega | (subst_vars; rfl) | simp_all) | (refine Or.inr ?_; (try (conv => cbv))))))) rfl rfl
      · have ge : e = 0 := Classical.byContradiction ge
        have hP2 := hP.ok_ hAl ge
        clear hAl
        have hol : (O.length : Int) = j := by rw [hO, ipv_length, hj, hg]
        have hg1 : g (ats ++ [a]) = j + 1 := by rw [hj, hg, hg, List.length_append]; rfl
        conv => cbv
        refine Room.new rfl ?_
        conv => cbv
        refine Room.new ⟨?_, ?_, ?_⟩ ?_
        · show (O.length : Int) = j * 1; omega
        · show (j + 1) * 8 ≤ 140737488355328; omega
        · show j + 1 ≤ 9223372036854775807; omega
        conv => cbv
        refine Upd.mk fun O3 hO3 => ?_
        have hO3 : O3 = O ++ [.int .i64 (.sym a)] := hO3
        have hO3 : O3 = ipv (ats ++ [a]) := by rw [hO3, hO, ← ipv_app]; rfl
        conv => cbv
        refine Sum.mk fun j2 hj2 => ?_
        have hj2 : j2 = j + 1 := hj2
        rw [← hj2] at hg1
        conv => cbv
        refine Fit.mk (by show (-9223372036854775808 : Int) ≤ i + 1; omega) (by show i + 1 ≤ 9223372036854775807; omega) fun i2 hi2 => ?_
        have hi2 : i2 = i + 1 := hi2
        conv => cbv
        refine Again.mk k' _ (Nat.lt_succ_self _) (Re.of [(0, 0), (1, 1), (2, 2), (3, 3), (6, 4)] [] (by first | exact Nat.zero_le _ | exact Nat.le_refl _ | decide | (dsimp only; decide)) rfl rfl (by (try (conv => cbv)); (repeat' (first | exact trivial | rfl | exact SEq.mk rfl | (exact SEq.mk (by first | assumption | (symm; assumption))) | (simp only [I.val]; done) | (simp only [I.val]; omega) | omega | assumption | (refine And.intro ?_ ?_) | exact Or.inl rfl | exact Or.inr (by assumption) | exact List.Mem.head _ | exact List.Mem.tail _ (List.Mem.head _) | exact ⟨_, rfl⟩ | exact ⟨_, rfl, Or.inl rfl⟩ | (refine ⟨_, rfl, Or.inr ?_⟩; (try (conv => cbv))) | (simp only [I.val] at *; first | omega | (subst_vars; rfl) | simp_all) | (refine Or.inr ?_; (try (conv => cbv)))))) (by (try (conv => cbv)); (repeat' (first | exact trivial | rfl | exact SEq.mk rfl | (exact SEq.mk (by first | assumption | (symm; assumption))) | (simp only [I.val]; done) | (simp only [I.val]; omega) | omega | assumption | (refine And.intro ?_ ?_) | exact Or.inl rfl | exact Or.inr (by assumption) | exact List.Mem.head _ | exact List.Mem.tail _ (List.Mem.head _) | exact ⟨_, rfl⟩ | exact ⟨_, rfl, Or.inl rfl⟩ | (refine ⟨_, rfl, Or.inr ?_⟩; (try (conv => cbv))) | (simp only [I.val] at *; first | omega | (subst_vars; rfl) | simp_all) | (refine Or.inr ?_; (try (conv => cbv))))))) ⟨i2, j2, L2, D2, O3, R2, w2, ats ++ [a], rfl, hP2, hL2, hD2, hO3, hg1.symm, by omega, by omega, by omega, by omega, by omega⟩
    · have gi2 : ¬ i < 10 := gi2
      have hPl := hP.len
      have hn12 : (12 : Int) = R.length := by rw [hPl]; rfl
      have hr1000 : R.length ≤ 1000 := by omega
      have hmod : ∀ a, IsObj R a → a % 4 = 0 ∧ 0 ≤ a ∧ a + 4 ≤ 384 := fun a ha => by have := obj_mod hP.ok.rows ha; omega
      have hjl : j = ats.length := by rw [hj, hg]
      have hcnt : j = objCount R := by rw [hjl, hP.cnt]
      conv => cbv
      refine Fit.wrap fun xo hxo => ?_
      have hxo : xo = IntKind.u64.wrap off := hxo
      have hxo0 : 0 ≤ xo := by rw [hxo]; simp [IntKind.wrap, IntKind.bits, IntKind.signed]; omega
      clear hxo
      conv => cbv
      refine Sum.mk fun yo hyo => ?_
      have hyo : yo = xo % 3 := (show yo = xo.tmod 3 from hyo).trans (Int.tmod_eq_emod_of_nonneg hxo0)
      conv => cbv
      refine Fit.mk (by show (-9223372036854775808 : Int) ≤ yo; omega) (by show yo ≤ 9223372036854775807; omega) fun zo hzo => ?_
      have hzo : zo = yo := hzo
      conv => cbv
      refine Fit.mk (by show (-9223372036854775808 : Int) ≤ 1 + zo; omega) (by show 1 + zo ≤ 9223372036854775807; omega) fun o2 ho2 => ?_
      have ho2 : o2 = 1 + zo := ho2
      have ho20 : 1 ≤ o2 := by omega
      have ho23 : o2 ≤ 3 := by omega
      clear ho2 hzo hyo hxo0
      conv => cbv
      refine LoopF.mk (fun k s => ∃ i2 : Int, s = ⟨.undef :: .p (.int .i64 (.sym o2)) :: (undefs 3 ++ .ptr 0 (.lit 0) :: .undef :: .sl 4 3 1 (.lit 0) (.sym j) :: (undefs 3 ++ .p (.int .i64 (.sym i2)) :: undefs 108)), [(0, .mix [.ptr 1 (.lit 0), .sl 3 3 1 (.lit 0) (.sym 384)]), (1, .mix [.sl 2 79 2 (.lit 0) (.sym 12)]), (2, .pure true L1), (3, .pure true D1), (4, .pure true O)], 5⟩ ∧ 0 ≤ i2 ∧ i2 ≤ j ∧ k = (j - i2).toNat) j.toNat _
        (Re.of [(0, 0), (1, 1), (2, 2), (3, 3), (4, 4)] [] (by first | exact Nat.zero_le _ | exact Nat.le_refl _ | decide | (dsimp only; decide)) rfl rfl (by (try (conv => cbv)); (repeat' (first | exact trivial | rfl | exact SEq.mk rfl | (exact SEq.mk (by first | assumption | (symm; assumption))) | (simp only [I.val]; done) | (simp only [I.val]; omega) | omega | assumption | (refine And.intro ?_ ?_) | exact Or.inl rfl | exact Or.inr (by assumption) | exact List.Mem.head _ | exact List.Mem.tail _ (List.Mem.head _) | exact ⟨_, rfl⟩ | exact ⟨_, rfl, Or.inl rfl⟩ | (refine ⟨_, rfl, Or.inr ?_⟩; (try (conv => cbv))) | (simp only [I.val] at *; first | omega | (subst_vars; rfl) | simp_all) | (refine Or.inr ?_; (try (conv => cbv)))))) (by (try (conv => cbv)); (repeat' (first | exact trivial | rfl | exact SEq.mk rfl | (exact SEq.mk (by first | assumption | (symm; assumption))) | (simp only [I.val]; done) | (simp only [I.val]; omega) | omega | assumption | (refine And.intro ?_ ?_) | exact Or.inl rfl | exact Or.inr (by assumption) | exact List.Mem.head _ | exact List.Mem.tail _ (List.Mem.head _) | exact ⟨_, rfl⟩ | exact ⟨_, rfl, Or.inl rfl⟩ | (refine ⟨_, rfl, Or.inr ?_⟩; (try (conv => cbv))) | (simp only [I.val] at *; first | omega | (subst_vars; rfl) | simp_all) | (refine Or.inr ?_; (try (conv => cbv))))))) ⟨0, rfl, by omega, by omega, by omega⟩ ?_
      rintro k2 s ⟨i2, rfl, hi20, hi21, hk2⟩
      conv => cbv
      refine Br.mk (fun gi => ?_) (fun gi => ?_)
      · have gi : i2 < j := gi
        obtain ⟨k2', rfl⟩ : ∃ k', k2 = k' + 1 := ⟨k2 - 1, by omega⟩
        obtain ⟨a, ha⟩ : ∃ a, ats[i2.toNat]? = some a := ⟨_, List.getElem?_eq_getElem (by omega)⟩
        have hcO : O[i2.toNat]? = some (.int .i64 (.sym a)) := by rw [hO]; exact ipv_get ha
        obtain ⟨l, hl⟩ := hP.kept a (List.mem_of_getElem? ha)
        have ham := hmod a hl.obj
        have hoff : ¬ IsObj R (a + o2) := fun h => by have := hmod _ h; omega
        conv => cbv
        refine Need.mk ⟨hi20, gi⟩ ?_
        conv => cbv
        refine Cell.at i2 _ hcO (by simp [I.val]) rfl ?_
        conv => cbv
        refine Sum.mk fun q hq => ?_
        have hq : q = a % 4 := (show q = a.tmod 4 from hq).trans (Int.tmod_eq_emod_of_nonneg (by omega))
        conv => cbv
        refine Br.mk (fun g => ?_) (fun g => ?_)
        case refine_1 =>
          have gf : False := by have g : ¬ q = 0 := g; omega
          cases gf
        conv => cbv
        refine Need.mk ⟨hi20, gi⟩ ?_
        conv => cbv
        refine Cell.at i2 _ hcO (by simp [I.val]) rfl ?_
        conv => cbv
        refine callF_frame (kind_lx R ws 12 a 384 L1 D1 hL1 hD1 hn12 hr1000 hP.ok rfl) [(0, 0), (1, 1), (2, 2), (3, 3)] rfl (by simp [hmapOk, nget, hget, renB, okB, renV, renVs, rn, okVs, okV]) rfl rfl (fun r h' n' hrr => ?_)
        obtain ⟨kv, e1, e2, e3, hkv⟩ := hrr
        subst e1 e2 e3
        conv => cbv
        have hkv := kindR_of hl hkv
        refine Br.mk (fun g => ?_) (fun g => ?_)
        case refine_1 =>
          have gf : False := g hkv
          cases gf
        conv => cbv
        refine Need.mk ⟨hi20, gi⟩ ?_
        conv => cbv
        refine Cell.at i2 _ hcO (by simp [I.val]) rfl ?_
        conv => cbv
        refine Fit.mk (by show (-9223372036854775808 : Int) ≤ a + o2; omega) (by show a + o2 ≤ 9223372036854775807; omega) fun b hb => ?_
        have hb : b = a + o2 := hb
        rw [← hb] at hoff
        conv => cbv
        refine callF_frame (kind_lx R ws 12 b 384 L1 D1 hL1 hD1 hn12 hr1000 hP.ok rfl) [(0, 0), (1, 1), (2, 2), (3, 3)] rfl (by simp [hmapOk, nget, hget, renB, okB, renV, renVs, rn, okVs, okV]) rfl rfl (fun r h' n' hrr => ?_)
        obtain ⟨kw, e1, e2, e3, hkw⟩ := hrr
        subst e1 e2 e3
        conv => cbv
        have hkw := kindR_no hoff hkw
        refine Br.mk (fun g => ?_) (fun g => ?_)
        case refine_1 =>
          have gf : False := g hkw
          cases gf
        conv => cbv
        refine Need.mk ⟨hi20, gi⟩ ?_
        conv => cbv
        refine Cell.at i2 _ hcO (by simp [I.val]) rfl ?_
        conv => cbv
        refine Fit.mk (by show (-9223372036854775808 : Int) ≤ a + o2; omega) (by show a + o2 ≤ 9223372036854775807; omega) fun b2 hb2 => ?_
        have hb2 : b2 = a + o2 := hb2
        have hb2 : b2 = b := by omega
        rw [← hb2] at hoff
        conv => cbv
        refine callF_frame (freeA_lx b2 R ws 12 384 L1 D1 hL1 hD1 hn12 hr1000 hP.ok rfl) [(0, 0), (1, 1), (2, 2), (3, 3)] rfl (by simp [hmapOk, nget, hget, renB, okB, renV, renVs, rn, okVs, okV]) rfl rfl (fun r h' n' hrr => ?_)
        obtain ⟨ef, Rf, Lf, e1, e2, e3, hLf, hFf⟩ := hrr
        subst e1 e2 e3
        conv => cbv
        obtain ⟨hef, hRf⟩ := freet_none hFf hoff
        have hLL : Lf = L1 := by rw [hLf, hL1, hRf]
        clear hLf hFf
        subst hLL
        refine Br.mk (fun g => ?_) (fun g => ?_)
        case refine_1 =>
          have gf : False := g hef
          cases gf
        conv => cbv
        refine Fit.mk (by show (-9223372036854775808 : Int) ≤ i2 + 1; omega) (by show i2 + 1 ≤ 9223372036854775807; omega) fun i3 hi3 => ?_
        have hi3 : i3 = i2 + 1 := hi3
        conv => cbv
        refine Again.mk k2' _ (Nat.lt_succ_self _) (Re.of [(0, 0), (1, 1), (2, 2), (3, 3), (4, 4)] [] (by first | exact Nat.zero_le _ | exact Nat.le_refl _ | decide | (dsimp only; decide)) rfl rfl (by (try (conv => cbv)); (repeat' (first | exact trivial | rfl | exact SEq.mk rfl | (exact SEq.mk (by first | assumption | (symm; assumption))) | (simp only [I.val]; done) | (simp only [I.val]; omega) | omega | assumption | (refine And.intro ?_ ?_) | exact Or.inl rfl | exact Or.inr (by assumption) | exact List.Mem.head _ | exact List.Mem.tail _ (List.Mem.head _) | exact ⟨_, rfl⟩ | exact ⟨_, rfl, Or.inl rfl⟩ | (refine ⟨_, rfl, Or.inr ?_⟩; (try (conv => cbv))) | (simp only [I.val] at *; first | omega | (subst_vars; rfl) | simp_all) | (refine Or.inr ?_; (try (conv => cbv)))))) (by (try (conv => cbv)); (repeat' (first | exact trivial | rfl | exact SEq.mk rfl | (exact SEq.mk (by first | assumption | (symm; assumption))) | (simp only [I.val]; done) | (simp only [I.val]; omega) | omega | assumption | (refine And.intro ?_ ?_) | exact Or.inl rfl | exact Or.inr (by assumption) | exact List.Mem.head _ | exact List.Mem.tail _ (List.Mem.head _) | exact ⟨_, rfl⟩ | exact ⟨_, rfl, Or.inl rfl⟩ | (refine ⟨_, rfl, Or.inr ?_⟩; (try (conv => cbv))) | (simp only [I.val] at *; first | omega | (subst_vars; rfl) | simp_all) | (refine Or.inr ?_; (try (conv => cbv))))))) ⟨i3, rfl, by omega, by omega, by omega⟩
      · have gi : ¬ i2 < j := gi
        have hm1 : ¬ IsObj R (-1) := fun h => by have := hmod _ h; omega
        have hm2 : ¬ IsObj R 384 := fun h => by have := hmod _ h; omega
        conv => cbv
        refine CallF.le (args0 := [.ptr 0 (.lit 0), .p (.int .i64 (.sym (-1)))]) (callF_frame (kind_lx R ws 12 (-1) 384 L1 D1 hL1 hD1 hn12 hr1000 hP.ok rfl) [(0, 0), (1, 1), (2, 2), (3, 3)] rfl (by simp [hmapOk, nget, hget, renB, okB, renV, renVs, rn, okVs, okV]) rfl rfl (fun r h' n' hrr => ?_)) (by simp [ales, ale, pvle, I.val])
        obtain ⟨kv, e1, e2, e3, hkv⟩ := hrr
        subst e1 e2 e3
        conv => cbv
        have hkv := kindR_no hm1 hkv
        refine Br.mk (fun g => ?_) (fun g => ?_)
        case refine_2 =>
          have gf : False := g hkv
          cases gf
        conv => cbv
        refine callF_frame (wordsA_lx R ws 12 384 L1 D1 hL1 hD1 hn12 hr1000 hP.ok rfl) [(0, 0), (1, 1), (2, 2), (3, 3)] rfl (by simp [hmapOk, nget, hget, renB, okB, renV, renVs, rn, okVs, okV]) rfl rfl (fun r h' n' ⟨e1, e2, e3⟩ => ?_)
        subst e1 e2 e3
        conv => cbv
        refine callF_frame (kind_lx R ws 12 384 384 L1 D1 hL1 hD1 hn12 hr1000 hP.ok rfl) [(0, 0), (1, 1), (2, 2), (3, 3)] rfl (by simp [hmapOk, nget, hget, renB, okB, renV, renVs, rn, okVs, okV]) rfl rfl (fun r h' n' hrr => ?_)
        obtain ⟨kw, e1, e2, e3, hkw⟩ := hrr
        subst e1 e2 e3
        conv => cbv
        have hkw := kindR_no hm2 hkw
        refine Br.mk (fun g => ?_) (fun g => ?_)
        case refine_2 =>
          have gf : False := g hkw
          cases gf
        conv => cbv
        refine callF_frame (objects_lx j R 12 384 L1 D1 hL1 hn12 hr1000 hP.ok.rows rfl hcnt) [(0, 0), (1, 1), (2, 2), (3, 3)] rfl (by simp [hmapOk, nget, hget, renB, okB, renV, renVs, rn, okVs, okV]) rfl rfl (fun r h' n' hrr => ?_)
        obtain ⟨OO, e1, e2, e3, hOO⟩ := hrr
        subst e1 e2 e3
        conv => cbv
        refine Br.mk (fun g => ?_) (fun g => ?_)
        case refine_2 =>
          have gf : False := g rfl
          cases gf
        conv => cbv
        refine RetF.mk [.p (.bool true)] [] 0 (Re.of [] [] (by first | exact Nat.zero_le _ | exact Nat.le_refl _ | decide | (dsimp only; decide)) rfl rfl (by (try (conv => cbv)); (repeat' (first | exact trivial | rfl | exact SEq.mk rfl | (exact SEq.mk (by first | assumption | (symm; assumption))) | (simp only [I.val]; done) | (simp only [I.val]; omega) | omega | assumption | (refine And.intro ?_ ?_) | exact Or.inl rfl | exact Or.inr (by assumption) | exact List.Mem.head _ | exact List.Mem.tail _ (List.Mem.head _) | exact ⟨_, rfl⟩ | exact ⟨_, rfl, Or.inl rfl⟩ | (refine ⟨_, rfl, Or.inr ?_⟩; (try (conv => cbv))) | (simp only [I.val] at *; first | omega | (subst_vars; rfl) | simp_all) | (refine Or.inr ?_; (try (conv => cbv)))))) (by (try (conv => cbv)); (repeat' (first | exact trivial | rfl | exact SEq.mk rfl | (exact SEq.mk (by first | assumption | (symm; assumption))) | (simp only [I.val]; done) | (simp only [I.val]; omega) | omega | assumption | (refine And.intro ?_ ?_) | exact Or.inl rfl | exact Or.inr (by assumption) | exact List.Mem.head _ | exact List.Mem.tail _ (List.Mem.head _) | exact ⟨_, rfl⟩ | exact ⟨_, rfl, Or.inl rfl⟩ | (refine ⟨_, rfl, Or.inr ?_⟩; (try (conv => cbv))) | (simp only [I.val] at *; first | omega | (subst_vars; rfl) | simp_all) | (refine Or.inr ?_; (try (conv => cbv))))))) rfl rfl
  · have gi : ¬ i < m := gi
    have hPl := hP.len
    have hn12 : (12 : Int) = R.length := by rw [hPl]; rfl
    have hr1000 : R.length ≤ 1000 := by omega
    have hmod : ∀ a, IsObj R a → a % 4 = 0 ∧ 0 ≤ a ∧ a + 4 ≤ 384 := fun a ha => by have := obj_mod hP.ok.rows ha; omega
    have hjl : j = ats.length := by rw [hj, hg]
    have hcnt : j = objCount R := by rw [hjl, hP.cnt]
    conv => cbv
    refine Fit.wrap fun xo hxo => ?_
    have hxo : xo = IntKind.u64.wrap off := hxo
    have hxo0 : 0 ≤ xo := by rw [hxo]; simp [IntKind.wrap, IntKind.bits, IntKind.signed]; omega
    clear hxo
    conv => cbv
    refine Sum.mk fun yo hyo => ?_
    have hyo : yo = xo % 3 := (show yo = xo.tmod 3 from hyo).trans (Int.tmod_eq_emod_of_nonneg hxo0)
    conv => cbv
    refine Fit.mk (by show (-9223372036854775808 : Int) ≤ yo; omega) (by show yo ≤ 9223372036854775807; omega) fun zo hzo => ?_
    have hzo : zo = yo := hzo
    conv => cbv
    refine Fit.mk (by show (-9223372036854775808 : Int) ≤ 1 + zo; omega) (by show 1 + zo ≤ 9223372036854775807; omega) fun o2 ho2 => ?_
    have ho2 : o2 = 1 + zo := ho2
    have ho20 : 1 ≤ o2 := by omega
    have ho23 : o2 ≤ 3 := by omega
    clear ho2 hzo hyo hxo0
    conv => cbv
    refine LoopF.mk (fun k s => ∃ i2 : Int, s = ⟨.undef :: .p (.int .i64 (.sym o2)) :: (undefs 3 ++ .ptr 0 (.lit 0) :: .undef :: .sl 4 3 1 (.lit 0) (.sym j) :: (undefs 3 ++ .p (.int .i64 (.sym i2)) :: undefs 108)), [(0, .mix [.ptr 1 (.lit 0), .sl 3 3 1 (.lit 0) (.sym 384)]), (1, .mix [.sl 2 79 2 (.lit 0) (.sym 12)]), (2, .pure true L1), (3, .pure true D1), (4, .pure true O)], 5⟩ ∧ 0 ≤ i2 ∧ i2 ≤ j ∧ k = (j - i2).toNat) j.toNat _
      (Re.of [(0, 0), (1, 1), (2, 2), (3, 3), (4, 4)] [] (by first | exact Nat.zero_le _ | exact Nat.le_refl _ | decide | (dsimp only; decide)) rfl rfl (by (try (conv => cbv)); (repeat' (first | exact trivial | rfl | exact SEq.mk rfl | (exact SEq.mk (by first | assumption | (symm; assumption))) | (simp only [I.val]; done) | (simp only [I.val]; omega) | omega | assumption | (refine And.intro ?_ ?_) | exact Or.inl rfl | exact Or.inr (by assumption) | exact List.Mem.head _ | exact List.Mem.tail _ (List.Mem.head _) | exact ⟨_, rfl⟩ | exact ⟨_, rfl, Or.inl rfl⟩ | (refine ⟨_, rfl, Or.inr ?_⟩; (try (conv => cbv))) | (simp only [I.val] at *; first | omega | (subst_vars; rfl) | simp_all) | (refine Or.inr ?_; (try (conv => cbv)))))) (by (try (conv => cbv)); (repeat' (first | exact trivial | rfl | exact SEq.mk rfl | (exact SEq.mk (by first | assumption | (symm; assumption))) | (simp only [I.val]; done) | (simp only [I.val]; omega) | omega | assumption | (refine And.intro ?_ ?_) | exact Or.inl rfl | exact Or.inr (by assumption) | exact List.Mem.head _ | exact List.Mem.tail _ (List.Mem.head _) | exact ⟨_, rfl⟩ | exact ⟨_, rfl, Or.inl rfl⟩ | (refine ⟨_, rfl, Or.inr ?_⟩; (try (conv => cbv))) | (simp only [I.val] at *; first | omega | (subst_vars; rfl) | simp_all) | (refine Or.inr ?_; (try (conv => cbv))))))) ⟨0, rfl, by omega, by omega, by omega⟩ ?_
    rintro k2 s ⟨i2, rfl, hi20, hi21, hk2⟩
    conv => cbv
    refine Br.mk (fun gi => ?_) (fun gi => ?_)
    · have gi : i2 < j := gi
      obtain ⟨k2', rfl⟩ : ∃ k', k2 = k' + 1 := ⟨k2 - 1, by omega⟩
      obtain ⟨a, ha⟩ : ∃ a, ats[i2.toNat]? = some a := ⟨_, List.getElem?_eq_getElem (by omega)⟩
      have hcO : O[i2.toNat]? = some (.int .i64 (.sym a)) := by rw [hO]; exact ipv_get ha
      obtain ⟨l, hl⟩ := hP.kept a (List.mem_of_getElem? ha)
      have ham := hmod a hl.obj
      have hoff : ¬ IsObj R (a + o2) := fun h => by have := hmod _ h; omega
      conv => cbv
      refine Need.mk ⟨hi20, gi⟩ ?_
      conv => cbv
      refine Cell.at i2 _ hcO (by simp [I.val]) rfl ?_
      conv => cbv
      refine Sum.mk fun q hq => ?_
      have hq : q = a % 4 := (show q = a.tmod 4 from hq).trans (Int.tmod_eq_emod_of_nonneg (by omega))
      conv => cbv
      refine Br.mk (fun g => ?_) (fun g => ?_)
      case refine_1 =>
        have gf : False := by have g : ¬ q = 0 := g; omega
        cases gf
      conv => cbv
      refine Need.mk ⟨hi20, gi⟩ ?_
      conv => cbv
      refine Cell.at i2 _ hcO (by simp [I.val]) rfl ?_
      conv => cbv
      refine callF_frame (kind_lx R ws 12 a 384 L1 D1 hL1 hD1 hn12 hr1000 hP.ok rfl) [(0, 0), (1, 1), (2, 2), (3, 3)] rfl (by simp [hmapOk, nget, hget, renB, okB, renV, renVs, rn, okVs, okV]) rfl rfl (fun r h' n' hrr => ?_)
      obtain ⟨kv, e1, e2, e3, hkv⟩ := hrr
      subst e1 e2 e3
      conv => cbv
      have hkv := kindR_of hl hkv
      refine Br.mk (fun g => ?_) (fun g => ?_)
      case refine_1 =>
        have gf : False := g hkv
        cases gf
      conv => cbv
      refine Need.mk ⟨hi20, gi⟩ ?_
      conv => cbv
      refine Cell.at i2 _ hcO (by simp [I.val]) rfl ?_
      conv => cbv
      refine Fit.mk (by show (-9223372036854775808 : Int) ≤ a + o2; omega) (by show a + o2 ≤ 9223372036854775807; omega) fun b hb => ?_
      have hb : b = a + o2 := hb
      rw [← hb] at hoff
      conv => cbv
      refine callF_frame (kind_lx R ws 12 b 384 L1 D1 hL1 hD1 hn12 hr1000 hP.ok rfl) [(0, 0), (1, 1), (2, 2), (3, 3)] rfl (by simp [hmapOk, nget, hget, renB, okB, renV, renVs, rn, okVs, okV]) rfl rfl (fun r h' n' hrr => ?_)
      obtain ⟨kw, e1, e2, e3, hkw⟩ := hrr
      subst e1 e2 e3
      conv => cbv
      have hkw := kindR_no hoff hkw
      refine Br.mk (fun g => ?_) (fun g => ?_)
      case refine_1 =>
        have gf : False := g hkw
        cases gf
      conv => cbv
      refine Need.mk ⟨hi20, gi⟩ ?_
      conv => cbv
      refine Cell.at i2 _ hcO (by simp [I.val]) rfl ?_
      conv => cbv
      refine Fit.mk (by show (-9223372036854775808 : Int) ≤ a + o2; omega) (by show a + o2 ≤ 9223372036854775807; omega) fun b2 hb2 => ?_
      have hb2 : b2 = a + o2 := hb2
      have hb2 : b2 = b := by omega
      rw [← hb2] at hoff
      conv => cbv
      refine callF_frame (freeA_lx b2 R ws 12 384 L1 D1 hL1 hD1 hn12 hr1000 hP.ok rfl) [(0, 0), (1, 1), (2, 2), (3, 3)] rfl (by simp [hmapOk, nget, hget, renB, okB, renV, renVs, rn, okVs, okV]) rfl rfl (fun r h' n' hrr => ?_)
      obtain ⟨ef, Rf, Lf, e1, e2, e3, hLf, hFf⟩ := hrr
      subst e1 e2 e3
      conv => cbv
      obtain ⟨hef, hRf⟩ := freet_none hFf hoff
      have hLL : Lf = L1 := by rw [hLf, hL1, hRf]
      clear hLf hFf
      subst hLL
      refine Br.mk (fun g => ?_) (fun g => ?_)
      case refine_1 =>
        have gf : False := g hef
        cases gf
      conv => cbv
      refine Fit.mk (by show (-9223372036854775808 : Int) ≤ i2 + 1; omega) (by show i2 + 1 ≤ 9223372036854775807; omega) fun i3 hi3 => ?_
      have hi3 : i3 = i2 + 1 := hi3
      conv => cbv
      refine Again.mk k2' _ (Nat.lt_succ_self _) (Re.of [(0, 0), (1, 1), (2, 2), (3, 3), (4, 4)] [] (by first | exact Nat.zero_le _ | exact Nat.le_refl _ | decide | (dsimp only; decide)) rfl rfl (by (try (conv => cbv)); (repeat' (first | exact trivial | rfl | exact SEq.mk rfl | (exact SEq.mk (by first | assumption | (symm; assumption))) | (simp only [I.val]; done) | (simp only [I.val]; omega) | omega | assumption | (refine And.intro ?_ ?_) | exact Or.inl rfl | exact Or.inr (by assumption) | exact List.Mem.head _ | exact List.Mem.tail _ (List.Mem.head _) | exact ⟨_, rfl⟩ | exact ⟨_, rfl, Or.inl rfl⟩ | (refine ⟨_, rfl, Or.inr ?_⟩; (try (conv => cbv))) | (simp only [I.val] at *; first | omega | (subst_vars; rfl) | simp_all) | (refine Or.inr ?_; (try (conv => cbv)))))) (by (try (conv => cbv)); (repeat' (first | exact trivial | rfl | exact SEq.mk rfl | (exact SEq.mk (by first | assumption | (symm; assumption))) | (simp only [I.val]; done) | (simp only [I.val]; omega) | omega | assumption | (refine And.intro ?_ ?_) | exact Or.inl rfl | exact Or.inr (by assumption) | exact List.Mem.head _ | exact List.Mem.tail _ (List.Mem.head _) | exact ⟨_, rfl⟩ | exact ⟨_, rfl, Or.inl rfl⟩ | (refine ⟨_, rfl, Or.inr ?_⟩; (try (conv => cbv))) | (simp only [I.val] at *; first | omega | (subst_vars; rfl) | simp_all) | (refine Or.inr ?_; (try (conv => cbv))))))) ⟨i3, rfl, by omega, by omega, by omega⟩
    · have gi : ¬ i2 < j := gi
      have hm1 : ¬ IsObj R (-1) := fun h => by have := hmod _ h; omega
      have hm2 : ¬ IsObj R 384 := fun h => by have := hmod _ h; omega
      conv => cbv
      refine CallF.le (args0 := [.ptr 0 (.lit 0), .p (.int .i64 (.sym (-1)))]) (callF_frame (kind_lx R ws 12 (-1) 384 L1 D1 hL1 hD1 hn12 hr1000 hP.ok rfl) [(0, 0), (1, 1), (2, 2), (3, 3)] rfl (by simp [hmapOk, nget, hget, renB, okB, renV, renVs, rn, okVs, okV]) rfl rfl (fun r h' n' hrr => ?_)) (by simp [ales, ale, pvle, I.val])
      obtain ⟨kv, e1, e2, e3, hkv⟩ := hrr
      subst e1 e2 e3
      conv => cbv
      have hkv := kindR_no hm1 hkv
      refine Br.mk (fun g => ?_) (fun g => ?_)
      case refine_2 =>
        have gf : False := g hkv
        cases gf
      conv => cbv
      refine callF_frame (wordsA_lx R ws 12 384 L1 D1 hL1 hD1 hn12 hr1000 hP.ok rfl) [(0, 0), (1, 1), (2, 2), (3, 3)] rfl (by simp [hmapOk, nget, hget, renB, okB, renV, renVs, rn, okVs, okV]) rfl rfl (fun r h' n' ⟨e1, e2, e3⟩ => ?_)
      subst e1 e2 e3
      conv => cbv
      refine callF_frame (kind_lx R ws 12 384 384 L1 D1 hL1 hD1 hn12 hr1000 hP.ok rfl) [(0, 0), (1, 1), (2, 2), (3, 3)] rfl (by simp [hmapOk, nget, hget, renB, okB, renV, renVs, rn, okVs, okV]) rfl rfl (fun r h' n' hrr => ?_)
      obtain ⟨kw, e1, e2, e3, hkw⟩ := hrr
      subst e1 e2 e3
      conv => cbv
      have hkw := kindR_no hm2 hkw
      refine Br.mk (fun g => ?_) (fun g => ?_)
      case refine_2 =>
        have gf : False := g hkw
        cases gf
      conv => cbv
      refine callF_frame (objects_lx j R 12 384 L1 D1 hL1 hn12 hr1000 hP.ok.rows rfl hcnt) [(0, 0), (1, 1), (2, 2), (3, 3)] rfl (by simp [hmapOk, nget, hget, renB, okB, renV, renVs, rn, okVs, okV]) rfl rfl (fun r h' n' hrr => ?_)
      obtain ⟨OO, e1, e2, e3, hOO⟩ := hrr
      subst e1 e2 e3
      conv => cbv
      refine Br.mk (fun g => ?_) (fun g => ?_)
      case refine_2 =>
        have gf : False := g rfl
        cases gf
      conv => cbv
      refine RetF.mk [.p (.bool true)] [] 0 (Re.of [] [] (by first | exact Nat.zero_le _ | exact Nat.le_refl _ | decide | (dsimp only; decide)) rfl rfl (by (try (conv => cbv)); (repeat' (first | exact trivial | rfl | exact SEq.mk rfl | (exact SEq.mk (by first | assumption | (symm; assumption))) | (simp only [I.val]; done) | (simp only [I.val]; omega) | omega | assumption | (refine And.intro ?_ ?_) | exact Or.inl rfl | exact Or.inr (by assumption) | exact List.Mem.head _ | exact List.Mem.tail _ (List.Mem.head _) | exact ⟨_, rfl⟩ | exact ⟨_, rfl, Or.inl rfl⟩ | (refine ⟨_, rfl, Or.inr ?_⟩; (try (conv => cbv))) | (simp only [I.val] at *; first | omega | (subst_vars; rfl) | simp_all) | (refine Or.inr ?_; (try (conv => cbv)))))) (by (try (conv => cbv)); (repeat' (first | exact trivial | rfl | exact SEq.mk rfl | (exact SEq.mk (by first | assumption | (symm; assumption))) | (simp only [I.val]; done) | (simp only [I.val]; omega) | omega | assumption | (refine And.intro ?_ ?_) | exact Or.inl rfl | exact Or.inr (by assumption) | exact List.Mem.head _ | exact List.Mem.tail _ (List.Mem.head _) | exact ⟨_, rfl⟩ | exact ⟨_, rfl, Or.inl rfl⟩ | (refine ⟨_, rfl, Or.inr ?_⟩; (try (conv => cbv))) | (simp only [I.val] at *; first | omega | (subst_vars; rfl) | simp_all) | (refine Or.inr ?_; (try (conv => cbv))))))) rfl rfl
end Go.Proofs.Ytlakoemonbadiaa
