/-
  strings.Builder, in the calculus: what is written, and what String tells.
-/
import Derived.Test.YtllafhhnciobhaaGreatDoorLxFrame
import Derived.Test.YtllafhhnciobhaaGreatDoorTab
import Derived.Test.YtllafhhnciobhaaGreatDoorRows
import Derived.Shelf.Strings.BuilderK
import Derived.Shelf.Lay
import Derived.WalkKit
import Derived.ProofKit
import Derived.Handy
import Derived.Outline
import Derived.WalkSpells
import Derived.WalkSmall
import Derived.OneCell
namespace Go.Proofs.YtllafhhnciobhaaGreatDoor

open Go.RowKit

open Go Go.LX
set_option maxRecDepth 100000
set_option linter.unusedVariables false
set_option linter.unusedSimpArgs false

theorem bd_size : (Tryz.prog.info? 138).map (·.size) = some 2 := by kernel_rfl
theorem bd_lies : liesAt Tryz.prog Tryz.prog.depth 138 (2 / Tryz.prog.cellsOf 138) 0 138 1 = true := by kernel_rfl
theorem bd_byte : Tryz.prog.cellsOf 5 = 1 := by kernel_rfl

theorem copyCheck_fresh (b : Nat) (w : World) (h0 : w.cell? ⟨b, 0, none⟩ = some (.pointer none)) (hsh : w.shape? b = some (138, 2)) (hfz : w.frozen? ⟨b, 0, none⟩ = false) :
    Calls Tryz.prog 129 #[.pointer (some ⟨b, 0, none⟩)] w fun e w' => e = .returned (.tuple #[]) ∧ w' = w.setCell ⟨b, 0, none⟩ (.pointer (some ⟨b, 0, none⟩)) := by
  obtain ⟨j, hj, hjs⟩ := Option.map_eq_some_iff.1 bd_size
  go_enter Tryz.func129, Tryz.ntmps129
  go_wp2
  rw [Lib.run_to_unsafe w ⟨b, 0, none⟩ Tryz.underlying135 Tryz.underlying167 hj (by rw [hjs]; decide) hsh (Nat.zero_lt_succ 1)]
  simp only [Result.andThen]
  rw [Oper.upon_value]
  go_wp2
  rw [run_callFunc_extern Tryz.func145 (by kernel_rfl) (by kernel_rfl) (by kernel_rfl) (e := Extern.AbiNoEscape.same) (by kernel_rfl)]
  rw [Lib.run_noEscape]
  simp only [Result.andThen]
  rw [Oper.upon_value]
  go_wp2
  rw [Lib.run_from_unsafe w ⟨b, 0, none⟩ Tryz.underlying167 Tryz.underlying135 hj hsh bd_lies]
  simp only [Result.andThen]
  rw [Oper.upon_value]
  go_wp2
  go_end0
  exact ⟨rfl, rfl⟩

theorem copyCheck_used (b : Nat) (w : World) (h0 : w.cell? ⟨b, 0, none⟩ = some (.pointer (some ⟨b, 0, none⟩))) :
    Calls Tryz.prog 129 #[.pointer (some ⟨b, 0, none⟩)] w fun e w' => e = .returned (.tuple #[]) ∧ w' = w := by
  obtain ⟨j, hj, _⟩ := Option.map_eq_some_iff.1 bd_size
  go_enter Tryz.func129, Tryz.ntmps129
  go_wp2
  rw [Lib.run_neq_ptr_same w _ Tryz.underlying135 hj]
  go_wp2
  go_end0
  exact ⟨rfl, rfl⟩

theorem arg1 {c : Ctx} {w : World} {u : LV} {xs : Array Value} (hl : [u].length = xs.size) (hrel : ∀ (i : Nat) (v : LV), [u][i]? = some v → LR c w v (xs.getD i Go.undef)) : ∃ x, xs = #[x] ∧ LR c w u x := by
  have h0 := hrel 0 u rfl
  rcases xs with ⟨l⟩
  match l, hl with
  | [x], _ => exact ⟨x, rfl, h0⟩
theorem ptr_live {c : Ctx} {w : World} {b : Nat} {m : Nat} {x : Value} (hm : c.m b = some (some m)) (hx : LR c w (.ptr b (.lit 0)) x) : x = .pointer (some ⟨m, 0, none⟩) := by
  cases hx with
  | ptr _ _ r k hm' ho =>
    rw [hm] at hm'; cases hm'
    have : k = 0 := by simp only [I.val] at ho; omega
    rw [this]
  | goneP _ _ _ hm' _ => rw [hm] at hm'; cases hm'

/-- copyCheck lets a builder be as it is known. -/
theorem copyCheck_lx (v : LV) (B : LB) : CallF (fun _ => Tryz.prog) 129 [.ptr 0 (.lit 0)] [(0, .bld 138 [v]), (1, B)] 2 (fun r h n => r = .tup [] ∧ h = [(0, .bld 138 [v]), (1, B)] ∧ n = 2) := by
  refine .mk ⟨_, _, Tryz.func129, by kernel_rfl, rfl⟩ fun c w xs hr hN hl hrel => ?_
  obtain ⟨x, rfl, hx⟩ := arg1 hl hrel
  obtain ⟨m, hm, hB⟩ := hr.live 0 _ rfl
  cases m with
  | none => exact hB.elim
  | some r =>
    have hx := ptr_live hm hx
    subst hx
    have hB0 := hB
    obtain ⟨cur, hg, hsz, h0, hc⟩ := hB
    have hsz : cur.size = 2 := hsz
    have hc0 : w.cell? ⟨r, 0, none⟩ = some (cur.getD 0 Go.undef) := by
      simp only [World.cell?, hg]
      rw [Array.getD_eq_getD_getElem?, Array.getElem?_eq_getElem (by omega : 0 < cur.size)]; rfl
    rcases h0 with h0 | h0
    · rw [h0] at hc0
      refine (copyCheck_fresh r w hc0 (by simp only [World.shape?, hg, hsz]) (by simp [World.frozen?, hg])).mono ?_
      rintro e w' ⟨rfl, rfl⟩
      have hg' : (w.setCell ⟨r, 0, none⟩ (.pointer (some ⟨r, 0, none⟩))).heap[r]? = some (.cells (cur.setIfInBounds 0 (.pointer (some ⟨r, 0, none⟩))) 138 (0, 0)) := by
        simp [World.setCell, Array.getElem?_modify, hg]
      have ht : Turn w (w.setCell ⟨r, 0, none⟩ (.pointer (some ⟨r, 0, none⟩))) r := by
        refine ⟨rfl, rfl, rfl, by simp [World.setCell], fun k hk => ?_, ?_⟩
        · have hk' : ¬ r = k := fun h => hk h.symm
          simp [World.setCell, Array.getElem?_modify, hk']
        · simp only [World.shape?, hg, hg', Array.size_setIfInBounds]
      have hB' : BR c (w.setCell ⟨r, 0, none⟩ (.pointer (some ⟨r, 0, none⟩))) (.bld 138 [v]) (some r) := by
        refine ⟨_, hg', by rw [Array.size_setIfInBounds]; exact hsz, .inr ?_, fun j u hu => ?_⟩
        · simp [Array.getD_eq_getD_getElem?, hsz]
        · have := (hc j u hu).ext hr.fresh (Ext.turn hr hm ht)
          rw [Array.getD_eq_getD_getElem?, Array.getElem?_setIfInBounds, if_neg (by omega), ← Array.getD_eq_getD_getElem?]
          exact this
      exact ⟨c, .tup [], _, _, _, rfl, ⟨rfl, rfl, rfl⟩, hr.turn rfl hm ht hB', hN, .tup _ _ rfl (fun j u hu => by simp at hu), Ext.turn hr hm ht⟩
    · rw [h0] at hc0
      refine (copyCheck_used r w hc0).mono ?_
      rintro e w' ⟨rfl, rfl⟩
      exact ⟨c, .tup [], _, _, _, rfl, ⟨rfl, rfl, rfl⟩, hr, hN, .tup _ _ rfl (fun j u hu => by simp at hu), Ext.refl hr⟩

/-! ### String -/
theorem bd_mixed : Tryz.prog.follows .mixedOrders = true := by kernel_rfl
set_option maxHeartbeats 2000000 in
theorem string_some (b g cap : Nat) (p : Value) (cur : Array Value) (l : List UInt8) (w : World) (h0 : l ≠ []) (hbk : w.heap[b]? = some (.cells #[p, .slice (some ⟨g, 0, none⟩) l.length cap] 138 (0, 0)))
    (hg : w.heap[g]? = some (.cells cur 5 (0, 0))) (hn : l.length ≤ cap) (hcm : cap ≤ maxLen) (hcs : cap ≤ cur.size) (hcell : ∀ j x, l[j]? = some x → w.cell? ((⟨g, 0, none⟩ : Addr).add j) = some (.int .u8 x.toNat)) :
    Calls Tryz.prog 119 #[.pointer (some ⟨b, 0, none⟩)] w fun e w' => e = .returned (.string ⟨l.toArray⟩) ∧ w' = w.drew.freeze ⟨g, 0, none⟩ l.length := by
  have hl0 : l.length ≠ 0 := by simpa using h0
  have c1 : w.drew.cell? ⟨b, 1, none⟩ = some (.slice (some ⟨g, 0, none⟩) l.length cap) := by
    have : w.drew.heap[b]? = some (.cells #[p, .slice (some ⟨g, 0, none⟩) l.length cap] 138 (0, 0)) := hbk
    rw [Lib.cell_of_heap this]; rfl
  have hSD : (Builtin.unsafeSliceData_ #[136] 149 #[.slice (some ⟨g, 0, none⟩) l.length cap]).run Tryz.prog w.drew = .ok (.pointer (some ⟨g, 0, none⟩)) w.drew :=
    Lib.run_unsafeSliceData_row _ _ _ _ _ _ (by omega)
  have hUS : (Builtin.unsafeString_ #[149, 3] 9 #[.pointer (some ⟨g, 0, none⟩), .int .i64 l.length]).run Tryz.prog w.drew = .ok (.string ⟨l.toArray⟩) (w.drew.freeze ⟨g, 0, none⟩ l.length) := by
    refine Lib.run_unsafeString_row w.drew 149 3 9 5 Tryz.underlying149 bd_byte g cur.size (by have hg' : w.drew.heap[g]? = some (.cells cur 5 (0, 0)) := hg; simp [World.shape?, hg']) l h0 (by omega) (by unfold maxLen at hcm; omega) ?_
    intro j x hx
    exact hcell j x hx
  have mixed := bd_mixed
  go_enter Tryz.func119, Tryz.ntmps119
  go_wp2
  go_region_o
  all_goals (go_wp2; go_ret; exact ⟨rfl, rfl⟩)
theorem string_us (W : World) (q : Option Addr) : (Builtin.unsafeString_ #[149, 3] 9 #[.pointer q, .int .i64 0]).run Tryz.prog W = .ok (.string .empty) W :=
  Lib.run_unsafeString_none W _ _ _ q
set_option maxHeartbeats 2000000 in
theorem string_nil (b : Nat) (p : Value) (w : World) (hbk : w.heap[b]? = some (.cells #[p, .slice none 0 0] 138 (0, 0))) :
    Calls Tryz.prog 119 #[.pointer (some ⟨b, 0, none⟩)] w fun e w' => e = .returned (.string ⟨#[]⟩) ∧ w' = w.drew := by
  have hUS := string_us
  have c1 : w.drew.cell? ⟨b, 1, none⟩ = some (.slice none 0 0) := by
    have : w.drew.heap[b]? = some (.cells #[p, .slice none 0 0] 138 (0, 0)) := hbk
    rw [Lib.cell_of_heap this]; rfl
  have hSD : (Builtin.unsafeSliceData_ #[136] 149 #[.slice none 0 0]).run Tryz.prog w.drew = .ok (.pointer none) w.drew := rfl
  have mixed := bd_mixed
  go_enter Tryz.func119, Tryz.ntmps119
  go_wp2
  go_region_o
  all_goals (go_wp2; go_ret; exact ⟨rfl, rfl⟩)
set_option maxHeartbeats 2000000 in
theorem string_room (b g cap : Nat) (p : Value) (w : World) (hc0 : cap ≠ 0) (hbk : w.heap[b]? = some (.cells #[p, .slice (some ⟨g, 0, none⟩) 0 cap] 138 (0, 0))) :
    Calls Tryz.prog 119 #[.pointer (some ⟨b, 0, none⟩)] w fun e w' => e = .returned (.string ⟨#[]⟩) ∧ w' = w.drew := by
  have hUS := string_us
  have c1 : w.drew.cell? ⟨b, 1, none⟩ = some (.slice (some ⟨g, 0, none⟩) 0 cap) := by
    have : w.drew.heap[b]? = some (.cells #[p, .slice (some ⟨g, 0, none⟩) 0 cap] 138 (0, 0)) := hbk
    rw [Lib.cell_of_heap this]; rfl
  have hSD : (Builtin.unsafeSliceData_ #[136] 149 #[.slice (some ⟨g, 0, none⟩) 0 cap]).run Tryz.prog w.drew = .ok (.pointer (some ⟨g, 0, none⟩)) w.drew :=
    Lib.run_unsafeSliceData_row _ _ _ _ _ _ hc0
  clear hc0
  have mixed := bd_mixed
  go_enter Tryz.func119, Tryz.ntmps119
  go_wp2
  go_region_o
  all_goals (go_wp2; go_ret; exact ⟨rfl, rfl⟩)
set_option maxHeartbeats 2000000 in
theorem string_noroom (b g : Nat) (p : Value) (cur : Array Value) (w : World) (hbk : w.heap[b]? = some (.cells #[p, .slice (some ⟨g, 0, none⟩) 0 0] 138 (0, 0))) (hg : w.heap[g]? = some (.cells cur 5 (0, 0))) :
    Calls Tryz.prog 119 #[.pointer (some ⟨b, 0, none⟩)] w fun e w' => e = .returned (.string ⟨#[]⟩) ∧ w' = w.drew.alloc (.view ⟨g, 0, none⟩ 5) := by
  have hUS := string_us
  have hlt : b < w.heap.size := by
    rcases Nat.lt_or_ge b w.heap.size with h' | h'
    · exact h'
    · simp [Array.getElem?_eq_none h'] at hbk
  have c1 : w.drew.cell? ⟨b, 1, none⟩ = some (.slice (some ⟨g, 0, none⟩) 0 0) := by
    have : w.drew.heap[b]? = some (.cells #[p, .slice (some ⟨g, 0, none⟩) 0 0] 138 (0, 0)) := hbk
    rw [Lib.cell_of_heap this]; rfl
  have hSD : (Builtin.unsafeSliceData_ #[136] 149 #[.slice (some ⟨g, 0, none⟩) 0 0]).run Tryz.prog w.drew = .ok (.pointer (some ⟨w.drew.heap.size, 0, none⟩)) (w.drew.alloc (.view ⟨g, 0, none⟩ 5)) :=
    Lib.run_unsafeSliceData_zero w.drew _ _ 5 Tryz.underlying149 ⟨g, 0, none⟩ 0 (5, cur.size) (by have hg' : w.drew.heap[g]? = some (.cells cur 5 (0, 0)) := hg; simp [World.shape?, hg'])
  have c2 : (w.drew.alloc (.view ⟨g, 0, none⟩ 5)).cell? ⟨b, 1, none⟩ = some (.slice (some ⟨g, 0, none⟩) 0 0) := by
    have : (w.drew.alloc (.view ⟨g, 0, none⟩ 5)).heap[b]? = _ := (Lib.alloc_old w.drew _ b hlt).trans hbk
    rw [Lib.cell_of_heap this]; rfl
  have c3 : w.cell? ⟨b, 1, none⟩ = some (.slice (some ⟨g, 0, none⟩) 0 0) := by rw [Lib.cell_of_heap hbk]; rfl
  have mixed := bd_mixed
  go_enter Tryz.func119, Tryz.ntmps119
  go_wp2
  go_region_o
  all_goals (go_wp2; go_ret; exact ⟨rfl, rfl⟩)

/-- The end of String: the buffer is told no more, but what the builder has to tell stays so for ever. -/
theorem string_lx (j : Int) (L : List PV) (z : ByteArray) (hL : L = bytesPV z) (hj : j = z.size) :
    CallF (fun _ => Tryz.prog) 119 [.ptr 0 (.lit 0)] [(0, .bld 138 [.sl 1 5 1 (.lit 0) (.sym j)]), (1, .pure true L)] 2
      (fun r h n => r = .p (.str fun _ => z) ∧ h = [(0, .bld 138 [.p (.vsl (.sym j) true L)])] ∧ n = 2) := by
  refine .mk ⟨_, _, Tryz.func119, by kernel_rfl, rfl⟩ fun c w xs hr hN hl hrel => ?_
  obtain ⟨x, rfl, hx⟩ := arg1 hl hrel
  obtain ⟨m, hm, hB⟩ := hr.live 0 _ rfl
  obtain ⟨m1, hm1, hB1⟩ := hr.live 1 _ rfl
  cases m with
  | none => exact hB.elim
  | some r =>
    have hx := ptr_live hm hx
    subst hx
    obtain ⟨cur, hg, hsz, h0, hc⟩ := hB
    have hsz : cur.size = 2 := hsz
    have hc1 := hc 0 _ rfl
    obtain ⟨p, v, rfl⟩ : ∃ p v, cur = #[p, v] := by
      rcases cur with ⟨l⟩
      match l, hsz with
      | [p, v], _ => exact ⟨p, v, rfl⟩
    have hc1 : LR c w (.sl 1 5 1 (.lit 0) (.sym j)) v := hc1
    have hlen : L.length = z.size := by rw [hL, bytesPV, List.length_map, Array.length_toList]; rfl
    -- all ends alike
    have fin : ∀ (w' : World), Ext c w (c.drop 1) w' → (w'.heap[r]? = w.heap[r]?) → LR (c.drop 1) w' (.p (.vsl (.sym j) true L)) v →
        ∃ (c' : Ctx) (rv : LV) (vv : Value) (h' : LH) (n' : Nat), Ending.returned (Value.string z) = .returned vv ∧ (rv = .p (.str fun _ => z) ∧ h' = [(0, LB.bld 138 [.p (.vsl (.sym j) true L)])] ∧ n' = 2) ∧ HR c' w' h' ∧ c'.N = n' ∧ LR c' w' rv vv ∧ Ext c w c' w' := by
      intro w' he hh hv
      have hd := hr.drop 1
      have e0 : ∀ b, b ≠ 1 → (c.drop 1).m b = c.m b := fun b hb => if_neg hb
      have e1 : (c.drop 1).m 1 = none := by simp [Ctx.drop]
      refine ⟨c.drop 1, .p (.str fun _ => z), .string z, _, 2, rfl, ⟨rfl, rfl, rfl⟩, ?_, hN, .p _ _ (.str _), he⟩
      refine hr.step he (.inl rfl) (fun b hb => ?_) (fun b => ?_) (fun b B hb => .inr ?_)
      · by_cases e : b = 1
        · rw [e]; exact e1
        · rw [e0 b e]; exact hr.fresh b hb
      · by_cases e : b = 1
        · exact .inr (.inl (by rw [e]; exact e1))
        · exact .inl (e0 b e)
      · rw [hget_cons] at hb
        by_cases e : 0 = b
        · rw [if_pos e] at hb; cases hb
          subst e
          refine ⟨some r, (e0 0 (by decide)).trans hm, _, hh.trans hg, rfl, h0, fun j u hu => ?_⟩
          rcases j with _ | j
          · simp at hu; subst hu; exact hv
          · simp at hu
        · rw [if_neg e] at hb; cases hb
    have drewE : Ext c w (c.drop 1) w.drew := (Ext.drop hr 1).trans (hr.drop 1 |>.same (w' := w.drew) rfl rfl rfl rfl).1
    have empty : z.size = 0 → z = ⟨#[]⟩ := fun h => by
      cases z with | mk d => have : d = #[] := Array.eq_empty_of_size_eq_zero h; rw [this]
    have hnM : ∀ r1, c.m 1 = some (some r1) → ¬ (c.drop 1).mut r1 := by
      rintro r1 h1 (hX | ⟨b, hb⟩)
      · exact hr.noX 1 r1 h1 hX
      · by_cases e : b = 1
        · rw [e] at hb; have : (c.drop 1).m 1 = none := by simp [Ctx.drop]
          rw [this] at hb; cases hb
        · have e0 : (c.drop 1).m b = c.m b := if_neg e
          rw [e0] at hb
          exact e (hr.inj b 1 r1 hb h1)
    cases hc1 with
    | goneS _ _ _ _ _ _ _ _ hm' _ => rw [hm1] at hm'; cases hm'
    | slv _ _ _ _ _ hm' ho' hn' =>
      simp only [I.val] at hn'
      have hz := empty (by omega)
      refine (string_nil r p w hg).mono ?_
      rintro e w' ⟨rfl, rfl⟩
      rw [← hz]
      exact fin _ drewE rfl (.p _ _ (.vsl0 _ _ _ _ _ hn' (Nat.zero_le _)))
    | sl _ _ _ _ _ g o k cp tot hm' ho' hn' hk' hcp hs' ht' =>
      rw [hm1] at hm'; cases hm'
      obtain ⟨cur, ty, hgg, hle, hrel⟩ := hB1
      simp only [I.val] at ho' hn'
      have ho0 : o = 0 := by omega
      subst ho0
      have hsh : ty = 5 ∧ cur.size = tot := by
        rw [World.shape?, hgg] at hs'
        cases hs'; exact ⟨rfl, rfl⟩
      obtain ⟨rfl, rfl⟩ := hsh
      have hkz : k = z.size := by omega
      have hgr : r ≠ g := fun e => by
        rw [e] at hm
        have := hr.inj 0 1 g hm hm1
        cases this
      by_cases hk0 : k = 0
      · subst hk0
        have hz := empty (by omega)
        by_cases hcp0 : cp = 0
        · subst hcp0
          refine (string_noroom r g p cur w hg hgg).mono ?_
          rintro e w' ⟨rfl, rfl⟩
          rw [← hz]
          have hlt : r < w.heap.size := hr.lt 0 r hm
          have he : Ext c w (c.drop 1) (w.drew.alloc (.view ⟨g, 0, none⟩ 5)) := by
            refine ⟨rfl, rfl, rfl, by simp, rfl, Nat.le_refl _, drewE.old, fun b r hb h => ?_, fun r hr' _ => heap_alloc_old w.drew _ hr', fun b r' hb h => ?_⟩
            · rcases drewE.new b r hb h with h1 | h1
              · exact .inl h1
              · exact .inr h1
            · have h2 : c.m b = some (some r') := by
                rcases drewE.old b hb with e | e
                · rw [← e]; exact h
                · rw [e] at h; cases h
              simp only [World.shape?]
              rw [heap_alloc_old w.drew _ (hr.lt b r' h2)]; rfl
          exact fin _ he (heap_alloc_old w.drew _ hlt) (.p _ _ (.vsl0 _ _ _ _ _ hn' (Nat.zero_le _)))
        · refine (string_room r g cp p w hcp0 hg).mono ?_
          rintro e w' ⟨rfl, rfl⟩
          rw [← hz]
          exact fin _ drewE rfl (.p _ _ (.vsl0 _ _ _ _ _ hn' hcp))
      · have hll : z.data.toList.length = k := by rw [Array.length_toList]; exact hkz.symm
        have hcur : ∀ (j : Nat) (x : UInt8), z.data.toList[j]? = some x → cur[j]? = some (Value.int .u8 x.toNat) := by
          intro j x hx
          have hLj : L[j]? = some (.int .u8 (.sym x.toNat)) := by rw [hL, bytesPV, List.getElem?_map, hx]; rfl
          have h1 := hrel j _ hLj
          have hjl : j < L.length := (List.getElem?_eq_some_iff.1 hLj).1
          rw [Array.getD_eq_getD_getElem?, Array.getElem?_eq_getElem (by omega : j < cur.size)] at h1
          rw [Array.getElem?_eq_getElem (by omega : j < cur.size)]
          generalize cur[j] = q at h1
          have h1 : PR c.mut w (.int .u8 (.sym x.toNat)) q := h1
          cases h1 with | int _ _ m hm => rw [← hm]; rfl
        have hs1 := string_some r g cp p cur z.data.toList w (by intro h; rw [h] at hll; simp at hll; omega) (by rw [hll]; exact hg) hgg (by omega) hcp (by omega) (fun j x hx => by
          rw [add_lit]
          simp only [World.cell?, hgg, Nat.zero_add]
          simpa using hcur j x hx)
        refine hs1.mono ?_
        rintro e w' ⟨rfl, rfl⟩
        have hfg : (w.drew.freeze ⟨g, 0, none⟩ z.data.toList.length).heap[g]? = some (.cells cur 5 (0, k)) := by
          have hgg' : w.drew.heap[g]? = some (.cells cur 5 (0, 0)) := hgg
          rw [hll]; simp [World.freeze, hk0, Array.getElem?_modify, hgg']
        have hfo : ∀ i, i ≠ g → (w.drew.freeze ⟨g, 0, none⟩ z.data.toList.length).heap[i]? = w.heap[i]? := by
          intro i hi
          have hi' : ¬ g = i := fun h => hi h.symm
          rw [hll]; simp [World.freeze, hk0, Array.getElem?_modify, hi']; rfl
        have hfs : (w.drew.freeze ⟨g, 0, none⟩ z.data.toList.length).heap.size = w.heap.size := by rw [hll]; simp [World.freeze, hk0]
        have he : Ext c w (c.drop 1) (w.drew.freeze ⟨g, 0, none⟩ z.data.toList.length) := by
          refine ⟨by rw [hll]; simp [World.freeze, hk0] <;> rfl, by rw [hll]; simp [World.freeze, hk0] <;> rfl, by rw [hll]; simp [World.freeze, hk0] <;> rfl, by rw [hfs]; exact Nat.le_refl _, rfl, Nat.le_refl _, drewE.old, drewE.new, fun i hi ho => hfo i fun e => ho (by rw [e]; exact ⟨1, hm1⟩), fun b r' hb h => ?_⟩
          have hrg : r' ≠ g := fun e => by
            rw [e] at h
            exact hnM g hm1 (.inr ⟨b, h⟩)
          simp only [World.shape?, hfo r' hrg]
        refine fin _ he (hfo r hgr) (.p _ _ (.vsl _ _ _ ⟨g, 0, none⟩ k cp (fun j => cur.getD j Go.undef) hn' rfl (hnM g hm1) (by rw [hfs]; exact hr.lt 1 g hm1) hk' hcp (fun j u hu => ?_) (fun j u hu => (hrel j u hu).ext hr.fresh he)))
        have hjl : j < L.length := (List.getElem?_eq_some_iff.1 hu).1
        rw [add_lit]
        simp only [World.cell?, hfg, Nat.zero_add]
        rw [Array.getD_eq_getD_getElem?, Array.getElem?_eq_getElem (by omega : j < cur.size)]; rfl
end Go.Proofs.YtllafhhnciobhaaGreatDoor
/-
  strings.Builder, in the calculus: bytes.
-/
namespace Go.Proofs.YtllafhhnciobhaaGreatDoor

open Go Go.LX
set_option maxRecDepth 100000
set_option linter.unusedVariables false

theorem bytesPV_append (a b : ByteArray) : bytesPV (a ++ b) = bytesPV a ++ bytesPV b := by
  have : (a ++ b).data.toList = a.data.toList ++ b.data.toList := by rw [ByteArray.data_append, Array.toList_append]
  rw [bytesPV, bytesPV, bytesPV, this, List.map_append]
theorem bytesPV_length (a : ByteArray) : (bytesPV a).length = a.size := by rw [bytesPV, List.length_map, Array.length_toList]; rfl

end Go.Proofs.YtllafhhnciobhaaGreatDoor
/-
  strings.Builder, in the calculus: WriteRune.
-/
namespace Go.Proofs.YtllafhhnciobhaaGreatDoor

open Go Go.LX
set_option maxRecDepth 100000
set_option linter.unusedVariables false

theorem appendRune_lx (j cc : Int) (L : List PV) (z : ByteArray) (hL : L = bytesPV z) (hj : j = z.size) (h0 : 0 ≤ cc) (h1 : cc ≤ 127) (hm : z.size + 1 ≤ 140737488355328) :
    CallF (fun _ => Tryz.prog) 130 [.sl 0 5 1 (.lit 0) (.sym j), .p (.int .i32 (.sym cc))] [(0, .pure true L)] 1
      (fun r h n => ∃ (k : Int) (L' : List PV), r = .sl 1 5 1 (.lit 0) (.sym k) ∧ h = [(1, .pure true L')] ∧ n = 2 ∧ L' = bytesPV (z ++ ⟨#[cc.toNat.toUInt8]⟩) ∧ k = (z.size : Int) + 1) := by
  refine callF_of_body tok Tryz.func130 (by kernel_rfl) rfl rfl rfl ?_; conv => cbv
  refine Fit.mk (show (0 : Int) ≤ cc by omega) (show cc ≤ 4294967295 by omega) fun u hu => ?_
  have hu : u = cc := hu
  conv => cbv
  refine Br.mk (fun _ => ?_) (fun hc => absurd (show u ≤ 127 by omega) hc)
  conv => cbv
  refine Fit.mk (show (0 : Int) ≤ cc by omega) (show cc ≤ 255 by omega) fun v hv => ?_
  have hv : v = cc := hv
  conv => cbv
  refine Room.new rfl ?_
  conv => cbv
  refine Room.new ⟨by rw [hL, bytesPV_length]; show ((z.size : Nat) : Int) = j * 1; omega, by show (j + 1) * 1 ≤ 140737488355328; omega, by show j + 1 ≤ 9223372036854775807; omega⟩ ?_
  conv => cbv
  refine Upd.mk fun L2 hL2 => ?_
  have hL2 : L2 = L ++ [.int .u8 (.sym v)] := hL2
  conv => cbv
  refine Sum.mk fun k hk => ?_
  have hk : k = j + 1 := hk
  have hk2 : k = (z.size : Int) + 1 := by rw [hk, hj]
  conv => cbv
  refine RetF.mk [.sl 1 5 1 (.lit 0) (.sym k)] [(1, .pure true L2)] 2 (Re.at [(2, 1)] []) rfl ⟨k, L2, rfl, rfl, rfl, ?_, hk2⟩
  have hb : ((cc.toNat.toUInt8).toNat : Int) = v := by
    have : cc.toNat.toUInt8.toNat = cc.toNat := by rw [Nat.toUInt8, UInt8.toNat_ofNat']; omega
    omega
  rw [hL2, hL, bytesPV_append]
  show _ = bytesPV z ++ [PV.int .u8 (.sym ((cc.toNat.toUInt8).toNat : Int))]
  rw [hb]

theorem writeRune_lx (j cc : Int) (L : List PV) (z : ByteArray) (hL : L = bytesPV z) (hj : j = z.size) (h0 : 0 ≤ cc) (h1 : cc ≤ 127) (hm : z.size + 1 ≤ 140737488355328) :
    CallF (fun _ => Tryz.prog) 118 [.ptr 0 (.lit 0), .p (.int .i32 (.sym cc))] [(0, .bld 138 [.sl 1 5 1 (.lit 0) (.sym j)]), (1, .pure true L)] 2
      (fun r h n => ∃ (m k : Int) (L' : List PV), r = .tup [.p (.int .i64 (.sym m)), .p .nilif] ∧ h = [(2, .pure true L'), (0, .bld 138 [.sl 2 5 1 (.lit 0) (.sym k)])] ∧ n = 3 ∧ L' = bytesPV (z ++ ⟨#[cc.toNat.toUInt8]⟩) ∧ k = (z ++ ⟨#[cc.toNat.toUInt8]⟩).size) := by
  refine callF_of_body tok Tryz.func118 (by kernel_rfl) rfl rfl rfl ?_; conv => cbv
  refine callF_frame (copyCheck_lx (.sl 1 5 1 (.lit 0) (.sym j)) (.pure true L)) [(0, 0), (1, 1)] rfl (by simp [hmapOk, nget, hget, renB, okB, renV, renVs, rn, okVs, okV]) rfl rfl (fun r h' n' ⟨e1, e2, e3⟩ => ?_)
  subst e1 e2 e3
  conv => cbv
  refine callF_frame (appendRune_lx j cc L z hL hj h0 h1 hm) [(0, 1)] rfl (by simp [hmapOk, nget, hget, renB, okB]) rfl rfl (fun r h' n' ⟨k, L2, e1, e2, e3, hL2, hk⟩ => ?_)
  subst e1 e2 e3
  conv => cbv
  refine Fit.mk (show (-9223372036854775808 : Int) ≤ k - j by omega) (show k - j ≤ 9223372036854775807 by omega) fun m hm2 => ?_
  conv => cbv
  have hk2 : k = (z ++ ⟨#[cc.toNat.toUInt8]⟩ : ByteArray).size := by rw [ByteArray.size_append, hk]; rfl
  refine RetF.mk [.p (.int .i64 (.sym m)), .p .nilif] [(2, .pure true L2), (0, .bld 138 [.sl 2 5 1 (.lit 0) (.sym k)])] 3 (Re.at [(0, 0), (2, 2)] []) rfl ⟨m, k, L2, rfl, rfl, rfl, hL2, hk2⟩
end Go.Proofs.YtllafhhnciobhaaGreatDoor
