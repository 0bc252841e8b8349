/-
  The ground of the proof, part 5: the calculus and what is proved with it.
-/
import Derived.Test.YtfjdifeofnpcnaaDoorBd
import Derived.Test.YtfjdifeofnpcnaaDoorRows
import Derived.Shelf.Strings.BuilderK
import Derived.Shelf.Lay
import Derived.WalkKit
import Derived.ProofKit
import Derived.Handy
import Derived.Outline
import Derived.WalkSpells
import Derived.WalkSmall
import Derived.OneCell
import Derived.Laws.RangeAny
/-
  strings.Builder, in the calculus: what is written, and what String tells.
-/
namespace Go.Proofs.YtfjdifeofnpcnaaDoor

open Go.RowKit

open Go Go.LX
set_option maxRecDepth 100000
set_option linter.unusedVariables false
set_option linter.unusedSimpArgs false

theorem bd_size : (Tryd.prog.info? 51).map (·.size) = some 2 := by kernel_rfl
theorem bd_lies : liesAt Tryd.prog Tryd.prog.depth 51 (2 / Tryd.prog.cellsOf 51) 0 51 1 = true := by kernel_rfl
theorem bd_byte : Tryd.prog.cellsOf 5 = 1 := by kernel_rfl

theorem copyCheck_fresh (b : Nat) (w : World) (h0 : w.cell? ⟨b, 0, none⟩ = some (.pointer none)) (hsh : w.shape? b = some (51, 2)) (hfz : w.frozen? ⟨b, 0, none⟩ = false) :
    Calls Tryd.prog 48 #[.pointer (some ⟨b, 0, none⟩)] w fun e w' => e = .returned (.tuple #[]) ∧ w' = w.setCell ⟨b, 0, none⟩ (.pointer (some ⟨b, 0, none⟩)) := by
  obtain ⟨j, hj, hjs⟩ := Option.map_eq_some_iff.1 bd_size
  go_enter Tryd.func48, Tryd.ntmps48
  go_wp2
  rw [Lib.run_to_unsafe w ⟨b, 0, none⟩ Tryd.underlying49 Tryd.underlying99 hj (by rw [hjs]; decide) hsh (Nat.zero_lt_succ 1)]
  simp only [Result.andThen]
  rw [Oper.upon_value]
  go_wp2
  rw [run_callFunc_extern Tryd.func69 (by kernel_rfl) (by kernel_rfl) (by kernel_rfl) (e := Extern.AbiNoEscape.same) (by kernel_rfl)]
  rw [Lib.run_noEscape]
  simp only [Result.andThen]
  rw [Oper.upon_value]
  go_wp2
  rw [Lib.run_from_unsafe w ⟨b, 0, none⟩ Tryd.underlying99 Tryd.underlying49 hj hsh bd_lies]
  simp only [Result.andThen]
  rw [Oper.upon_value]
  go_wp2
  go_end0
  exact ⟨rfl, rfl⟩

theorem copyCheck_used (b : Nat) (w : World) (h0 : w.cell? ⟨b, 0, none⟩ = some (.pointer (some ⟨b, 0, none⟩))) :
    Calls Tryd.prog 48 #[.pointer (some ⟨b, 0, none⟩)] w fun e w' => e = .returned (.tuple #[]) ∧ w' = w := by
  obtain ⟨j, hj, _⟩ := Option.map_eq_some_iff.1 bd_size
  go_enter Tryd.func48, Tryd.ntmps48
  go_wp2
  rw [Lib.run_neq_ptr_same w _ Tryd.underlying49 hj]
  go_wp2
  go_end0
  exact ⟨rfl, rfl⟩

theorem arg1 {c : Ctx} {w : World} {u : LV} {xs : Array Value} (hl : [u].length = xs.size) (hrel : ∀ (i : Nat) (v : LV), [u][i]? = some v → LR c w v (xs.getD i Go.undef)) : ∃ x, xs = #[x] ∧ LR c w u x := by
  have h0 := hrel 0 u rfl
  rcases xs with ⟨l⟩
  match l, hl with
  | [x], _ => exact ⟨x, rfl, h0⟩
theorem ptr_live {c : Ctx} {w : World} {b : Nat} {m : Nat} {x : Value} (hm : c.m b = some (some m)) (hx : LR c w (.ptr b (.lit 0)) x) : x = .pointer (some ⟨m, 0, none⟩) := by
  cases hx with
  | ptr _ _ r k hm' ho =>
    rw [hm] at hm'; cases hm'
    have : k = 0 := by simp only [I.val] at ho; omega
    rw [this]
  | goneP _ _ _ hm' _ => rw [hm] at hm'; cases hm'

/-- copyCheck lets a builder be as it is known. -/
theorem copyCheck_lx (v : LV) (B : LB) : CallF (fun _ => Tryd.prog) 48 [.ptr 0 (.lit 0)] [(0, .bld 51 [v]), (1, B)] 2 (fun r h n => r = .tup [] ∧ h = [(0, .bld 51 [v]), (1, B)] ∧ n = 2) := by
  refine .mk ⟨_, _, Tryd.func48, by kernel_rfl, rfl⟩ fun c w xs hr hN hl hrel => ?_
  obtain ⟨x, rfl, hx⟩ := arg1 hl hrel
  obtain ⟨m, hm, hB⟩ := hr.live 0 _ rfl
  cases m with
  | none => exact hB.elim
  | some r =>
    have hx := ptr_live hm hx
    subst hx
    have hB0 := hB
    obtain ⟨cur, hg, hsz, h0, hc⟩ := hB
    have hsz : cur.size = 2 := hsz
    have hc0 : w.cell? ⟨r, 0, none⟩ = some (cur.getD 0 Go.undef) := by
      simp only [World.cell?, hg]
      rw [Array.getD_eq_getD_getElem?, Array.getElem?_eq_getElem (by omega : 0 < cur.size)]; rfl
    rcases h0 with h0 | h0
    · rw [h0] at hc0
      refine (copyCheck_fresh r w hc0 (by simp only [World.shape?, hg, hsz]) (by simp [World.frozen?, hg])).mono ?_
      rintro e w' ⟨rfl, rfl⟩
      have hg' : (w.setCell ⟨r, 0, none⟩ (.pointer (some ⟨r, 0, none⟩))).heap[r]? = some (.cells (cur.setIfInBounds 0 (.pointer (some ⟨r, 0, none⟩))) 51 (0, 0)) := by
        simp [World.setCell, Array.getElem?_modify, hg]
      have ht : Turn w (w.setCell ⟨r, 0, none⟩ (.pointer (some ⟨r, 0, none⟩))) r := by
        refine ⟨rfl, rfl, rfl, by simp [World.setCell], fun k hk => ?_, ?_⟩
        · have hk' : ¬ r = k := fun h => hk h.symm
          simp [World.setCell, Array.getElem?_modify, hk']
        · simp only [World.shape?, hg, hg', Array.size_setIfInBounds]
      have hB' : BR c (w.setCell ⟨r, 0, none⟩ (.pointer (some ⟨r, 0, none⟩))) (.bld 51 [v]) (some r) := by
        refine ⟨_, hg', by rw [Array.size_setIfInBounds]; exact hsz, .inr ?_, fun j u hu => ?_⟩
        · simp [Array.getD_eq_getD_getElem?, hsz]
        · have := (hc j u hu).ext hr.fresh (Ext.turn hr hm ht)
          rw [Array.getD_eq_getD_getElem?, Array.getElem?_setIfInBounds, if_neg (by omega), ← Array.getD_eq_getD_getElem?]
          exact this
      exact ⟨c, .tup [], _, _, _, rfl, ⟨rfl, rfl, rfl⟩, hr.turn rfl hm ht hB', hN, .tup _ _ rfl (fun j u hu => by simp at hu), Ext.turn hr hm ht⟩
    · rw [h0] at hc0
      refine (copyCheck_used r w hc0).mono ?_
      rintro e w' ⟨rfl, rfl⟩
      exact ⟨c, .tup [], _, _, _, rfl, ⟨rfl, rfl, rfl⟩, hr, hN, .tup _ _ rfl (fun j u hu => by simp at hu), Ext.refl hr⟩

/-! ### String -/
theorem bd_mixed : Tryd.prog.follows .mixedOrders = true := by kernel_rfl
set_option maxHeartbeats 2000000 in
theorem string_some (b g cap : Nat) (p : Value) (cur : Array Value) (l : List UInt8) (w : World) (h0 : l ≠ []) (hbk : w.heap[b]? = some (.cells #[p, .slice (some ⟨g, 0, none⟩) l.length cap] 51 (0, 0)))
    (hg : w.heap[g]? = some (.cells cur 5 (0, 0))) (hn : l.length ≤ cap) (hcm : cap ≤ maxLen) (hcs : cap ≤ cur.size) (hcell : ∀ j x, l[j]? = some x → w.cell? ((⟨g, 0, none⟩ : Addr).add j) = some (.int .u8 x.toNat)) :
    Calls Tryd.prog 28 #[.pointer (some ⟨b, 0, none⟩)] w fun e w' => e = .returned (.string ⟨l.toArray⟩) ∧ w' = w.drew.freeze ⟨g, 0, none⟩ l.length := by
  have hl0 : l.length ≠ 0 := by simpa using h0
  have c1 : w.drew.cell? ⟨b, 1, none⟩ = some (.slice (some ⟨g, 0, none⟩) l.length cap) := by
    have : w.drew.heap[b]? = some (.cells #[p, .slice (some ⟨g, 0, none⟩) l.length cap] 51 (0, 0)) := hbk
    rw [Lib.cell_of_heap this]; rfl
  have hSD : (Builtin.unsafeSliceData_ #[39] 77 #[.slice (some ⟨g, 0, none⟩) l.length cap]).run Tryd.prog w.drew = .ok (.pointer (some ⟨g, 0, none⟩)) w.drew :=
    Lib.run_unsafeSliceData_row _ _ _ _ _ _ (by omega)
  have hUS : (Builtin.unsafeString_ #[77, 3] 9 #[.pointer (some ⟨g, 0, none⟩), .int .i64 l.length]).run Tryd.prog w.drew = .ok (.string ⟨l.toArray⟩) (w.drew.freeze ⟨g, 0, none⟩ l.length) := by
    refine Lib.run_unsafeString_row w.drew 77 3 9 5 Tryd.underlying77 bd_byte g cur.size (by have hg' : w.drew.heap[g]? = some (.cells cur 5 (0, 0)) := hg; simp [World.shape?, hg']) l h0 (by omega) (by unfold maxLen at hcm; omega) ?_
    intro j x hx
    exact hcell j x hx
  have mixed := bd_mixed
  go_enter Tryd.func28, Tryd.ntmps28
  go_wp2
  go_region_o
  all_goals (go_wp2; go_ret; exact ⟨rfl, rfl⟩)
theorem string_us (W : World) (q : Option Addr) : (Builtin.unsafeString_ #[77, 3] 9 #[.pointer q, .int .i64 0]).run Tryd.prog W = .ok (.string .empty) W :=
  Lib.run_unsafeString_none W _ _ _ q
set_option maxHeartbeats 2000000 in
theorem string_nil (b : Nat) (p : Value) (w : World) (hbk : w.heap[b]? = some (.cells #[p, .slice none 0 0] 51 (0, 0))) :
    Calls Tryd.prog 28 #[.pointer (some ⟨b, 0, none⟩)] w fun e w' => e = .returned (.string ⟨#[]⟩) ∧ w' = w.drew := by
  have hUS := string_us
  have c1 : w.drew.cell? ⟨b, 1, none⟩ = some (.slice none 0 0) := by
    have : w.drew.heap[b]? = some (.cells #[p, .slice none 0 0] 51 (0, 0)) := hbk
    rw [Lib.cell_of_heap this]; rfl
  have hSD : (Builtin.unsafeSliceData_ #[39] 77 #[.slice none 0 0]).run Tryd.prog w.drew = .ok (.pointer none) w.drew := rfl
  have mixed := bd_mixed
  go_enter Tryd.func28, Tryd.ntmps28
  go_wp2
  go_region_o
  all_goals (go_wp2; go_ret; exact ⟨rfl, rfl⟩)
set_option maxHeartbeats 2000000 in
theorem string_room (b g cap : Nat) (p : Value) (w : World) (hc0 : cap ≠ 0) (hbk : w.heap[b]? = some (.cells #[p, .slice (some ⟨g, 0, none⟩) 0 cap] 51 (0, 0))) :
    Calls Tryd.prog 28 #[.pointer (some ⟨b, 0, none⟩)] w fun e w' => e = .returned (.string ⟨#[]⟩) ∧ w' = w.drew := by
  have hUS := string_us
  have c1 : w.drew.cell? ⟨b, 1, none⟩ = some (.slice (some ⟨g, 0, none⟩) 0 cap) := by
    have : w.drew.heap[b]? = some (.cells #[p, .slice (some ⟨g, 0, none⟩) 0 cap] 51 (0, 0)) := hbk
    rw [Lib.cell_of_heap this]; rfl
  have hSD : (Builtin.unsafeSliceData_ #[39] 77 #[.slice (some ⟨g, 0, none⟩) 0 cap]).run Tryd.prog w.drew = .ok (.pointer (some ⟨g, 0, none⟩)) w.drew :=
    Lib.run_unsafeSliceData_row _ _ _ _ _ _ hc0
  clear hc0
  have mixed := bd_mixed
  go_enter Tryd.func28, Tryd.ntmps28
  go_wp2
  go_region_o
  all_goals (go_wp2; go_ret; exact ⟨rfl, rfl⟩)
set_option maxHeartbeats 2000000 in
theorem string_noroom (b g : Nat) (p : Value) (cur : Array Value) (w : World) (hbk : w.heap[b]? = some (.cells #[p, .slice (some ⟨g, 0, none⟩) 0 0] 51 (0, 0))) (hg : w.heap[g]? = some (.cells cur 5 (0, 0))) :
    Calls Tryd.prog 28 #[.pointer (some ⟨b, 0, none⟩)] w fun e w' => e = .returned (.string ⟨#[]⟩) ∧ w' = w.drew.alloc (.view ⟨g, 0, none⟩ 5) := by
  have hUS := string_us
  have hlt : b < w.heap.size := by
    rcases Nat.lt_or_ge b w.heap.size with h' | h'
    · exact h'
    · simp [Array.getElem?_eq_none h'] at hbk
  have c1 : w.drew.cell? ⟨b, 1, none⟩ = some (.slice (some ⟨g, 0, none⟩) 0 0) := by
    have : w.drew.heap[b]? = some (.cells #[p, .slice (some ⟨g, 0, none⟩) 0 0] 51 (0, 0)) := hbk
    rw [Lib.cell_of_heap this]; rfl
  have hSD : (Builtin.unsafeSliceData_ #[39] 77 #[.slice (some ⟨g, 0, none⟩) 0 0]).run Tryd.prog w.drew = .ok (.pointer (some ⟨w.drew.heap.size, 0, none⟩)) (w.drew.alloc (.view ⟨g, 0, none⟩ 5)) :=
    Lib.run_unsafeSliceData_zero w.drew _ _ 5 Tryd.underlying77 ⟨g, 0, none⟩ 0 (5, cur.size) (by have hg' : w.drew.heap[g]? = some (.cells cur 5 (0, 0)) := hg; simp [World.shape?, hg'])
  have c2 : (w.drew.alloc (.view ⟨g, 0, none⟩ 5)).cell? ⟨b, 1, none⟩ = some (.slice (some ⟨g, 0, none⟩) 0 0) := by
    have : (w.drew.alloc (.view ⟨g, 0, none⟩ 5)).heap[b]? = _ := (Lib.alloc_old w.drew _ b hlt).trans hbk
    rw [Lib.cell_of_heap this]; rfl
  have c3 : w.cell? ⟨b, 1, none⟩ = some (.slice (some ⟨g, 0, none⟩) 0 0) := by rw [Lib.cell_of_heap hbk]; rfl
  have mixed := bd_mixed
  go_enter Tryd.func28, Tryd.ntmps28
  go_wp2
  go_region_o
  all_goals (go_wp2; go_ret; exact ⟨rfl, rfl⟩)

/-- The end of String: the buffer is told no more, but what the builder has to tell stays so for ever. -/
theorem string_lx (j : Int) (L : List PV) (z : ByteArray) (hL : L = bytesPV z) (hj : j = z.size) :
    CallF (fun _ => Tryd.prog) 28 [.ptr 0 (.lit 0)] [(0, .bld 51 [.sl 1 5 1 (.lit 0) (.sym j)]), (1, .pure true L)] 2
      (fun r h n => r = .p (.str fun _ => z) ∧ h = [(0, .bld 51 [.p (.vsl (.sym j) true L)])] ∧ n = 2) := by
  refine .mk ⟨_, _, Tryd.func28, by kernel_rfl, rfl⟩ fun c w xs hr hN hl hrel => ?_
  obtain ⟨x, rfl, hx⟩ := arg1 hl hrel
  obtain ⟨m, hm, hB⟩ := hr.live 0 _ rfl
  obtain ⟨m1, hm1, hB1⟩ := hr.live 1 _ rfl
  cases m with
  | none => exact hB.elim
  | some r =>
    have hx := ptr_live hm hx
    subst hx
    obtain ⟨cur, hg, hsz, h0, hc⟩ := hB
    have hsz : cur.size = 2 := hsz
    have hc1 := hc 0 _ rfl
    obtain ⟨p, v, rfl⟩ : ∃ p v, cur = #[p, v] := by
      rcases cur with ⟨l⟩
      match l, hsz with
      | [p, v], _ => exact ⟨p, v, rfl⟩
    have hc1 : LR c w (.sl 1 5 1 (.lit 0) (.sym j)) v := hc1
    have hlen : L.length = z.size := by rw [hL, bytesPV, List.length_map, Array.length_toList]; rfl
    -- all ends alike
    have fin : ∀ (w' : World), Ext c w (c.drop 1) w' → (w'.heap[r]? = w.heap[r]?) → LR (c.drop 1) w' (.p (.vsl (.sym j) true L)) v →
        ∃ (c' : Ctx) (rv : LV) (vv : Value) (h' : LH) (n' : Nat), Ending.returned (Value.string z) = .returned vv ∧ (rv = .p (.str fun _ => z) ∧ h' = [(0, LB.bld 51 [.p (.vsl (.sym j) true L)])] ∧ n' = 2) ∧ HR c' w' h' ∧ c'.N = n' ∧ LR c' w' rv vv ∧ Ext c w c' w' := by
      intro w' he hh hv
      have hd := hr.drop 1
      have e0 : ∀ b, b ≠ 1 → (c.drop 1).m b = c.m b := fun b hb => if_neg hb
      have e1 : (c.drop 1).m 1 = none := by simp [Ctx.drop]
      refine ⟨c.drop 1, .p (.str fun _ => z), .string z, _, 2, rfl, ⟨rfl, rfl, rfl⟩, ?_, hN, .p _ _ (.str _), he⟩
      refine hr.step he (.inl rfl) (fun b hb => ?_) (fun b => ?_) (fun b B hb => .inr ?_)
      · by_cases e : b = 1
        · rw [e]; exact e1
        · rw [e0 b e]; exact hr.fresh b hb
      · by_cases e : b = 1
        · exact .inr (.inl (by rw [e]; exact e1))
        · exact .inl (e0 b e)
      · rw [hget_cons] at hb
        by_cases e : 0 = b
        · rw [if_pos e] at hb; cases hb
          subst e
          refine ⟨some r, (e0 0 (by decide)).trans hm, _, hh.trans hg, rfl, h0, fun j u hu => ?_⟩
          rcases j with _ | j
          · simp at hu; subst hu; exact hv
          · simp at hu
        · rw [if_neg e] at hb; cases hb
    have drewE : Ext c w (c.drop 1) w.drew := (Ext.drop hr 1).trans (hr.drop 1 |>.same (w' := w.drew) rfl rfl rfl rfl).1
    have empty : z.size = 0 → z = ⟨#[]⟩ := fun h => by
      cases z with | mk d => have : d = #[] := Array.eq_empty_of_size_eq_zero h; rw [this]
    have hnM : ∀ r1, c.m 1 = some (some r1) → ¬ (c.drop 1).mut r1 := by
      rintro r1 h1 (hX | ⟨b, hb⟩)
      · exact hr.noX 1 r1 h1 hX
      · by_cases e : b = 1
        · rw [e] at hb; have : (c.drop 1).m 1 = none := by simp [Ctx.drop]
          rw [this] at hb; cases hb
        · have e0 : (c.drop 1).m b = c.m b := if_neg e
          rw [e0] at hb
          exact e (hr.inj b 1 r1 hb h1)
    cases hc1 with
    | goneS _ _ _ _ _ _ _ _ hm' _ => rw [hm1] at hm'; cases hm'
    | slz _ _ _ _ _ _ _ _ _ ho' _ _ h0' => exfalso; simp only [I.val] at ho'; omega
    | slv _ _ _ _ _ hm' ho' hn' =>
      simp only [I.val] at hn'
      have hz := empty (by omega)
      refine (string_nil r p w hg).mono ?_
      rintro e w' ⟨rfl, rfl⟩
      rw [← hz]
      exact fin _ drewE rfl (.p _ _ (.vsl0 _ _ _ _ _ hn' (Nat.zero_le _)))
    | sl _ _ _ _ _ g o k cp tot hm' ho' hn' hk' hcp hs' ht' =>
      rw [hm1] at hm'; cases hm'
      obtain ⟨cur, ty, hgg, hle, hrel⟩ := hB1
      simp only [I.val] at ho' hn'
      have ho0 : o = 0 := by omega
      subst ho0
      have hsh : ty = 5 ∧ cur.size = tot := by
        rw [World.shape?, hgg] at hs'
        cases hs'; exact ⟨rfl, rfl⟩
      obtain ⟨rfl, rfl⟩ := hsh
      have hkz : k = z.size := by omega
      have hgr : r ≠ g := fun e => by
        rw [e] at hm
        have := hr.inj 0 1 g hm hm1
        cases this
      by_cases hk0 : k = 0
      · subst hk0
        have hz := empty (by omega)
        by_cases hcp0 : cp = 0
        · subst hcp0
          refine (string_noroom r g p cur w hg hgg).mono ?_
          rintro e w' ⟨rfl, rfl⟩
          rw [← hz]
          have hlt : r < w.heap.size := hr.lt 0 r hm
          have he : Ext c w (c.drop 1) (w.drew.alloc (.view ⟨g, 0, none⟩ 5)) := by
            refine ⟨rfl, rfl, rfl, by simp, rfl, Nat.le_refl _, drewE.old, fun b r hb h => ?_, fun r hr' _ => heap_alloc_old w.drew _ hr', fun b r' hb h => ?_⟩
            · rcases drewE.new b r hb h with h1 | h1
              · exact .inl h1
              · exact .inr h1
            · have h2 : c.m b = some (some r') := by
                rcases drewE.old b hb with e | e
                · rw [← e]; exact h
                · rw [e] at h; cases h
              simp only [World.shape?]
              rw [heap_alloc_old w.drew _ (hr.lt b r' h2)]; rfl
          exact fin _ he (heap_alloc_old w.drew _ hlt) (.p _ _ (.vsl0 _ _ _ _ _ hn' (Nat.zero_le _)))
        · refine (string_room r g cp p w hcp0 hg).mono ?_
          rintro e w' ⟨rfl, rfl⟩
          rw [← hz]
          exact fin _ drewE rfl (.p _ _ (.vsl0 _ _ _ _ _ hn' hcp))
      · have hll : z.data.toList.length = k := by rw [Array.length_toList]; exact hkz.symm
        have hcur : ∀ (j : Nat) (x : UInt8), z.data.toList[j]? = some x → cur[j]? = some (Value.int .u8 x.toNat) := by
          intro j x hx
          have hLj : L[j]? = some (.int .u8 (.sym x.toNat)) := by rw [hL, bytesPV, List.getElem?_map, hx]; rfl
          have h1 := hrel j _ hLj
          have hjl : j < L.length := (List.getElem?_eq_some_iff.1 hLj).1
          rw [Array.getD_eq_getD_getElem?, Array.getElem?_eq_getElem (by omega : j < cur.size)] at h1
          rw [Array.getElem?_eq_getElem (by omega : j < cur.size)]
          generalize cur[j] = q at h1
          have h1 : PR c.mut w (.int .u8 (.sym x.toNat)) q := h1
          cases h1 with | int _ _ m hm => rw [← hm]; rfl
        have hs1 := string_some r g cp p cur z.data.toList w (by intro h; rw [h] at hll; simp at hll; omega) (by rw [hll]; exact hg) hgg (by omega) hcp (by omega) (fun j x hx => by
          rw [add_lit]
          simp only [World.cell?, hgg, Nat.zero_add]
          simpa using hcur j x hx)
        refine hs1.mono ?_
        rintro e w' ⟨rfl, rfl⟩
        have hfg : (w.drew.freeze ⟨g, 0, none⟩ z.data.toList.length).heap[g]? = some (.cells cur 5 (0, k)) := by
          have hgg' : w.drew.heap[g]? = some (.cells cur 5 (0, 0)) := hgg
          rw [hll]; simp [World.freeze, hk0, Array.getElem?_modify, hgg']
        have hfo : ∀ i, i ≠ g → (w.drew.freeze ⟨g, 0, none⟩ z.data.toList.length).heap[i]? = w.heap[i]? := by
          intro i hi
          have hi' : ¬ g = i := fun h => hi h.symm
          rw [hll]; simp [World.freeze, hk0, Array.getElem?_modify, hi']; rfl
        have hfs : (w.drew.freeze ⟨g, 0, none⟩ z.data.toList.length).heap.size = w.heap.size := by rw [hll]; simp [World.freeze, hk0]
        have he : Ext c w (c.drop 1) (w.drew.freeze ⟨g, 0, none⟩ z.data.toList.length) := by
          refine ⟨by rw [hll]; simp [World.freeze, hk0] <;> rfl, by rw [hll]; simp [World.freeze, hk0] <;> rfl, by rw [hll]; simp [World.freeze, hk0] <;> rfl, by rw [hfs]; exact Nat.le_refl _, rfl, Nat.le_refl _, drewE.old, drewE.new, fun i hi ho => hfo i fun e => ho (by rw [e]; exact ⟨1, hm1⟩), fun b r' hb h => ?_⟩
          have hrg : r' ≠ g := fun e => by
            rw [e] at h
            exact hnM g hm1 (.inr ⟨b, h⟩)
          simp only [World.shape?, hfo r' hrg]
        refine fin _ he (hfo r hgr) (.p _ _ (.vsl _ _ _ ⟨g, 0, none⟩ k cp (fun j => cur.getD j Go.undef) hn' rfl (hnM g hm1) (by rw [hfs]; exact hr.lt 1 g hm1) hk' hcp (fun j u hu => ?_) (fun j u hu => (hrel j u hu).ext hr.fresh he)))
        have hjl : j < L.length := (List.getElem?_eq_some_iff.1 hu).1
        rw [add_lit]
        simp only [World.cell?, hfg, Nat.zero_add]
        rw [Array.getD_eq_getD_getElem?, Array.getElem?_eq_getElem (by omega : j < cur.size)]; rfl
end Go.Proofs.YtfjdifeofnpcnaaDoor
/-
  strings.Builder, in the calculus: bytes.
-/
namespace Go.Proofs.YtfjdifeofnpcnaaDoor

open Go Go.LX
set_option maxRecDepth 100000
set_option linter.unusedVariables false

theorem bytesPV_append (a b : ByteArray) : bytesPV (a ++ b) = bytesPV a ++ bytesPV b := by
  have : (a ++ b).data.toList = a.data.toList ++ b.data.toList := by rw [ByteArray.data_append, Array.toList_append]
  rw [bytesPV, bytesPV, bytesPV, this, List.map_append]
theorem bytesPV_length (a : ByteArray) : (bytesPV a).length = a.size := by rw [bytesPV, List.length_map, Array.length_toList]; rfl

end Go.Proofs.YtfjdifeofnpcnaaDoor
/-
  strings.Builder, in the calculus: WriteRune.
-/
namespace Go.Proofs.YtfjdifeofnpcnaaDoor

open Go Go.LX
set_option maxRecDepth 100000
set_option linter.unusedVariables false

theorem appendRune_lx (j cc : Int) (L : List PV) (z : ByteArray) (hL : L = bytesPV z) (hj : j = z.size) (h0 : 0 ≤ cc) (h1 : cc ≤ 127) (hm : z.size + 1 ≤ 140737488355328) :
    CallF (fun _ => Tryd.prog) 81 [.sl 0 5 1 (.lit 0) (.sym j), .p (.int .i32 (.sym cc))] [(0, .pure true L)] 1
      (fun r h n => ∃ (k : Int) (L' : List PV), r = .sl 1 5 1 (.lit 0) (.sym k) ∧ h = [(1, .pure true L')] ∧ n = 2 ∧ L' = bytesPV (z ++ ⟨#[cc.toNat.toUInt8]⟩) ∧ k = (z.size : Int) + 1) := by
  refine callF_of_body tok Tryd.func81 (by kernel_rfl) rfl rfl rfl ?_; conv => cbv
  refine Fit.mk (show (0 : Int) ≤ cc by omega) (show cc ≤ 4294967295 by omega) fun u hu => ?_
  have hu : u = cc := hu
  conv => cbv
  refine Br.mk (fun _ => ?_) (fun hc => absurd (show u ≤ 127 by omega) hc)
  conv => cbv
  refine Fit.mk (show (0 : Int) ≤ cc by omega) (show cc ≤ 255 by omega) fun v hv => ?_
  have hv : v = cc := hv
  conv => cbv
  refine Room.new rfl ?_
  conv => cbv
  refine Room.new ⟨by rw [hL, bytesPV_length]; show ((z.size : Nat) : Int) = j * 1; omega, by show (j + 1) * 1 ≤ 140737488355328; omega, by show j + 1 ≤ 9223372036854775807; omega⟩ ?_
  conv => cbv
  refine Upd.mk fun L2 hL2 => ?_
  have hL2 : L2 = L ++ [.int .u8 (.sym v)] := hL2
  conv => cbv
  refine Sum.mk fun k hk => ?_
  have hk : k = j + 1 := hk
  have hk2 : k = (z.size : Int) + 1 := by rw [hk, hj]
  conv => cbv
  refine RetF.mk [.sl 1 5 1 (.lit 0) (.sym k)] [(1, .pure true L2)] 2 (Re.at [(2, 1)] []) rfl ⟨k, L2, rfl, rfl, rfl, ?_, hk2⟩
  have hb : ((cc.toNat.toUInt8).toNat : Int) = v := by
    have : cc.toNat.toUInt8.toNat = cc.toNat := by rw [Nat.toUInt8, UInt8.toNat_ofNat']; omega
    omega
  rw [hL2, hL, bytesPV_append]
  show _ = bytesPV z ++ [PV.int .u8 (.sym ((cc.toNat.toUInt8).toNat : Int))]
  rw [hb]

theorem writeRune_lx (j cc : Int) (L : List PV) (z : ByteArray) (hL : L = bytesPV z) (hj : j = z.size) (h0 : 0 ≤ cc) (h1 : cc ≤ 127) (hm : z.size + 1 ≤ 140737488355328) :
    CallF (fun _ => Tryd.prog) 67 [.ptr 0 (.lit 0), .p (.int .i32 (.sym cc))] [(0, .bld 51 [.sl 1 5 1 (.lit 0) (.sym j)]), (1, .pure true L)] 2
      (fun r h n => ∃ (m k : Int) (L' : List PV), r = .tup [.p (.int .i64 (.sym m)), .p .nilif] ∧ h = [(2, .pure true L'), (0, .bld 51 [.sl 2 5 1 (.lit 0) (.sym k)])] ∧ n = 3 ∧ L' = bytesPV (z ++ ⟨#[cc.toNat.toUInt8]⟩) ∧ k = (z ++ ⟨#[cc.toNat.toUInt8]⟩).size) := by
  refine callF_of_body tok Tryd.func67 (by kernel_rfl) rfl rfl rfl ?_; conv => cbv
  refine callF_frame (copyCheck_lx (.sl 1 5 1 (.lit 0) (.sym j)) (.pure true L)) [(0, 0), (1, 1)] rfl (by simp [hmapOk, nget, hget, renB, okB, renV, renVs, rn, okVs, okV]) rfl rfl (fun r h' n' ⟨e1, e2, e3⟩ => ?_)
  subst e1 e2 e3
  conv => cbv
  refine callF_frame (appendRune_lx j cc L z hL hj h0 h1 hm) [(0, 1)] rfl (by simp [hmapOk, nget, hget, renB, okB]) rfl rfl (fun r h' n' ⟨k, L2, e1, e2, e3, hL2, hk⟩ => ?_)
  subst e1 e2 e3
  conv => cbv
  refine Fit.mk (show (-9223372036854775808 : Int) ≤ k - j by omega) (show k - j ≤ 9223372036854775807 by omega) fun m hm2 => ?_
  conv => cbv
  have hk2 : k = (z ++ ⟨#[cc.toNat.toUInt8]⟩ : ByteArray).size := by rw [ByteArray.size_append, hk]; rfl
  refine RetF.mk [.p (.int .i64 (.sym m)), .p .nilif] [(2, .pure true L2), (0, .bld 51 [.sl 2 5 1 (.lit 0) (.sym k)])] 3 (Re.at [(0, 0), (2, 2)] []) rfl ⟨m, k, L2, rfl, rfl, rfl, hL2, hk2⟩
end Go.Proofs.YtfjdifeofnpcnaaDoor
/-
  Layer 1: lines of a text whose signs may all stand.
-/
namespace Go.Proofs.YtfjdifeofnpcnaaDoor

open Go Go.LX
set_option maxRecDepth 100000
set_option linter.unusedVariables false
set_option linter.unusedSimpArgs false

theorem dec_at (l : List UInt8) (hl : ∀ c ∈ l, c.toNat < 128) (i : Nat) (c : UInt8) (h : l[i]? = some c) : Utf8.decode ⟨l.toArray⟩ i = (c.toNat, 1) := by
  have hi := (List.getElem?_eq_some_iff.1 h).1
  have hc : l[i] = c := (List.getElem?_eq_some_iff.1 h).2
  have hsz : i < (ByteArray.mk l.toArray).size := by show i < l.toArray.size; simpa using hi
  have hg : (ByteArray.mk l.toArray)[i]'hsz = c := by show l.toArray[i]'_ = c; simpa using hc
  have := decode_ascii ⟨l.toArray⟩ i hsz (by rw [hg]; exact hl c (List.mem_of_getElem? h))
  rw [this, hg]
theorem bol_size (l : List UInt8) : (bytesOfL l).size = l.length := by show l.toArray.size = _; simp
theorem bol_app (l : List UInt8) (c : UInt8) : bytesOfL (l ++ [c]) = bytesOfL l ++ ⟨#[c]⟩ := by
  apply ByteArray.ext
  rw [ByteArray.data_append]
  show (l ++ [c]).toArray = l.toArray ++ #[c]
  simp
theorem bol_nil (l : List UInt8) : bytesOfL l = ⟨#[]⟩ ↔ l = [] := by
  constructor
  · intro h
    have := congrArg ByteArray.size h
    rw [bol_size] at this
    exact List.length_eq_zero_iff.1 this
  · rintro rfl; rfl
/-- Lines, as cells. -/
def spv (l : List (List UInt8)) : List PV := l.map fun x => .str fun _ => bytesOfL x
theorem spv_length (l : List (List UInt8)) : (spv l).length = l.length := List.length_map _
theorem spv_get {l : List (List UInt8)} {i : Nat} {x : List UInt8} (h : l[i]? = some x) : (spv l)[i]? = some (.str fun _ => bytesOfL x) := by rw [spv, List.getElem?_map, h]; rfl
theorem spv_app (a : List (List UInt8)) (x : List UInt8) : spv a ++ [.str fun _ => bytesOfL x] = spv (a ++ [x]) := by rw [spv, spv, List.map_append]; rfl
theorem withLine_none (j : Int) (L : List PV) (y : ByteArray) (hy : y = ⟨#[]⟩) : CallF (fun _ => Tryd.prog) 70 [.sl 0 9 1 (.lit 0) (.sym j), .p (.str fun _ => y)] [(0, .pure true L)] 1
    (fun r h n => r = .sl 0 9 1 (.lit 0) (.sym j) ∧ h = [(0, .pure true L)] ∧ n = 1) := by
  refine callF_of_body tok Tryd.func70 (by kernel_rfl) rfl rfl rfl ?_; conv => cbv
  refine Br.mk (fun g => ?_) (fun g => ?_)
  case refine_2 =>
    have gf : False := g hy
    cases gf
  conv => cbv
  refine RetF.mk [.sl 0 9 1 (.lit 0) (.sym j)] [(0, .pure true L)] 1 (Re.at [(0, 0)] []) rfl ⟨rfl, rfl, rfl⟩
theorem withLine_some (j k : Int) (L L' : List PV) (y : ByteArray) (hy : ¬ y = ⟨#[]⟩) (hj : (L.length : Int) = j) (hjb : j ≤ 100000) (hk : k = j + 1) (hL' : L' = L ++ [.str fun _ => y]) : CallF (fun _ => Tryd.prog) 70 [.sl 0 9 1 (.lit 0) (.sym j), .p (.str fun _ => y)] [(0, .pure true L)] 1
    (fun r h n => r = .sl 1 9 1 (.lit 0) (.sym k) ∧ h = [(1, .pure true L')] ∧ n = 2) := by
  refine callF_of_body tok Tryd.func70 (by kernel_rfl) rfl rfl rfl ?_; conv => cbv
  refine Br.mk (fun g => ?_) (fun g => ?_)
  case refine_1 =>
    have gf : False := hy g
    cases gf
  conv => cbv
  refine Room.new rfl ?_
  conv => cbv
  refine Room.new ⟨?_, ?_, ?_⟩ ?_
  · show (L.length : Int) = j * 1; omega
  · show (j + 1) * 16 ≤ 140737488355328; omega
  · show j + 1 ≤ 9223372036854775807; omega
  conv => cbv
  refine Upd.mk fun L2 hL2 => ?_
  have hL2 : L2 = L' := hL2.trans hL'.symm
  clear hL'
  subst hL2
  conv => cbv
  refine Sum.mk fun k2 hk2 => ?_
  have hk2 : k2 = j + 1 := hk2
  have hkk : k2 = k := by omega
  conv => cbv
  refine RetF.mk [.sl 1 9 1 (.lit 0) (.sym k)] [(1, .pure true L2)] 2 (Re.at [(2, 1)] []) rfl ⟨rfl, rfl, rfl⟩
theorem reset_lx (j : Int) (L : List PV) : CallF (fun _ => Tryd.prog) 71 [.ptr 0 (.lit 0)] [(0, .bld 51 [.p (.vsl (.sym j) true L)])] 1 (fun r h n' => r = .tup [] ∧ h = [(0, .bld 51 [.p .nils])] ∧ n' = 1) := by
  refine callF_of_body tok Tryd.func71 (by kernel_rfl) rfl rfl rfl ?_; conv => cbv
  refine RetF.mk [] [(0, .bld 51 [.p .nils])] 1 (Re.at [(0, 0)] []) rfl ⟨rfl, rfl, rfl⟩
theorem checkSigns_lx (bl : List UInt8) (z : ByteArray) (hz : z = bytesOfL bl) (hg : Good8 bl) (hlen : bl.length ≤ 2000) : CallF (fun _ => Tryd.prog) 50 [.p (.str fun _ => z)] [] 0 (fun r h n' => r = .p (.int .i64 (.sym 0)) ∧ h = [] ∧ n' = 0) := by
  obtain ⟨N, hN⟩ : ∃ N : Int, N = bl.length := ⟨_, rfl⟩
  have hzs : (z.size : Int) = N := by rw [hz, bol_size, hN]
  have hlow : ∀ c ∈ bl, c.toNat < 128 := fun c hc => by have := hg c hc; omega
  refine callF_of_body tok Tryd.func50 (by kernel_rfl) rfl rfl rfl ?_; conv => cbv
  refine LoopF.mk (fun k s => ∃ pos : Int, s = ⟨.p (.str fun _ => z) :: (undefs 2 ++ .p (.int .i64 (.sym pos)) :: .p (.int .i64 (.sym 0)) :: (undefs 2 ++ .p (.str fun _ => z) :: .ptr 0 (.lit 0) :: undefs 21)), [(0, .iter (fun _ => z) (.sym pos))], 1⟩ ∧ 0 ≤ pos ∧ pos ≤ N ∧ k = (N - pos).toNat) N.toNat _
    (Re.at [(0, 0)] []) ⟨0, rfl, by omega, by omega, by omega⟩ ?_
  rintro k s ⟨pos, rfl, h0, h1, hk⟩
  conv => cbv
  by_cases hend : pos = N
  · refine NextS.over (by show (z.size : Int) ≤ pos; omega) ?_
    conv => cbv
    refine Br.mk (fun g => ?_) (fun g => ?_)
    case refine_1 =>
      have gf : False := by have g : 2000 < pos := g; omega
      cases gf
    conv => cbv
    refine Br.mk (fun g => ?_) (fun g => ?_)
    case refine_1 =>
      have gf : False := by have g : (0 : Int) < 0 := g; omega
      cases gf
    conv => cbv
    refine RetF.mk [.p (.int .i64 (.sym 0))] [] 0 (Re.at [] []) rfl ⟨rfl, rfl, rfl⟩
  · obtain ⟨c, hc⟩ : ∃ c, bl[pos.toNat]? = some c := ⟨_, List.getElem?_eq_getElem (by omega)⟩
    have hd := dec_at bl hlow pos.toNat c hc
    have hcg := hg c (List.mem_of_getElem? hc)
    obtain ⟨k', rfl⟩ : ∃ k', k = k' + 1 := ⟨k - 1, by omega⟩
    refine NextS.more (by show pos < (z.size : Int); omega) ?_
    intro r p' hr hp
    have hr : r = (c.toNat : Int) := by
      have : r = ((Utf8.decode z pos.toNat).1 : Int) := hr
      rw [this, hz, bytesOfL, hd]
    have hp : p' = pos + 1 := by
      have : p' = pos + ((Utf8.decode z pos.toNat).2 : Int) := hp
      rw [this, hz, bytesOfL, hd]; rfl
    conv => cbv
    refine Fit.mk (by show (-9223372036854775808 : Int) ≤ pos + 1; omega) (by show pos + 1 ≤ 9223372036854775807; omega) fun c2 hc2 => ?_
    have hc2 : c2 = pos + 1 := hc2
    have hcp : c2 = p' := by omega
    conv => cbv
    refine Br.mk (fun g => ?_) (fun g => ?_)
    · have g : ¬ r = 10 := g
      conv => cbv
      refine Br.mk (fun g => ?_) (fun g => ?_)
      case refine_1 =>
        have gf : False := by have g : r < 32 := g; omega
        cases gf
      conv => cbv
      refine Br.mk (fun g => ?_) (fun g => ?_)
      case refine_1 =>
        have gf : False := by have g : 126 < r := g; omega
        cases gf
      conv => cbv
      refine Again.mk k' _ (Nat.lt_succ_self _) (Re.at [(0, 0)] []) ⟨p', rfl, by omega, by omega, by omega⟩
    · conv => cbv
      refine Again.mk k' _ (Nat.lt_succ_self _) (Re.at [(0, 0)] []) ⟨p', rfl, by omega, by omega, by omega⟩
end Go.Proofs.YtfjdifeofnpcnaaDoor
/-
  Layer 1: a text is parted.
-/
namespace Go.Proofs.YtfjdifeofnpcnaaDoor

open Go Go.LX
set_option maxRecDepth 100000
set_option linter.unusedVariables false
set_option linter.unusedSimpArgs false

theorem step10 (ls : List (List UInt8)) (cur : List UInt8) : partStep (ls, cur) 10 = (if cur = [] then ls else ls ++ [cur], []) := by rw [partStep, if_pos rfl]
theorem step32 (ls : List (List UInt8)) (cur : List UInt8) : partStep (ls, cur) 32 = (ls, cur) := by rw [partStep, if_neg (by decide), if_pos rfl]
theorem step_else (ls : List (List UInt8)) (cur : List UInt8) (c : UInt8) (h1 : c ≠ 10) (h2 : c ≠ 32) : partStep (ls, cur) c = (ls, cur ++ [c]) := by rw [partStep, if_neg h1, if_neg h2]
set_option maxHeartbeats 4000000 in
theorem parted_lx (bl : List UInt8) (z : ByteArray) (k : Int) (hz : z = bytesOfL bl) (hg : Good8 bl) (hlen : bl.length ≤ 2000) (hk : k = (closed (partsOf bl)).length) : CallF (fun _ => Tryd.prog) 51 [.p (.str fun _ => z)] [] 0
    (fun r h n' => ∃ L' : List PV, r = .sl 0 9 1 (.lit 0) (.sym k) ∧ h = [(0, .pure true L')] ∧ n' = 1 ∧ L' = spv (closed (partsOf bl))) := by
  obtain ⟨N, hN⟩ : ∃ N : Int, N = bl.length := ⟨_, rfl⟩
  have hzs : (z.size : Int) = N := by rw [hz, bol_size, hN]
  have hlow : ∀ c ∈ bl, c.toNat < 128 := fun c hc => by have := hg c hc; omega
  obtain ⟨cl, hcl⟩ : ∃ cl : List UInt8 → Int, ∀ l, cl l = l.length := ⟨_, fun _ => rfl⟩
  obtain ⟨ll, hll⟩ : ∃ ll : List (List UInt8) → Int, ∀ l, ll l = l.length := ⟨_, fun _ => rfl⟩
  have cl0 : cl [] = 0 := by rw [hcl]; rfl
  have ll0 : ll [] = 0 := by rw [hll]; rfl
  have s0 : partsOf (bl.take (0 : Int).toNat) = ([], []) := rfl
  have b0 : bytesPV (bytesOfL []) = [] := rfl
  refine callF_of_body tok Tryd.func51 (by kernel_rfl) rfl rfl rfl ?_; conv => cbv
  refine LoopF.mk (fun kk s => ∃ (pos j q : Int) (M LL : List PV) (ls : List (List UInt8)) (cur : List UInt8), s = ⟨.p (.str fun _ => z) :: (undefs 2 ++ .sl 3 9 1 (.lit 0) (.sym j) :: .ptr 0 (.lit 0) :: (undefs 2 ++ .p (.str fun _ => z) :: .ptr 1 (.lit 0) :: undefs 17)), [(1, .iter (fun _ => z) (.sym pos)), (0, .bld 51 [.sl 2 5 1 (.lit 0) (.sym q)]), (2, .pure true M), (3, .pure true LL)], 4⟩ ∧ partsOf (bl.take pos.toNat) = (ls, cur) ∧ M = bytesPV (bytesOfL cur) ∧ q = cl cur ∧ LL = spv ls ∧ j = ll ls ∧ 0 ≤ pos ∧ pos ≤ N ∧ kk = (N - pos).toNat) N.toNat _
    (Re.at [(0, 0), (1, 1)] [2, 3]) ⟨0, 0, 0, [], [], [], [], rfl, s0, b0.symm, cl0.symm, rfl, ll0.symm, by omega, by omega, by omega⟩ ?_
  clear s0 b0
  rintro kk s ⟨pos, j, q, M, LL, ls, cur, rfl, hst, hM, hq, hLL, hj, h0, h1, hkk⟩
  have hle := parts_le (bl.take pos.toNat)
  rw [hst] at hle
  have htl : (bl.take pos.toNat).length ≤ 2000 := by rw [List.length_take]; omega
  have hls2 : ls.length ≤ 2000 := by dsimp only at hle; omega
  have hcu2 : cur.length ≤ 2000 := by dsimp only at hle; omega
  clear hle htl
  obtain ⟨y, hy⟩ : ∃ y, y = bytesOfL cur := ⟨_, rfl⟩
  have hM2 : M = bytesPV y := by rw [hM, hy]
  have hq2 : q = y.size := by rw [hq, hcl, hy, bol_size]
  have hys : y.size ≤ 2000 := by rw [hy, bol_size]; exact hcu2
  have hjl : (LL.length : Int) = j := by rw [hLL, spv_length, hj, hll]
  have hjb : j ≤ 100000 := by rw [hj, hll]; omega
  conv => cbv
  by_cases hend : pos = N
  · have hfull : bl.take pos.toNat = bl := List.take_of_length_le (by omega)
    rw [hfull] at hst
    refine NextS.over (by show (z.size : Int) ≤ pos; omega) ?_
    conv => cbv
    refine callF_frame (string_lx q M y hM2 hq2) [(0, 0), (1, 2)] rfl (by simp [hmapOk, nget, hget, renB, okB, renV, renVs, rn, okVs, okV]) rfl rfl (fun r h' n' ⟨e1, e2, e3⟩ => ?_)
    subst e1 e2 e3
    conv => cbv
    by_cases hc0 : cur = []
    · have hcl2 : closed (partsOf bl) = ls := by rw [hst, closed, if_pos hc0]
      have hkj : j = k := by rw [hk, hcl2, hj, hll]
      have hy0 : y = ⟨#[]⟩ := by rw [hy]; exact (bol_nil cur).2 hc0
      refine callF_frame (withLine_none j LL y hy0) [(0, 3)] rfl (by simp [hmapOk, nget, hget, renB, okB, renV, renVs, rn, okVs, okV]) rfl rfl (fun r h' n' ⟨e1, e2, e3⟩ => ?_)
      subst e1 e2 e3
      conv => cbv
      refine RetF.mk [.sl 0 9 1 (.lit 0) (.sym k)] [(0, .pure true LL)] 1 (Re.at [(3, 0)] []) rfl ⟨LL, rfl, rfl, rfl, by rw [hLL, hcl2]⟩
    · have hcl2 : closed (partsOf bl) = ls ++ [cur] := by rw [hst, closed, if_neg hc0]
      have hkj : k = j + 1 := by rw [hk, hcl2, hj, hll, List.length_append]; rfl
      have hy0 : ¬ y = ⟨#[]⟩ := by rw [hy]; exact fun h => hc0 ((bol_nil cur).1 h)
      obtain ⟨L9, hL9⟩ : ∃ L9, L9 = LL ++ [.str fun _ => y] := ⟨_, rfl⟩
      have hL9s : L9 = spv (closed (partsOf bl)) := by rw [hL9, hLL, hcl2, hy, spv_app]
      refine callF_frame (withLine_some j k LL L9 y hy0 hjl hjb hkj hL9) [(0, 3)] rfl (by simp [hmapOk, nget, hget, renB, okB, renV, renVs, rn, okVs, okV]) rfl rfl (fun r h' n' ⟨e1, e2, e3⟩ => ?_)
      subst e1 e2 e3
      conv => cbv
      refine RetF.mk [.sl 0 9 1 (.lit 0) (.sym k)] [(0, .pure true L9)] 1 (Re.at [(4, 0)] []) rfl ⟨L9, rfl, rfl, rfl, hL9s⟩
  · obtain ⟨c, hc⟩ : ∃ c, bl[pos.toNat]? = some c := ⟨_, List.getElem?_eq_getElem (by omega)⟩
    have hd := dec_at bl hlow pos.toNat c hc
    have hcg := hg c (List.mem_of_getElem? hc)
    obtain ⟨k', rfl⟩ : ∃ k', kk = k' + 1 := ⟨kk - 1, by omega⟩
    refine NextS.more (by show pos < (z.size : Int); omega) ?_
    intro r p' hr hp
    have hr : r = (c.toNat : Int) := by
      have : r = ((Utf8.decode z pos.toNat).1 : Int) := hr
      rw [this, hz, bytesOfL, hd]
    have hp : p' = pos + 1 := by
      have : p' = pos + ((Utf8.decode z pos.toNat).2 : Int) := hp
      rw [this, hz, bytesOfL, hd]; rfl
    have hnext : partsOf (bl.take p'.toNat) = partStep (ls, cur) c := by
      rw [show p'.toNat = pos.toNat + 1 by omega, List.take_add_one, hc, ← hst]
      exact parts_snoc _ _
    conv => cbv
    refine Br.mk (fun g => ?_) (fun g => ?_)
    · have g : r = 10 := g
      have hc10 : c = 10 := UInt8.toNat_inj.1 (by show c.toNat = 10; omega)
      rw [hc10, step10] at hnext
      conv => cbv
      refine callF_frame (string_lx q M y hM2 hq2) [(0, 0), (1, 2)] rfl (by simp [hmapOk, nget, hget, renB, okB, renV, renVs, rn, okVs, okV]) rfl rfl (fun r h' n' ⟨e1, e2, e3⟩ => ?_)
      subst e1 e2 e3
      conv => cbv
      by_cases hc0 : cur = []
      · have hy0 : y = ⟨#[]⟩ := by rw [hy]; exact (bol_nil cur).2 hc0
        rw [if_pos hc0] at hnext
        refine callF_frame (withLine_none j LL y hy0) [(0, 3)] rfl (by simp [hmapOk, nget, hget, renB, okB, renV, renVs, rn, okVs, okV]) rfl rfl (fun r h' n' ⟨e1, e2, e3⟩ => ?_)
        subst e1 e2 e3
        conv => cbv
        refine callF_frame (reset_lx q M) [(0, 0)] rfl (by simp [hmapOk, nget, hget, renB, okB, renV, renVs, rn, okVs, okV]) rfl rfl (fun r h' n' ⟨e1, e2, e3⟩ => ?_)
        subst e1 e2 e3
        conv => cbv
        refine Again.mk k' _ (Nat.lt_succ_self _) (Re.at [(0, 0), (1, 1), (3, 3)] [2]) ⟨p', j, 0, [], LL, ls, [], rfl, hnext, rfl, cl0.symm, hLL, hj, by omega, by omega, by omega⟩
      · have hy0 : ¬ y = ⟨#[]⟩ := by rw [hy]; exact fun h => hc0 ((bol_nil cur).1 h)
        rw [if_neg hc0] at hnext
        obtain ⟨L9, hL9⟩ : ∃ L9, L9 = LL ++ [.str fun _ => y] := ⟨_, rfl⟩
        have hL9s : L9 = spv (ls ++ [cur]) := by rw [hL9, hLL, hy, spv_app]
        obtain ⟨j9, hj9⟩ : ∃ j9, j9 = j + 1 := ⟨_, rfl⟩
        have hj9l : j9 = ll (ls ++ [cur]) := by rw [hj9, hj, hll, hll, List.length_append]; rfl
        refine callF_frame (withLine_some j j9 LL L9 y hy0 hjl hjb hj9 hL9) [(0, 3)] rfl (by simp [hmapOk, nget, hget, renB, okB, renV, renVs, rn, okVs, okV]) rfl rfl (fun r h' n' ⟨e1, e2, e3⟩ => ?_)
        subst e1 e2 e3
        conv => cbv
        refine callF_frame (reset_lx q M) [(0, 0)] rfl (by simp [hmapOk, nget, hget, renB, okB, renV, renVs, rn, okVs, okV]) rfl rfl (fun r h' n' ⟨e1, e2, e3⟩ => ?_)
        subst e1 e2 e3
        conv => cbv
        refine Again.mk k' _ (Nat.lt_succ_self _) (Re.at [(0, 0), (1, 1), (4, 3)] [2]) ⟨p', j9, 0, [], L9, ls ++ [cur], [], rfl, hnext, rfl, cl0.symm, hL9s, hj9l, by omega, by omega, by omega⟩
    · have g : ¬ r = 10 := g
      conv => cbv
      refine Br.mk (fun g2 => ?_) (fun g2 => ?_)
      · have g2 : r = 32 := g2
        have hc32 : c = 32 := UInt8.toNat_inj.1 (by show c.toNat = 32; omega)
        rw [hc32, step32] at hnext
        conv => cbv
        refine Again.mk k' _ (Nat.lt_succ_self _) (Re.at [(0, 0), (1, 1), (2, 2), (3, 3)] []) ⟨p', j, q, M, LL, ls, cur, rfl, hnext, hM, hq, hLL, hj, by omega, by omega, by omega⟩
      · have g2 : ¬ r = 32 := g2
        rw [step_else ls cur c (by rintro rfl; exact g (by rw [hr]; rfl)) (by rintro rfl; exact g2 (by rw [hr]; rfl))] at hnext
        conv => cbv
        refine callF_frame (writeRune_lx q r M y hM2 hq2 (by omega) (by omega) (by omega)) [(0, 0), (1, 2)] rfl (by simp [hmapOk, nget, hget, renB, okB, renV, renVs, rn, okVs, okV]) rfl rfl (fun r h' n' ⟨m2, k2, L2, e1, e2, e3, hL2, hk2⟩ => ?_)
        subst e1 e2 e3
        conv => cbv
        have hch : r.toNat.toUInt8 = c := by rw [hr, Int.toNat_natCast]; exact UInt8.ofNat_toNat
        have hyc : y ++ ⟨#[c]⟩ = bytesOfL (cur ++ [c]) := by rw [hy, bol_app]
        rw [hch, hyc] at hL2 hk2
        have hk3 : k2 = cl (cur ++ [c]) := by rw [hk2, bol_size, hcl]
        refine Again.mk k' _ (Nat.lt_succ_self _) (Re.at [(0, 0), (1, 1), (4, 2), (3, 3)] []) ⟨p', j, k2, L2, LL, ls, cur ++ [c], rfl, hnext, hL2, hk3, hLL, hj, by omega, by omega, by omega⟩
end Go.Proofs.YtfjdifeofnpcnaaDoor
/-
  Layer 1: lines of a good text; awake; TextJoins.
-/
namespace Go.Proofs.YtfjdifeofnpcnaaDoor

open Go Go.LX
set_option maxRecDepth 100000
set_option linter.unusedVariables false
set_option linter.unusedSimpArgs false

set_option maxHeartbeats 4000000 in
theorem lines_lx (bl : List UInt8) (z : ByteArray) (ls : List (List UInt8)) (k : Int) (hz : z = bytesOfL bl) (hg : Good8 bl) (hlen : bl.length ≤ 2000) (hls : ls = closed (partsOf bl)) (hk : k = ls.length) (h60 : ls.length ≤ 60) (h0 : ls ≠ []) : CallF (fun _ => Tryd.prog) 31 [.p (.str fun _ => z)] [] 0
    (fun r h n' => ∃ L' : List PV, r = .tup [.sl 0 9 1 (.lit 0) (.sym k), .p (.int .i64 (.sym 0))] ∧ h = [(0, .pure true L')] ∧ n' = 1 ∧ L' = spv ls) := by
  have hk1 : 0 < k := by rw [hk]; have := List.length_pos_iff.2 h0; omega
  refine callF_of_body tok Tryd.func31 (by kernel_rfl) rfl rfl rfl ?_; conv => cbv
  refine callF_frame (checkSigns_lx bl z hz hg hlen) [] rfl trivial rfl rfl (fun r h' n' ⟨e1, e2, e3⟩ => ?_)
  subst e1 e2 e3
  conv => cbv
  refine Br.mk (fun g => ?_) (fun g => ?_)
  case refine_1 =>
    have gf : False := g rfl
    cases gf
  conv => cbv
  refine callF_frame (parted_lx bl z k hz hg hlen (by rw [hk, hls])) [] rfl trivial rfl rfl (fun r h' n' hrr => ?_)
  obtain ⟨L', e1, e2, e3, hL'⟩ := hrr
  subst e1 e2 e3
  conv => cbv
  refine Br.mk (fun g => ?_) (fun g => ?_)
  case refine_1 =>
    have gf : False := by have g : k = 0 := g; omega
    cases gf
  conv => cbv
  refine Br.mk (fun g => ?_) (fun g => ?_)
  case refine_1 =>
    have gf : False := by have g : 60 < k := g; omega
    cases gf
  conv => cbv
  refine RetF.mk [.sl 0 9 1 (.lit 0) (.sym k), .p (.int .i64 (.sym 0))] [(0, .pure true L')] 1 (Re.at [(0, 0)] []) rfl ⟨L', rfl, rfl, rfl, by rw [hL', hls]⟩
theorem lines_none (bl : List UInt8) (z : ByteArray) (hz : z = bytesOfL bl) (hg : Good8 bl) (hlen : bl.length ≤ 2000) (hls : closed (partsOf bl) = []) : CallF (fun _ => Tryd.prog) 31 [.p (.str fun _ => z)] [] 0
    (fun r h n' => r = .tup [.p .nils, .p (.int .i64 (.sym 7))] ∧ h = [] ∧ n' = 0) := by
  refine callF_of_body tok Tryd.func31 (by kernel_rfl) rfl rfl rfl ?_; conv => cbv
  refine callF_frame (checkSigns_lx bl z hz hg hlen) [] rfl trivial rfl rfl (fun r h' n' ⟨e1, e2, e3⟩ => ?_)
  subst e1 e2 e3
  conv => cbv
  refine Br.mk (fun g => ?_) (fun g => ?_)
  case refine_1 =>
    have gf : False := g rfl
    cases gf
  conv => cbv
  refine callF_frame (parted_lx bl z 0 hz hg hlen (by rw [hls]; rfl)) [] rfl trivial rfl rfl (fun r h' n' hrr => ?_)
  obtain ⟨L', e1, e2, e3, hL'⟩ := hrr
  subst e1 e2 e3
  conv => cbv
  refine Br.mk (fun g => ?_) (fun g => ?_)
  case refine_2 =>
    have gf : False := g rfl
    cases gf
  conv => cbv
  refine RetF.mk [.p .nils, .p (.int .i64 (.sym 7))] [] 0 (Re.at [] []) rfl ⟨rfl, rfl, rfl⟩
def PreS (l : List PV) (A : List ByteArray) : Prop := ∀ (i : Nat) (x : ByteArray), A[i]? = some x → l[i]? = some (.str fun _ => x)
theorem preS_spv (ls : List (List UInt8)) : PreS (spv ls) (ls.map bytesOfL) := by
  intro i x h
  rw [List.getElem?_map] at h
  cases e : ls[i]? with
  | none => rw [e] at h; cases h
  | some y => rw [e] at h; cases h; exact spv_get e
theorem number12_lx (z : ByteArray) (hz : z = ⟨#[49, 50]⟩) : CallF (fun _ => Tryd.prog) 74 [.p (.str fun _ => z)] [] 0 (fun r h n => r = .tup [.p (.int .i64 (.sym 12)), .p (.bool true)] ∧ h = [] ∧ n = 0) := by
  have hzs : (z.size : Int) = 2 := by rw [hz]; rfl
  have hzn : ¬ z = ⟨#[]⟩ := by intro h; rw [h] at hzs; exact absurd hzs (by decide)
  refine callF_of_body tok Tryd.func74 (by kernel_rfl) rfl rfl rfl ?_; conv => cbv
  refine Br.mk (fun g => ?_) (fun g => ?_)
  case refine_1 =>
    have gf : False := hzn g
    cases gf
  conv => cbv
  refine Sum.mk fun zs hzs2 => ?_
  have hzs2 : zs = 2 := (show zs = (z.size : Int) from hzs2).trans hzs
  conv => cbv
  refine Br.mk (fun g => ?_) (fun g => ?_)
  case refine_1 =>
    have gf : False := by have g : 4 < zs := g; omega
    cases gf
  conv => cbv
  refine LoopF.mk (fun k s => ∃ pos n : Int, s = ⟨undefs 4 ++ .p (.int .i64 (.sym n)) :: (undefs 10 ++ .ptr 0 (.lit 0) :: undefs 16), [(0, .iter (fun _ => z) (.sym pos))], 1⟩ ∧ (pos = 0 ∧ n = 0 ∨ pos = 1 ∧ n = 1 ∨ pos = 2 ∧ n = 12) ∧ k = (2 - pos).toNat) 2 _
    (Re.at [(0, 0)] []) ⟨0, 0, rfl, by omega, by omega⟩ ?_
  rintro k s ⟨pos, n, rfl, hpn, hk⟩
  conv => cbv
  by_cases hend : pos = 2
  · have hn12 : n = 12 := by omega
    refine NextS.over (by show (z.size : Int) ≤ pos; omega) ?_
    conv => cbv
    refine RetF.mk [.p (.int .i64 (.sym 12)), .p (.bool true)] [] 0 (Re.at [] []) rfl ⟨rfl, rfl, rfl⟩
  · obtain ⟨c, hc⟩ : ∃ c, ([49, 50] : List UInt8)[pos.toNat]? = some c := ⟨_, List.getElem?_eq_getElem (by simp; omega)⟩
    have hd := dec_at [49, 50] (by decide) pos.toNat c hc
    have hcv : (c.toNat : Int) = 49 + pos := by
      have : pos = 0 ∨ pos = 1 := by omega
      rcases this with e | e <;> (rw [e] at hc; have hc := Option.some.inj hc; rw [← hc, e]; decide)
    obtain ⟨k', rfl⟩ : ∃ k', k = k' + 1 := ⟨k - 1, by omega⟩
    refine NextS.more (by show pos < (z.size : Int); omega) ?_
    intro r p' hr hp
    have hr : r = 49 + pos := by
      have : r = ((Utf8.decode z pos.toNat).1 : Int) := hr
      rw [this, hz, hd, ← hcv]
    have hp : p' = pos + 1 := by
      have : p' = pos + ((Utf8.decode z pos.toNat).2 : Int) := hp
      rw [this, hz, hd]; rfl
    conv => cbv
    refine Br.mk (fun g => ?_) (fun g => ?_)
    case refine_1 =>
      have gf : False := by have g : r < 48 := g; omega
      cases gf
    conv => cbv
    refine Br.mk (fun g => ?_) (fun g => ?_)
    case refine_1 =>
      have gf : False := by have g : 57 < r := g; omega
      cases gf
    conv => cbv
    refine Fit.mk (by show (-9223372036854775808 : Int) ≤ 10 * n; omega) (by show 10 * n ≤ 9223372036854775807; omega) fun t1 ht1 => ?_
    have ht1 : t1 = 10 * n := ht1
    conv => cbv
    refine Fit.mk (by show (-2147483648 : Int) ≤ r - 48; omega) (by show r - 48 ≤ 2147483647; omega) fun t2 ht2 => ?_
    have ht2 : t2 = r - 48 := ht2
    conv => cbv
    refine Fit.mk (by show (-9223372036854775808 : Int) ≤ t2; omega) (by show t2 ≤ 9223372036854775807; omega) fun t3 ht3 => ?_
    have ht3 : t3 = t2 := ht3
    conv => cbv
    refine Fit.mk (by show (-9223372036854775808 : Int) ≤ t1 + t3; omega) (by show t1 + t3 ≤ 9223372036854775807; omega) fun t4 ht4 => ?_
    have ht4 : t4 = t1 + t3 := ht4
    conv => cbv
    refine Again.mk k' _ (Nat.lt_succ_self _) (Re.at [(0, 0)] []) ⟨p', t4, rfl, by omega, by omega⟩
end Go.Proofs.YtfjdifeofnpcnaaDoor
/-
  Layer 1: any text's lines.
-/
namespace Go.Proofs.YtfjdifeofnpcnaaDoor

open Go Go.LX
set_option maxRecDepth 100000
set_option linter.unusedVariables false
set_option linter.unusedSimpArgs false

theorem runes_fuel (z : ByteArray) : ∀ (f k pos : Nat), z.size ≤ pos + f → runesFrom z (f + k) pos = runesFrom z f pos
  | 0, k, pos, h => by rw [runesFrom_end z _ pos (by omega), runesFrom_end z _ pos (by omega)]
  | f + 1, k, pos, h => by
    by_cases hp : pos < z.size
    · rw [show f + 1 + k = (f + k) + 1 by omega, runesFrom_next z _ pos hp, runesFrom_next z _ pos hp, runes_fuel z f k _ (by have := width_pos z pos hp; omega)]
    · rw [runesFrom_end z _ pos hp, runesFrom_end z _ pos hp]
/-- The runes from a place on. -/
def restR (z : ByteArray) (pos : Nat) : List Nat := runesFrom z z.size pos
theorem restR_end (z : ByteArray) (pos : Nat) (h : z.size ≤ pos) : restR z pos = [] := runesFrom_end z _ pos (by omega)
theorem restR_next (z : ByteArray) (pos : Nat) (h : pos < z.size) : restR z pos = (Utf8.decode z pos).1 :: restR z (pos + (Utf8.decode z pos).2) := by
  unfold restR
  obtain ⟨f, hf⟩ : ∃ f, z.size = f + 1 := ⟨z.size - 1, by omega⟩
  have hw := width_pos z pos h
  rw [hf, runesFrom_next z f pos h, runes_fuel z f 1 _ (by omega)]
def signV (z : ByteArray) : Int := if 2000 < (runesOf z).length then 3 else if 0 < wrongs (runesOf z) then 4 else 0
set_option maxHeartbeats 2000000 in
theorem checkAny_lx (z : ByteArray) (hzz : z.size ≤ 3000000) : CallF (fun _ => Tryd.prog) 50 [.p (.str fun _ => z)] [] 0 (fun r h n' => (∃ v : Int, r = .p (.int .i64 (.sym v)) ∧ v = signV z) ∧ h = [] ∧ n' = 0) := by
  obtain ⟨N, hN⟩ : ∃ N : Int, N = z.size := ⟨_, rfl⟩
  obtain ⟨R, hR⟩ : ∃ R : Int, R = (runesOf z).length := ⟨_, rfl⟩
  obtain ⟨W, hW⟩ : ∃ W : Int, W = wrongs (runesOf z) := ⟨_, rfl⟩
  obtain ⟨V, hV⟩ : ∃ V : Int, V = signV z := ⟨_, rfl⟩
  have hRN : R ≤ N := by have := runesFrom_length z z.size 0; rw [hR, hN]; unfold runesOf; omega
  have hWR : W ≤ R := by rw [hW, hR]; have := wrongs_le (runesOf z); omega
  obtain ⟨rl, hrl⟩ : ∃ rl : Int → Int, ∀ p, rl p = (restR z p.toNat).length := ⟨_, fun _ => rfl⟩
  obtain ⟨wl, hwl⟩ : ∃ wl : Int → Int, ∀ p, wl p = wrongs (restR z p.toNat) := ⟨_, fun _ => rfl⟩
  have rl0 : rl 0 = R := by rw [hrl, hR]; rfl
  have wl0 : wl 0 = W := by rw [hwl, hW]; rfl
  have hnn : ∀ p, 0 ≤ rl p ∧ 0 ≤ wl p := fun p => by rw [hrl, hwl]; omega
  refine callF_of_body tok Tryd.func50 (by kernel_rfl) rfl rfl rfl ?_; conv => cbv
  refine LoopF.mk (fun k s => ∃ pos ct wr : Int, s = ⟨.p (.str fun _ => z) :: (undefs 2 ++ .p (.int .i64 (.sym ct)) :: .p (.int .i64 (.sym wr)) :: (undefs 2 ++ .p (.str fun _ => z) :: .ptr 0 (.lit 0) :: undefs 21)), [(0, .iter (fun _ => z) (.sym pos))], 1⟩ ∧ 0 ≤ pos ∧ ct + rl pos = R ∧ wr + wl pos = W ∧ 0 ≤ ct ∧ 0 ≤ wr ∧ (N - pos).toNat ≤ k) N.toNat _
    (Re.at [(0, 0)] []) ⟨0, 0, 0, rfl, by omega, by omega, by omega, by omega, by omega, by omega⟩ ?_
  rintro k s ⟨pos, ct, wr, rfl, h0, h1, h2, h3, h4, hk⟩
  have hnp := hnn pos
  conv => cbv
  by_cases hend : N ≤ pos
  · have e1 : rl pos = 0 := by rw [hrl, restR_end z _ (by omega)]; rfl
    have e2 : wl pos = 0 := by rw [hwl, restR_end z _ (by omega)]; rfl
    refine NextS.over (by show (z.size : Int) ≤ pos; omega) ?_
    conv => cbv
    refine Br.mk (fun g => ?_) (fun g => ?_)
    · have g : 2000 < ct := g
      have hv3 : V = 3 := by rw [hV, signV, if_pos (by omega)]
      conv => cbv
      refine RetF.mk [.p (.int .i64 (.sym V))] [] 0 (Re.at [] []) rfl ⟨⟨V, rfl, hV⟩, rfl, rfl⟩
    · have g : ¬ 2000 < ct := g
      conv => cbv
      refine Br.mk (fun g2 => ?_) (fun g2 => ?_)
      · have g2 : 0 < wr := g2
        have hv3 : V = 4 := by rw [hV, signV, if_neg (by omega), if_pos (by omega)]
        conv => cbv
        refine RetF.mk [.p (.int .i64 (.sym V))] [] 0 (Re.at [] []) rfl ⟨⟨V, rfl, hV⟩, rfl, rfl⟩
      · have g2 : ¬ 0 < wr := g2
        have hv3 : V = 0 := by rw [hV, signV, if_neg (by omega), if_neg (by omega)]
        conv => cbv
        refine RetF.mk [.p (.int .i64 (.sym V))] [] 0 (Re.at [] []) rfl ⟨⟨V, rfl, hV⟩, rfl, rfl⟩
  · have hnx := restR_next z pos.toNat (by omega)
    have hwp := width_pos z pos.toNat (by omega)
    obtain ⟨k', rfl⟩ : ∃ k', k = k' + 1 := ⟨k - 1, by omega⟩
    refine NextS.more (by show pos < (z.size : Int); omega) ?_
    intro r p' hr hp
    have hr : r = ((Utf8.decode z pos.toNat).1 : Int) := hr
    have hp : p' = pos + ((Utf8.decode z pos.toNat).2 : Int) := hp
    have hpn : p'.toNat = pos.toNat + (Utf8.decode z pos.toNat).2 := by omega
    have erl : rl pos = 1 + rl p' := by rw [hrl, hrl, hnx, hpn, List.length_cons]; omega
    have ewl : wl pos = (if badR (Utf8.decode z pos.toNat).1 = true then 1 else 0) + wl p' := by
      rw [hwl, hwl, hnx, hpn, wrongs, List.countP_cons]
      show ((wrongs _ + _ : Nat) : Int) = _
      split <;> omega
    have hn2 := hnn p'
    conv => cbv
    refine Fit.mk (by show (-9223372036854775808 : Int) ≤ ct + 1; omega) (by show ct + 1 ≤ 9223372036854775807; omega) fun c2 hc2 => ?_
    have hc2 : c2 = ct + 1 := hc2
    conv => cbv
    refine Br.mk (fun g => ?_) (fun g => ?_)
    · have g : ¬ r = 10 := g
      conv => cbv
      refine Br.mk (fun g2 => ?_) (fun g2 => ?_)
      · have g2 : r < 32 := g2
        have hb : badR (Utf8.decode z pos.toNat).1 = true := by simp only [badR, decide_eq_true_eq]; omega
        rw [if_pos hb] at ewl
        conv => cbv
        refine Fit.mk (by show (-9223372036854775808 : Int) ≤ wr + 1; omega) (by show wr + 1 ≤ 9223372036854775807; omega) fun w2 hw2 => ?_
        have hw2 : w2 = wr + 1 := hw2
        conv => cbv
        refine Again.mk k' _ (Nat.lt_succ_self _) (Re.at [(0, 0)] []) ⟨p', c2, w2, rfl, by omega, by omega, by omega, by omega, by omega, by omega⟩
      · have g2 : ¬ r < 32 := g2
        conv => cbv
        refine Br.mk (fun g3 => ?_) (fun g3 => ?_)
        · have g3 : 126 < r := g3
          have hb : badR (Utf8.decode z pos.toNat).1 = true := by simp only [badR, decide_eq_true_eq]; omega
          rw [if_pos hb] at ewl
          conv => cbv
          refine Fit.mk (by show (-9223372036854775808 : Int) ≤ wr + 1; omega) (by show wr + 1 ≤ 9223372036854775807; omega) fun w2 hw2 => ?_
          have hw2 : w2 = wr + 1 := hw2
          conv => cbv
          refine Again.mk k' _ (Nat.lt_succ_self _) (Re.at [(0, 0)] []) ⟨p', c2, w2, rfl, by omega, by omega, by omega, by omega, by omega, by omega⟩
        · have g3 : ¬ 126 < r := g3
          have hb : ¬ badR (Utf8.decode z pos.toNat).1 = true := by simp only [badR, decide_eq_true_eq]; omega
          rw [if_neg hb] at ewl
          conv => cbv
          refine Again.mk k' _ (Nat.lt_succ_self _) (Re.at [(0, 0)] []) ⟨p', c2, wr, rfl, by omega, by omega, by omega, by omega, by omega, by omega⟩
    · have g : r = 10 := Classical.byContradiction g
      have hb : ¬ badR (Utf8.decode z pos.toNat).1 = true := by simp only [badR, decide_eq_true_eq]; omega
      rw [if_neg hb] at ewl
      conv => cbv
      refine Again.mk k' _ (Nat.lt_succ_self _) (Re.at [(0, 0)] []) ⟨p', c2, wr, rfl, by omega, by omega, by omega, by omega, by omega, by omega⟩
/-- A text whose signs may all stand: its bytes. -/
theorem good_of (z : ByteArray) (h : signV z = 0) : z = bytesOfL z.data.toList ∧ Good8 z.data.toList ∧ z.data.toList.length ≤ 2000 := by
  have h1 : ¬ 2000 < (runesOf z).length := by intro g; rw [signV, if_pos g] at h; cases h
  have h2 : ¬ 0 < wrongs (runesOf z) := by intro g; rw [signV, if_neg h1, if_pos g] at h; cases h
  have e : runesOf z = z.data.toList.map UInt8.toNat := by
    have := runes_bytes z z.size 0 (by omega) (by unfold runesOf at h2; omega)
    rw [List.drop_zero] at this
    exact this
  refine ⟨(ByteArray.ext (by simp [bytesOfL])), ?_, by rw [e, List.length_map] at h1; omega⟩
  intro c hc
  have hw : wrongs (runesOf z) = 0 := by omega
  rw [e, wrongs, List.countP_eq_zero] at hw
  have := hw c.toNat (List.mem_map.2 ⟨c, hc, rfl⟩)
  simp only [badR, decide_eq_true_eq] at this
  omega
theorem linesV_sign (z : ByteArray) : linesV z = if signV z ≠ 0 then ([], signV z) else if (closed (partsOf z.data.toList)).length = 0 then ([], 7) else if 60 < (closed (partsOf z.data.toList)).length then ([], 3) else (closed (partsOf z.data.toList), 0) := by
  unfold linesV signV
  by_cases h1 : 2000 < (runesOf z).length
  · rw [if_pos h1, if_pos h1, if_pos (by simp)]
  rw [if_neg h1, if_neg h1]
  by_cases h2 : 0 < wrongs (runesOf z)
  · rw [if_pos h2, if_pos h2, if_pos (by simp)]
  rw [if_neg h2, if_neg h2, if_neg (fun x : (0 : Int) ≠ 0 => x rfl)]
set_option maxHeartbeats 2000000 in
theorem lines_bad (z : ByteArray) (v : Int) (hzz : z.size ≤ 3000000) (hv : v = (linesV z).2) (h0 : v ≠ 0) : CallF (fun _ => Tryd.prog) 31 [.p (.str fun _ => z)] [] 0
    (fun r h n' => r = .tup [.p .nils, .p (.int .i64 (.sym v))] ∧ h = [] ∧ n' = 0) := by
  have hl := linesV_sign z
  refine callF_of_body tok Tryd.func31 (by kernel_rfl) rfl rfl rfl ?_; conv => cbv
  refine callF_frame (checkAny_lx z hzz) [] rfl trivial rfl rfl (fun r h' n' hrr => ?_)
  obtain ⟨⟨sv, e1, hsv⟩, e2, e3⟩ := hrr
  subst e1 e2 e3
  conv => cbv
  refine Br.mk (fun g => ?_) (fun g => ?_)
  · have g : ¬ sv = 0 := g
    have e : sv = v := by rw [if_pos (by rw [← hsv]; exact g)] at hl; rw [hv, hl, hsv]
    conv => cbv
    refine RetF.mk [.p .nils, .p (.int .i64 (.sym v))] [] 0 (Re.at [] []) rfl ⟨rfl, rfl, rfl⟩
  · have g : sv = 0 := Classical.byContradiction g
    have hg := good_of z (by rw [← hsv]; exact g)
    rw [if_neg (by rw [← hsv]; exact fun x => x g)] at hl
    obtain ⟨k, hk⟩ : ∃ k : Int, k = (closed (partsOf z.data.toList)).length := ⟨_, rfl⟩
    conv => cbv
    refine callF_frame (parted_lx z.data.toList z k hg.1 hg.2.1 hg.2.2 hk) [] rfl trivial rfl rfl (fun r h' n' hrr => ?_)
    obtain ⟨L', e1, e2, e3, hL'⟩ := hrr
    subst e1 e2 e3
    conv => cbv
    refine Br.mk (fun g2 => ?_) (fun g2 => ?_)
    · have g2 : k = 0 := g2
      have e : v = 7 := by rw [if_pos (by omega)] at hl; rw [hv, hl]
      conv => cbv
      refine RetF.mk [.p .nils, .p (.int .i64 (.sym v))] [] 0 (Re.at [] []) rfl ⟨rfl, rfl, rfl⟩
    · have g2 : ¬ k = 0 := g2
      rw [if_neg (by omega)] at hl
      conv => cbv
      refine Br.mk (fun g3 => ?_) (fun g3 => ?_)
      · have g3 : 60 < k := g3
        have e : v = 3 := by rw [if_pos (by omega)] at hl; rw [hv, hl]
        conv => cbv
        refine RetF.mk [.p .nils, .p (.int .i64 (.sym v))] [] 0 (Re.at [] []) rfl ⟨rfl, rfl, rfl⟩
      · have g3 : ¬ 60 < k := g3
        have gf : False := by rw [if_neg (by omega)] at hl; rw [hv, hl] at h0; exact h0 rfl
        cases gf
theorem lines_good (z : ByteArray) (ls : List (List UInt8)) (k : Int) (hzz : z.size ≤ 3000000) (h : linesV z = (ls, 0)) (hk : k = ls.length) : CallF (fun _ => Tryd.prog) 31 [.p (.str fun _ => z)] [] 0
    (fun r h n' => ∃ L' : List PV, r = .tup [.sl 0 9 1 (.lit 0) (.sym k), .p (.int .i64 (.sym 0))] ∧ h = [(0, .pure true L')] ∧ n' = 1 ∧ L' = spv ls) := by
  have hl := linesV_sign z
  have h1 : signV z = 0 := by
    refine Classical.byContradiction fun g => ?_
    rw [if_pos g, h] at hl; injection hl with _ hl; exact g hl.symm
  have hg := good_of z h1
  rw [if_neg (by rw [h1]; simp)] at hl
  have h2 : ¬ (closed (partsOf z.data.toList)).length = 0 := by intro g; rw [if_pos g, h] at hl; cases hl
  have h3 : ¬ 60 < (closed (partsOf z.data.toList)).length := by intro g; rw [if_neg h2, if_pos g, h] at hl; cases hl
  rw [if_neg h2, if_neg h3, h] at hl
  injection hl with hl _
  exact lines_lx z.data.toList z ls k hg.1 hg.2.1 hg.2.2 hl hk (by rw [hl]; omega) (by rw [hl]; intro g; rw [g] at h2; exact h2 rfl)
end Go.Proofs.YtfjdifeofnpcnaaDoor
/-
  Layers 1 and 2: registers, numbers, signs, shapes.
-/
namespace Go.Proofs.YtfjdifeofnpcnaaDoor

open Go Go.LX
set_option maxRecDepth 100000
set_option linter.unusedVariables false
set_option linter.unusedSimpArgs false

/-- A number, and whether there is one. -/
inductive OptI (o : Option Int) : LV → Prop
  | yes (v : Int) (h : o = some v) : OptI o (.tup [.p (.int .i64 (.sym v)), .p (.bool true)])
  | no (v : Int) (h : o = none) : OptI o (.tup [.p (.int .i64 (.sym v)), .p (.bool false)])
def Low (l : List UInt8) : Prop := ∀ c ∈ l, c.toNat < 128
def regI (c : Int) : Option Int := if 97 ≤ c ∧ c ≤ 102 then some (c - 97) else none
theorem regI_nat (c : UInt8) : regI (c.toNat : Int) = regO c := by
  unfold regI regO
  by_cases h : 97 ≤ c.toNat ∧ c.toNat ≤ 102
  · rw [if_pos (by omega), if_pos h]
  · rw [if_neg (by omega), if_neg h]
theorem reg_lx (c : Int) (h0 : 0 ≤ c) (h1 : c ≤ 2000000) : CallF (fun _ => Tryd.prog) 83 [.p (.int .i32 (.sym c))] [] 0 (fun r h n => OptI (regI c) r ∧ h = [] ∧ n = 0) := by
  refine callF_of_body tok Tryd.func83 (by kernel_rfl) rfl rfl rfl ?_; conv => cbv
  refine Br.mk (fun g => ?_) (fun g => ?_)
  · have g : c < 97 := g
    conv => cbv
    refine RetF.mk [.p (.int .i64 (.sym 0)), .p (.bool false)] [] 0 (Re.at [] []) rfl ⟨.no 0 (by unfold regI; rw [if_neg (by omega)]), rfl, rfl⟩
  · have g : ¬ c < 97 := g
    conv => cbv
    refine Br.mk (fun g2 => ?_) (fun g2 => ?_)
    · have g2 : 103 ≤ c := g2
      conv => cbv
      refine RetF.mk [.p (.int .i64 (.sym 0)), .p (.bool false)] [] 0 (Re.at [] []) rfl ⟨.no 0 (by unfold regI; rw [if_neg (by omega)]), rfl, rfl⟩
    · have g2 : ¬ 103 ≤ c := g2
      conv => cbv
      refine Fit.mk (by show (-2147483648 : Int) ≤ c - 97; omega) (by show c - 97 ≤ 2147483647; omega) fun t2 ht2 => ?_
      have ht2 : t2 = c - 97 := ht2
      conv => cbv
      refine Fit.mk (by show (-9223372036854775808 : Int) ≤ t2; omega) (by show t2 ≤ 9223372036854775807; omega) fun t3 ht3 => ?_
      have ht3 : t3 = t2 := ht3
      conv => cbv
      refine RetF.mk [.p (.int .i64 (.sym t3)), .p (.bool true)] [] 0 (Re.at [] []) rfl ⟨.yes t3 (by unfold regI; rw [if_pos (by omega), ht3, ht2]), rfl, rfl⟩
theorem register_lx (t : List UInt8) (z : ByteArray) (hz : z = bytesOfL t) (hl : Low t) : CallF (fun _ => Tryd.prog) 73 [.p (.str fun _ => z)] [] 0 (fun r h n => OptI (regT t) r ∧ h = [] ∧ n = 0) := by
  obtain ⟨N, hN⟩ : ∃ N : Int, N = t.length := ⟨_, rfl⟩
  have hzs : (z.size : Int) = N := by rw [hz, bol_size, hN]
  refine callF_of_body tok Tryd.func73 (by kernel_rfl) rfl rfl rfl ?_; conv => cbv
  refine LoopF.mk (fun k s => s = ⟨.p (.str fun _ => z) :: .undef :: .p (.int .i64 (.lit 0)) :: .p (.bool false) :: (undefs 2 ++ .p (.str fun _ => z) :: .ptr 0 (.lit 0) :: undefs 7), [(0, .iter (fun _ => z) (.lit 0))], 1⟩) 0 _
    (Re.at [(0, 0)] []) rfl ?_
  rintro k s rfl
  conv => cbv
  cases t with
  | nil =>
    refine NextS.over (by show (z.size : Int) ≤ 0; rw [hzs, hN]; decide) ?_
    conv => cbv
    refine RetF.mk [.p (.int .i64 (.sym 0)), .p (.bool false)] [] 0 (Re.at [] []) rfl ⟨.no 0 rfl, rfl, rfl⟩
  | cons c t =>
    have hd := dec_at (c :: t) hl 0 c rfl
    have hcl := hl c (by simp)
    refine NextS.more (by show (0 : Int) < (z.size : Int); rw [hzs, hN, List.length_cons]; omega) ?_
    intro r p' hr hp
    have hr : r = (c.toNat : Int) := by
      have : r = ((Utf8.decode z 0).1 : Int) := hr
      rw [this, hz, bytesOfL, hd]
    conv => cbv
    refine callF_frame (reg_lx r (by omega) (by omega)) [] rfl trivial rfl rfl (fun r2 h' n' hrr => ?_)
    obtain ⟨e1, e2, e3⟩ := hrr
    subst e2 e3
    rw [hr, regI_nat] at e1
    cases e1 with
    | yes v hv =>
      conv => cbv
      refine RetF.mk [.p (.int .i64 (.sym v)), .p (.bool true)] [] 0 (Re.at [] []) rfl ⟨.yes v hv, rfl, rfl⟩
    | no v hv =>
      conv => cbv
      refine RetF.mk [.p (.int .i64 (.sym v)), .p (.bool false)] [] 0 (Re.at [] []) rfl ⟨.no v hv, rfl, rfl⟩
/-- The first sign that it is. -/
def idxT (t : List UInt8) : List UInt8 → Int → Int
  | [], _ => 0
  | d :: l, i => if t = [d] then i else idxT t l (i + 1)
theorem idxT_opV (t : List UInt8) : opV t = idxT t signsL 1 := by
  have h0 : ∀ (t : List UInt8), (∀ d, t ≠ [d]) → ∀ l i, idxT t l i = 0 := by
    intro t h l
    induction l with
    | nil => intro i; rfl
    | cons d l ih => intro i; rw [idxT, if_neg (h d), ih]
  have h1 : ∀ (c : UInt8) l i, idxOf c l i = idxT [c] l i := by
    intro c l
    induction l with
    | nil => intro i; rfl
    | cons d l ih =>
      intro i
      rw [idxOf, idxT, ih]
      by_cases h : c = d
      · rw [if_pos h, if_pos (by rw [h])]
      · rw [if_neg h, if_neg (by simpa using h)]
  cases t with
  | nil => rw [h0 [] (by simp)]; rfl
  | cons c t =>
    cases t with
    | nil => exact h1 c _ _
    | cons d t => rw [h0 (c :: d :: t) (by simp)]; rfl
theorem enc_low (c : UInt8) (h : c.toNat < 128) (n : Int) (hn : n = c.toNat) : Utf8.encode n = bytesOfL [c] := by
  have : ∀ x : Fin 128, Utf8.encode (x.val : Int) = bytesOfL [UInt8.ofNat x.val] := by decide +kernel
  have h2 := this ⟨c.toNat, h⟩
  simp only [UInt8.ofNat_toNat] at h2
  rw [hn, h2]
theorem bol_inj {a b : List UInt8} : bytesOfL a = bytesOfL b ↔ a = b := by
  constructor
  · intro h
    have := congrArg (fun z : ByteArray => z.data.toList) h
    simpa [bytesOfL] using this
  · rintro rfl; rfl
def signsB : ByteArray := ⟨#[61, 60, 43, 109, 115, 114, 99, 108, 107, 103, 106, 122, 111, 116, 98, 117, 119, 112, 113, 102, 83, 120]⟩
theorem signs_low : Low signsL := by unfold Low; decide
theorem signs_get (i : Int) (h0 : 0 ≤ i) (h1 : i < 22) : ∃ c, signsL[i.toNat]? = some c ∧ ((Utf8.decode signsB i.toNat).1 : Int) = c.toNat ∧ (Utf8.decode signsB i.toNat).2 = 1 ∧ signsL.drop i.toNat = c :: signsL.drop (i.toNat + 1) ∧ c.toNat < 128 := by
  have hi : i.toNat < signsL.length := by show i.toNat < 22; omega
  have e := List.getElem?_eq_getElem hi
  have hd := dec_at signsL signs_low i.toNat _ e
  refine ⟨_, e, ?_, ?_, List.drop_eq_getElem_cons hi, signs_low _ (List.getElem_mem hi)⟩
  · show ((Utf8.decode ⟨signsL.toArray⟩ i.toNat).1 : Int) = _; rw [hd]
  · show (Utf8.decode ⟨signsL.toArray⟩ i.toNat).2 = _; rw [hd]
set_option maxHeartbeats 1000000 in
theorem opOf_lx (t : List UInt8) (z : ByteArray) (v : Int) (hz : z = bytesOfL t) (hv : v = opV t) : CallF (fun _ => Tryd.prog) 53 [.p (.str fun _ => z)] [] 0 (fun r h n => r = .p (.int .i64 (.sym v)) ∧ h = [] ∧ n = 0) := by
  have hv0 : v = idxT t (signsL.drop (0 : Int).toNat) (0 + 1) := hv.trans (idxT_opV t)
  refine callF_of_body tok Tryd.func53 (by kernel_rfl) rfl rfl rfl ?_; conv => cbv
  refine LoopF.mk (fun k s => ∃ pos : Int, s = ⟨.p (.str fun _ => z) :: .undef :: .p (.int .i64 (.lit 0)) :: (undefs 2 ++ .ptr 0 (.lit 0) :: undefs 10), [(0, .iter (fun _ => signsB) (.sym pos))], 1⟩ ∧ 0 ≤ pos ∧ pos ≤ 22 ∧ v = idxT t (signsL.drop pos.toNat) (pos + 1) ∧ k = (22 - pos).toNat) 22 _
    (Re.at [(0, 0)] []) ⟨0, rfl, by omega, by omega, hv0, by omega⟩ ?_
  clear hv0
  rintro k s ⟨pos, rfl, h0, h1, hv1, hk⟩
  conv => cbv
  by_cases hend : pos = 22
  · refine NextS.over (by show (22 : Int) ≤ pos; omega) ?_
    have e : v = 0 := by rw [hv1, hend]; rfl
    conv => cbv
    refine RetF.mk [.p (.int .i64 (.sym v))] [] 0 (Re.at [] []) rfl ⟨rfl, rfl, rfl⟩
  · obtain ⟨c, _, hc1, hc2, hc3, hc4⟩ := signs_get pos h0 (by omega)
    obtain ⟨k', rfl⟩ : ∃ k', k = k' + 1 := ⟨k - 1, by omega⟩
    refine NextS.more (by show pos < (22 : Int); omega) ?_
    intro r p' hr hp
    have hr : r = (c.toNat : Int) := by rw [← hc1]; exact hr
    have hp : p' = pos + 1 := by
      have : p' = pos + ((Utf8.decode signsB pos.toNat).2 : Int) := hp
      rw [this, hc2]; rfl
    rw [hc3, idxT] at hv1
    conv => cbv
    refine Str.mk fun y hy => ?_
    have hy : y = bytesOfL [c] := by
      have : y = Utf8.encode r := hy
      rw [this, enc_low c hc4 r hr]
    conv => cbv
    refine Br.mk (fun g => ?_) (fun g => ?_)
    · have g : y = z := g
      have e : v = pos + 1 := by rw [hv1, if_pos]; rw [hy, hz] at g; exact (bol_inj.1 g).symm
      conv => cbv
      refine Fit.mk (by show (-9223372036854775808 : Int) ≤ pos + 1; omega) (by show pos + 1 ≤ 9223372036854775807; omega) fun t3 ht3 => ?_
      have ht3 : t3 = pos + 1 := ht3
      have e2 : t3 = v := by omega
      conv => cbv
      refine RetF.mk [.p (.int .i64 (.sym v))] [] 0 (Re.at [] []) rfl ⟨rfl, rfl, rfl⟩
    · have g : ¬ y = z := g
      rw [if_neg (by intro h; exact g (by rw [hy, hz, h]))] at hv1
      conv => cbv
      refine Again.mk k' _ (Nat.lt_succ_self _) (Re.at [(0, 0)] []) ⟨p', rfl, by omega, by omega, by rw [hv1, hp, show (pos + 1).toNat = pos.toNat + 1 by omega], by omega⟩
set_option maxHeartbeats 2000000 in
theorem shapeOf_lx (op : Int) : CallF (fun _ => Tryd.prog) 47 [.p (.int .i64 (.sym op))] [] 0 (fun r h n => (∃ y : ByteArray, r = .p (.str fun _ => y) ∧ y = bytesOfL (shapeV op)) ∧ h = [] ∧ n = 0) := by
  obtain ⟨Y, hY⟩ : ∃ Y, Y = bytesOfL (shapeV op) := ⟨_, rfl⟩
  refine callF_of_body tok Tryd.func47 (by kernel_rfl) rfl rfl rfl ?_; conv => cbv
  iterate 9
    refine Br.mk (fun g => ?_) (fun g => ?_)
    case refine_1 =>
      simp only [I.val] at g
      have hY2 : Y = ⟨⟨[97, 98]⟩⟩ := by rw [hY, g]; rfl
      conv => cbv
      refine RetF.mk [.p (.str fun _ => Y)] [] 0 (Re.at [] []) rfl ⟨⟨Y, rfl, hY⟩, rfl, rfl⟩
    simp only [I.val] at g
    conv => cbv
  iterate 6
    refine Br.mk (fun g => ?_) (fun g => ?_)
    case refine_1 =>
      simp only [I.val] at g
      have hY2 : Y = ⟨⟨[97, 110]⟩⟩ := by rw [hY, g]; rfl
      conv => cbv
      refine RetF.mk [.p (.str fun _ => Y)] [] 0 (Re.at [] []) rfl ⟨⟨Y, rfl, hY⟩, rfl, rfl⟩
    simp only [I.val] at g
    conv => cbv
  iterate 2
    refine Br.mk (fun g => ?_) (fun g => ?_)
    case refine_1 =>
      simp only [I.val] at g
      have hY2 : Y = ⟨⟨[110]⟩⟩ := by rw [hY, g]; rfl
      conv => cbv
      refine RetF.mk [.p (.str fun _ => Y)] [] 0 (Re.at [] []) rfl ⟨⟨Y, rfl, hY⟩, rfl, rfl⟩
    simp only [I.val] at g
    conv => cbv
  iterate 2
    refine Br.mk (fun g => ?_) (fun g => ?_)
    case refine_1 =>
      simp only [I.val] at g
      have hY2 : Y = ⟨⟨[97]⟩⟩ := by rw [hY, g]; rfl
      conv => cbv
      refine RetF.mk [.p (.str fun _ => Y)] [] 0 (Re.at [] []) rfl ⟨⟨Y, rfl, hY⟩, rfl, rfl⟩
    simp only [I.val] at g
    conv => cbv
  iterate 1
    refine Br.mk (fun g => ?_) (fun g => ?_)
    case refine_1 =>
      simp only [I.val] at g
      have hY2 : Y = ⟨⟨[100, 97]⟩⟩ := by rw [hY, g]; rfl
      conv => cbv
      refine RetF.mk [.p (.str fun _ => Y)] [] 0 (Re.at [] []) rfl ⟨⟨Y, rfl, hY⟩, rfl, rfl⟩
    simp only [I.val] at g
    conv => cbv
  have hY2 : Y = ⟨⟨[]⟩⟩ := by
    rw [hY, shapeV, if_neg (by omega), if_neg (by omega), if_neg (by omega), if_neg (by omega), if_neg (by omega)]; rfl
  refine RetF.mk [.p (.str fun _ => Y)] [] 0 (Re.at [] []) rfl ⟨⟨Y, rfl, hY⟩, rfl, rfl⟩
theorem caseShape_lx (k : Int) : CallF (fun _ => Tryd.prog) 65 [.p (.int .i64 (.sym k))] [] 0 (fun r h n => (∃ y : ByteArray, r = .p (.str fun _ => y) ∧ y = bytesOfL (cshape k)) ∧ h = [] ∧ n = 0) := by
  obtain ⟨Y, hY⟩ : ∃ Y, Y = bytesOfL (cshape k) := ⟨_, rfl⟩
  refine callF_of_body tok Tryd.func65 (by kernel_rfl) rfl rfl rfl ?_; conv => cbv
  refine Br.mk (fun g => ?_) (fun g => ?_)
  · simp only [I.val] at g
    have hY2 : Y = ⟨⟨[110]⟩⟩ := by rw [hY, g]; rfl
    conv => cbv
    refine RetF.mk [.p (.str fun _ => Y)] [] 0 (Re.at [] []) rfl ⟨⟨Y, rfl, hY⟩, rfl, rfl⟩
  · simp only [I.val] at g
    have hY2 : Y = ⟨⟨[97, 98, 110]⟩⟩ := by rw [hY, cshape, if_neg g]; rfl
    conv => cbv
    refine RetF.mk [.p (.str fun _ => Y)] [] 0 (Re.at [] []) rfl ⟨⟨Y, rfl, hY⟩, rfl, rfl⟩
theorem caseV_eq (t : List UInt8) : caseV t = if t = [115] then 1 else if t = [114] then 2 else if t = [101] then 3 else 0 := by
  cases t with
  | nil => rfl
  | cons c t =>
    cases t with
    | nil => simp [caseV]
    | cons d t => rw [if_neg (by simp), if_neg (by simp), if_neg (by simp)]; rfl
theorem caseOf_lx (t : List UInt8) (z : ByteArray) (v : Int) (hz : z = bytesOfL t) (hv : v = caseV t) : CallF (fun _ => Tryd.prog) 72 [.p (.str fun _ => z)] [] 0 (fun r h n => r = .p (.int .i64 (.sym v)) ∧ h = [] ∧ n = 0) := by
  rw [caseV_eq] at hv
  refine callF_of_body tok Tryd.func72 (by kernel_rfl) rfl rfl rfl ?_; conv => cbv
  refine Br.mk (fun g => ?_) (fun g => ?_)
  · have g : z = bytesOfL [115] := g
    have e : v = 1 := by rw [hv, if_pos]; rw [hz] at g; exact bol_inj.1 g
    conv => cbv
    refine RetF.mk [.p (.int .i64 (.sym v))] [] 0 (Re.at [] []) rfl ⟨rfl, rfl, rfl⟩
  have g : ¬ z = bytesOfL [115] := g
  rw [if_neg (by intro h; exact g (by rw [hz, h]))] at hv
  conv => cbv
  refine Br.mk (fun g => ?_) (fun g => ?_)
  · have g : z = bytesOfL [114] := g
    have e : v = 2 := by rw [hv, if_pos]; rw [hz] at g; exact bol_inj.1 g
    conv => cbv
    refine RetF.mk [.p (.int .i64 (.sym v))] [] 0 (Re.at [] []) rfl ⟨rfl, rfl, rfl⟩
  have g : ¬ z = bytesOfL [114] := g
  rw [if_neg (by intro h; exact g (by rw [hz, h]))] at hv
  conv => cbv
  refine Br.mk (fun g => ?_) (fun g => ?_)
  · have g : z = bytesOfL [101] := g
    have e : v = 3 := by rw [hv, if_pos]; rw [hz] at g; exact bol_inj.1 g
    conv => cbv
    refine RetF.mk [.p (.int .i64 (.sym v))] [] 0 (Re.at [] []) rfl ⟨rfl, rfl, rfl⟩
  have g : ¬ z = bytesOfL [101] := g
  rw [if_neg (by intro h; exact g (by rw [hz, h]))] at hv
  conv => cbv
  refine RetF.mk [.p (.int .i64 (.sym v))] [] 0 (Re.at [] []) rfl ⟨rfl, rfl, rfl⟩
theorem numO_go (l : List UInt8) (hl : l ≠ []) (h4 : l.length ≤ 4) : numO l = if l.all isD then some (numB l) else none := by
  unfold numO
  by_cases h : l.all isD = true
  · rw [if_neg (by rw [h]; simp; exact ⟨hl, by omega⟩), if_pos h]
  · rw [if_pos (.inr (.inr (by simpa using h))), if_neg h]
set_option maxHeartbeats 2000000 in
theorem number_lx (t : List UInt8) (z : ByteArray) (hz : z = bytesOfL t) (hl : Low t) (hlen : t.length ≤ 100000) : CallF (fun _ => Tryd.prog) 74 [.p (.str fun _ => z)] [] 0 (fun r h n => OptI (numO t) r ∧ h = [] ∧ n = 0) := by
  obtain ⟨N, hN⟩ : ∃ N : Int, N = t.length := ⟨_, rfl⟩
  have hzs : (z.size : Int) = N := by rw [hz, bol_size, hN]
  refine callF_of_body tok Tryd.func74 (by kernel_rfl) rfl rfl rfl ?_; conv => cbv
  refine Br.mk (fun g => ?_) (fun g => ?_)
  · have g : z = ⟨#[]⟩ := g
    have e : t = [] := by rw [hz] at g; exact (bol_nil t).1 g
    conv => cbv
    refine RetF.mk [.p (.int .i64 (.sym 0)), .p (.bool false)] [] 0 (Re.at [] []) rfl ⟨.no 0 (by rw [e]; rfl), rfl, rfl⟩
  have g : ¬ z = ⟨#[]⟩ := g
  have ht0 : t ≠ [] := by intro h; exact g (by rw [hz]; exact (bol_nil t).2 h)
  conv => cbv
  refine Sum.mk fun zs hzs2 => ?_
  have hzs2 : zs = N := (show zs = (z.size : Int) from hzs2).trans hzs
  conv => cbv
  refine Br.mk (fun g4 => ?_) (fun g4 => ?_)
  · have g4 : 4 < zs := g4
    conv => cbv
    refine RetF.mk [.p (.int .i64 (.sym 0)), .p (.bool false)] [] 0 (Re.at [] []) rfl ⟨.no 0 (by unfold numO; rw [if_pos (.inr (.inl (by omega)))]), rfl, rfl⟩
  have g4 : ¬ 4 < zs := g4
  have hgo := numO_go t ht0 (by omega)
  obtain ⟨F, hF⟩ : ∃ F : Int → Int, ∀ i, F i = numB (t.take i.toNat) := ⟨_, fun _ => rfl⟩
  have hF0 : F 0 = 0 := by rw [hF]; rfl
  have hFb : ∀ i, (∀ c ∈ t.take i.toNat, isD c = true) → 0 ≤ F i ∧ F i < 10000 := fun i hi => by
    have h1 := numB_bound _ hi
    rw [← hF] at h1
    have h2 : (10 ^ (t.take i.toNat).length : Nat) ≤ 10 ^ 4 := Nat.pow_le_pow_right (by decide) (by rw [List.length_take]; omega)
    have h3 : ((10 ^ (t.take i.toNat).length : Nat) : Int) ≤ ((10000 : Nat) : Int) := Int.ofNat_le.2 h2
    omega
  conv => cbv
  refine LoopF.mk (fun k s => ∃ pos n : Int, s = ⟨undefs 4 ++ .p (.int .i64 (.sym n)) :: (undefs 10 ++ .ptr 0 (.lit 0) :: undefs 16), [(0, .iter (fun _ => z) (.sym pos))], 1⟩ ∧ 0 ≤ pos ∧ pos ≤ N ∧ n = F pos ∧ (∀ c ∈ t.take pos.toNat, isD c = true) ∧ k = (N - pos).toNat) N.toNat _
    (Re.at [(0, 0)] []) ⟨0, 0, rfl, by omega, by omega, hF0.symm, by simp, by omega⟩ ?_
  rintro k s ⟨pos, n, rfl, h0, h1, hn, hall, hk⟩
  have hb := hFb pos hall
  conv => cbv
  by_cases hend : pos = N
  · have hfull : t.take pos.toNat = t := List.take_of_length_le (by omega)
    rw [hfull] at hall
    have e : numO t = some n := by rw [hgo, if_pos (List.all_eq_true.2 hall), hn, hF, hfull]
    refine NextS.over (by show (z.size : Int) ≤ pos; omega) ?_
    conv => cbv
    refine RetF.mk [.p (.int .i64 (.sym n)), .p (.bool true)] [] 0 (Re.at [] []) rfl ⟨.yes n e, rfl, rfl⟩
  · obtain ⟨c, hc⟩ : ∃ c, t[pos.toNat]? = some c := ⟨_, List.getElem?_eq_getElem (by omega)⟩
    have hd := dec_at t hl pos.toNat c hc
    have hcm := List.mem_of_getElem? hc
    obtain ⟨k', rfl⟩ : ∃ k', k = k' + 1 := ⟨k - 1, by omega⟩
    refine NextS.more (by show pos < (z.size : Int); omega) ?_
    intro r p' hr hp
    have hr : r = (c.toNat : Int) := by
      have : r = ((Utf8.decode z pos.toNat).1 : Int) := hr
      rw [this, hz, bytesOfL, hd]
    have hp : p' = pos + 1 := by
      have : p' = pos + ((Utf8.decode z pos.toNat).2 : Int) := hp
      rw [this, hz, bytesOfL, hd]; rfl
    have hbad : isD c = false → numO t = none := fun hx => by
      rw [hgo, if_neg]
      intro hy
      rw [List.all_eq_true.1 hy c hcm] at hx; cases hx
    have hcl := hl c hcm
    conv => cbv
    refine Br.mk (fun g => ?_) (fun g => ?_)
    · have g : r < 48 := g
      have e : numO t = none := hbad (by simp [isD]; omega)
      conv => cbv
      refine RetF.mk [.p (.int .i64 (.sym 0)), .p (.bool false)] [] 0 (Re.at [] []) rfl ⟨.no 0 e, rfl, rfl⟩
    have g : ¬ r < 48 := g
    conv => cbv
    refine Br.mk (fun g2 => ?_) (fun g2 => ?_)
    · have g2 : 57 < r := g2
      have e : numO t = none := hbad (by simp [isD]; omega)
      conv => cbv
      refine RetF.mk [.p (.int .i64 (.sym 0)), .p (.bool false)] [] 0 (Re.at [] []) rfl ⟨.no 0 e, rfl, rfl⟩
    have g2 : ¬ 57 < r := g2
    have hdc : isD c = true := by simp [isD]; omega
    have htk : t.take p'.toNat = t.take pos.toNat ++ [c] := by rw [show p'.toNat = pos.toNat + 1 by omega, List.take_add_one, hc]; rfl
    have hFs : F p' = 10 * F pos + (r - 48) := by rw [hF, hF, htk, numB_snoc, hr]
    have hall2 : ∀ c ∈ t.take p'.toNat, isD c = true := by
      rw [htk]
      intro d hd2
      rcases List.mem_append.1 hd2 with h | h
      · exact hall d h
      · rw [List.mem_singleton] at h; rw [h]; exact hdc
    conv => cbv
    refine Fit.mk (by show (-9223372036854775808 : Int) ≤ 10 * n; omega) (by show 10 * n ≤ 9223372036854775807; omega) fun t1 ht1 => ?_
    have ht1 : t1 = 10 * n := ht1
    conv => cbv
    refine Fit.mk (by show (-2147483648 : Int) ≤ r - 48; omega) (by show r - 48 ≤ 2147483647; omega) fun t2 ht2 => ?_
    have ht2 : t2 = r - 48 := ht2
    conv => cbv
    refine Fit.mk (by show (-9223372036854775808 : Int) ≤ t2; omega) (by show t2 ≤ 9223372036854775807; omega) fun t3 ht3 => ?_
    have ht3 : t3 = t2 := ht3
    conv => cbv
    refine Fit.mk (by show (-9223372036854775808 : Int) ≤ t1 + t3; omega) (by show t1 + t3 ≤ 9223372036854775807; omega) fun t4 ht4 => ?_
    have ht4 : t4 = t1 + t3 := ht4
    conv => cbv
    refine Again.mk k' _ (Nat.lt_succ_self _) (Re.at [(0, 0)] []) ⟨p', t4, rfl, by omega, by omega, by omega, hall2, by omega⟩
end Go.Proofs.YtfjdifeofnpcnaaDoor
/-
  Layer 2: the parts of a line, and what a shape reads of them.
-/
namespace Go.Proofs.YtfjdifeofnpcnaaDoor

open Go Go.LX
set_option maxRecDepth 100000
set_option linter.unusedVariables false
set_option linter.unusedSimpArgs false

def tokStep (st : List (List UInt8) × Bool) (c : UInt8) : List (List UInt8) × Bool :=
  if isD c = true ∧ st.2 = true then (st.1.dropLast ++ [(st.1.getLast?.getD []) ++ [c]], true) else (st.1 ++ [[c]], isD c)
def mergeT (t : List UInt8) : List (List UInt8) → List (List UInt8)
  | (d :: u) :: ts => if isD d = true then (t ++ d :: u) :: ts else t :: (d :: u) :: ts
  | ts => t :: ts
theorem merge_glue (t : List UInt8) (c : UInt8) (h : isD c = true) (ts : List (List UInt8)) : mergeT t (glue c ts) = mergeT (t ++ [c]) ts := by
  cases ts with
  | nil => simp [glue, mergeT, h]
  | cons u ts =>
    cases u with
    | nil => simp [glue, mergeT, h]
    | cons d u =>
      simp only [glue, mergeT, h, true_and]
      by_cases hd : isD d = true
      · simp [hd, mergeT, h]
      · simp [hd, mergeT, h]
theorem tok_fold (l : List UInt8) : (∀ T, (l.foldl tokStep (T, false)).1 = T ++ toks l) ∧ (∀ T t, (l.foldl tokStep (T ++ [t], true)).1 = T ++ mergeT t (toks l)) := by
  induction l with
  | nil => exact ⟨fun T => by simp [toks], fun T t => by simp [toks, mergeT]⟩
  | cons c l ih =>
    obtain ⟨iF, iG⟩ := ih
    refine ⟨fun T => ?_, fun T t => ?_⟩
    · rw [List.foldl_cons, tokStep, if_neg (by simp)]
      cases h : isD c with
      | true =>
        rw [iG]
        show _ = T ++ glue c (toks l)
        congr 1
        cases e : toks l with
        | nil => rfl
        | cons u ts =>
          cases u with
          | nil => rfl
          | cons d u => simp [mergeT, glue, h]
      | false => rw [iF, toks_nd c l h]; simp
    · rw [List.foldl_cons, tokStep]
      cases h : isD c with
      | true =>
        rw [if_pos ⟨rfl, rfl⟩]
        simp only [List.dropLast_concat, List.getLast?_concat, Option.getD_some]
        rw [iG]
        show _ = T ++ mergeT t (glue c (toks l))
        rw [merge_glue t c h]
      | false =>
        rw [if_neg (by simp), iF, toks_nd c l h]
        simp [mergeT, h]
def tokF (l : List UInt8) : List (List UInt8) × Bool := l.foldl tokStep ([], false)
theorem tokF_snoc (l : List UInt8) (c : UInt8) : tokF (l ++ [c]) = tokStep (tokF l) c := by simp [tokF]
theorem tokF_toks (l : List UInt8) : (tokF l).1 = toks l := by have := (tok_fold l).1 []; simpa [tokF] using this
theorem tokF_len (l : List UInt8) : (tokF l).1.length ≤ l.length := by
  suffices h : ∀ (l : List UInt8) (st : List (List UInt8) × Bool), (st.2 = true → st.1 ≠ []) → (l.foldl tokStep st).1.length ≤ st.1.length + l.length by
    simpa [tokF] using h l ([], false) (by simp)
  intro l
  induction l with
  | nil => intro st _; simp
  | cons c l ih =>
    intro st hst
    simp only [List.foldl_cons, List.length_cons]
    refine Nat.le_trans (ih _ ?_) ?_
    · unfold tokStep; split <;> simp
    · unfold tokStep
      split
      · simp; omega
      · simp; omega
theorem tokF_some (l : List UInt8) (h : (tokF l).2 = true) : (tokF l).1 ≠ [] := by
  obtain ⟨m, hm⟩ : ∃ m : List UInt8, m = l.reverse := ⟨_, rfl⟩
  have hl : l = m.reverse := by rw [hm, List.reverse_reverse]
  rw [hl] at h ⊢
  cases m with
  | nil => simp [tokF] at h
  | cons c m =>
    rw [List.reverse_cons, tokF_snoc]
    unfold tokStep
    split <;> simp
theorem tok_mem (l : List UInt8) : ∀ t ∈ (tokF l).1, ∀ c ∈ t, c ∈ l := by
  suffices h : ∀ (l : List UInt8) (st : List (List UInt8) × Bool) (P : UInt8 → Prop), (∀ t ∈ st.1, ∀ c ∈ t, P c) → (∀ c ∈ l, P c) → ∀ t ∈ (l.foldl tokStep st).1, ∀ c ∈ t, P c by
    exact h l ([], false) (· ∈ l) (by simp) (fun c hc => hc)
  intro l
  induction l with
  | nil => intro st P h _; exact h
  | cons c l ih =>
    intro st P h hl
    rw [List.foldl_cons]
    refine ih _ P ?_ (fun d hd => hl d (by simp [hd]))
    intro t ht d hd
    unfold tokStep at ht
    split at ht
    · rcases List.mem_append.1 ht with ht | ht
      · exact h t ((List.dropLast_sublist _).subset ht) d hd
      · rw [List.mem_singleton] at ht
        subst ht
        rcases List.mem_append.1 hd with hd | hd
        · cases e : st.1.getLast? with
          | none => rw [e] at hd; simp at hd
          | some u => rw [e] at hd; exact h u (List.mem_of_getLast? e) d hd
        · rw [List.mem_singleton] at hd; rw [hd]; exact hl c (by simp)
    · rcases List.mem_append.1 ht with ht | ht
      · exact h t ht d hd
      · rw [List.mem_singleton] at ht
        subst ht
        rw [List.mem_singleton] at hd; rw [hd]; exact hl c (by simp)
theorem toks_low {l : List UInt8} (h : Low l) : ∀ t ∈ toks l, Low t := by
  intro t ht c hc
  rw [← tokF_toks] at ht
  exact h c (tok_mem l t ht c hc)
theorem toks_len (l : List UInt8) : (toks l).length ≤ l.length := by rw [← tokF_toks]; exact tokF_len l
theorem toks_flat (l : List UInt8) : (toks l).flatten = l := by
  induction l with
  | nil => rfl
  | cons c l ih =>
    have : ∀ ts, (glue c ts).flatten = c :: ts.flatten := by
      intro ts
      cases ts with
      | nil => rfl
      | cons u ts =>
        cases u with
        | nil => rfl
        | cons d u => simp only [glue]; split <;> simp
    show (glue c (toks l)).flatten = _
    rw [this, ih]
theorem flat_le : ∀ (T : List (List UInt8)) (t : List UInt8), t ∈ T → t.length ≤ T.flatten.length
  | [], t, h => by simp at h
  | u :: T, t, h => by
    rw [List.flatten_cons, List.length_append]
    rcases List.mem_cons.1 h with rfl | h
    · omega
    · have := flat_le T t h; omega
theorem tok_le (l : List UInt8) (t : List UInt8) (h : t ∈ toks l) : t.length ≤ l.length := by
  have := flat_le _ _ h
  rwa [toks_flat] at this
theorem spv_upd (T : List (List UInt8)) (t u : List UInt8) : updL (spv (T ++ [t])) T.length [.str fun _ => bytesOfL u] = spv (T ++ [u]) := by
  show (spv (T ++ [t])).set T.length _ = _
  rw [spv, spv, List.map_append, List.map_append, List.set_append_right _ _ (by simp)]
  simp
theorem bol_add (a b : List UInt8) : bytesOfL a ++ bytesOfL b = bytesOfL (a ++ b) := by
  apply ByteArray.ext
  rw [ByteArray.data_append]
  show a.toArray ++ b.toArray = (a ++ b).toArray
  simp
set_option maxHeartbeats 4000000 in
theorem parts_lx (l : List UInt8) (z : ByteArray) (k : Int) (hz : z = bytesOfL l) (hl : Low l) (hlen : l.length ≤ 2000) (hk : k = (toks l).length) : CallF (fun _ => Tryd.prog) 52 [.p (.str fun _ => z)] [] 0 (fun r h n => ∃ L' : List PV, r = .sl 0 9 1 (.lit 0) (.sym k) ∧ h = [(0, .pure true L')] ∧ n = 1 ∧ L' = spv (toks l)) := by
  obtain ⟨N, hN⟩ : ∃ N : Int, N = l.length := ⟨_, rfl⟩
  have hzs : (z.size : Int) = N := by rw [hz, bol_size, hN]
  obtain ⟨ll, hll⟩ : ∃ ll : List (List UInt8) → Int, ∀ l, ll l = l.length := ⟨_, fun _ => rfl⟩
  have ll0 : ll [] = 0 := by rw [hll]; rfl
  have s0 : tokF (l.take (0 : Int).toNat) = ([], false) := rfl
  refine callF_of_body tok Tryd.func52 (by kernel_rfl) rfl rfl rfl ?_; conv => cbv
  refine LoopF.mk (fun kk s => ∃ (pos j : Int) (dg : Bool) (LL : List PV) (T : List (List UInt8)), s = ⟨.p (.str fun _ => z) :: (undefs 2 ++ .sl 1 9 1 (.lit 0) (.sym j) :: .p (.bool dg) :: (undefs 3 ++ .p (.str fun _ => z) :: .ptr 0 (.lit 0) :: undefs 30)), [(0, .iter (fun _ => z) (.sym pos)), (1, .pure true LL)], 2⟩ ∧ tokF (l.take pos.toNat) = (T, dg) ∧ LL = spv T ∧ j = ll T ∧ 0 ≤ pos ∧ pos ≤ N ∧ kk = (N - pos).toNat) N.toNat _
    (Re.at [(0, 0)] [1]) ⟨0, 0, false, [], [], rfl, s0, rfl, ll0.symm, by omega, by omega, by omega⟩ ?_
  clear s0
  rintro kk s ⟨pos, j, dg, LL, T, rfl, hst, hLL, hj, h0, h1, hkk⟩
  have hTl := tokF_len (l.take pos.toNat)
  rw [hst, List.length_take] at hTl
  have hTl : T.length ≤ 2000 := by dsimp only at hTl; omega
  have hjl : (LL.length : Int) = j := by rw [hLL, spv_length, hj, hll]
  have hjb : j ≤ 2000 := by rw [hj, hll]; omega
  have hj0 : 0 ≤ j := by omega
  have hne := tokF_some (l.take pos.toNat)
  rw [hst] at hne
  by_cases hend : pos = N
  · have hfull : l.take pos.toNat = l := List.take_of_length_le (by omega)
    rw [hfull] at hst
    have hT : T = toks l := by rw [← tokF_toks, hst]
    have hkj : j = k := by rw [hk, hj, hll, hT]
    have hL9 : LL = spv (toks l) := by rw [hLL, hT]
    conv => cbv
    refine NextS.over (by show (z.size : Int) ≤ pos; omega) ?_
    conv => cbv
    refine RetF.mk [.sl 0 9 1 (.lit 0) (.sym k)] [(0, .pure true LL)] 1 (Re.at [(1, 0)] []) rfl ⟨LL, rfl, rfl, rfl, hL9⟩
  · obtain ⟨c, hc⟩ : ∃ c, l[pos.toNat]? = some c := ⟨_, List.getElem?_eq_getElem (by omega)⟩
    have hd := dec_at l hl pos.toNat c hc
    have hcl := hl c (List.mem_of_getElem? hc)
    obtain ⟨k', rfl⟩ : ∃ k', kk = k' + 1 := ⟨kk - 1, by omega⟩
    have hnext : tokF (l.take (pos + 1).toNat) = tokStep (T, dg) c := by
      rw [show (pos + 1).toNat = pos.toNat + 1 by omega, List.take_add_one, hc, ← hst]
      exact tokF_snoc _ _
    cases dg with
    | true =>
      obtain ⟨T0, t, hT⟩ : ∃ T0 t, T = T0 ++ [t] := ⟨T.dropLast, T.getLast (hne rfl), (List.dropLast_concat_getLast (hne rfl)).symm⟩
      conv => cbv
      refine NextS.more (by show pos < (z.size : Int); omega) ?_
      intro r p' hr hp
      have hr : r = (c.toNat : Int) := by
        have : r = ((Utf8.decode z pos.toNat).1 : Int) := hr
        rw [this, hz, bytesOfL, hd]
      have hp : p' = pos + 1 := by
        have : p' = pos + ((Utf8.decode z pos.toNat).2 : Int) := hp
        rw [this, hz, bytesOfL, hd]; rfl
      rw [← hp] at hnext
      conv => cbv
      refine Br.mk (fun g => ?_) (fun g => ?_)
      · have g : 48 ≤ r := g
        conv => cbv
        refine Br.mk (fun g2 => ?_) (fun g2 => ?_)
        · have g2 : r ≤ 57 := g2
          have hdc : isD c = true := by simp [isD]; omega
          have hnext : tokF (l.take p'.toNat) = (T0 ++ [t ++ [c]], true) := by
            rw [hnext, tokStep, if_pos ⟨hdc, rfl⟩, hT]; simp
          conv => cbv
          refine Fit.mk (by show (-9223372036854775808 : Int) ≤ j - 1; omega) (by show j - 1 ≤ 9223372036854775807; omega) fun q hq => ?_
          have hq : q = j - 1 := hq
          have hT0 : (T0.length : Int) = q := by rw [hq, hj, hll, hT, List.length_append]; simp
          conv => cbv
          refine Need.mk ⟨by show (0 : Int) ≤ q; omega, by show q < j; omega⟩ ?_
          conv => cbv
          have ha : LL[T0.length]? = some (.str fun _ => bytesOfL t) := by
            rw [hLL, hT]; exact spv_get (by simp)
          obtain ⟨tz, htz⟩ : ∃ tz, tz = bytesOfL t := ⟨_, rfl⟩
          rw [← htz] at ha
          refine Cell.at q T0.length ha (by simp [I.val]) (by omega) ?_
          conv => cbv
          refine Str.mk fun y hy => ?_
          have hy : y = Utf8.encode r := hy
          have hst2 : y = bytesOfL [c] := by rw [hy, enc_low c hcl r hr]
          conv => cbv
          have htl : t.length ≤ 2000 := by
            have := tok_le (l.take pos.toNat) t (by rw [← tokF_toks, hst, hT]; simp)
            rw [List.length_take] at this; omega
          refine Need.mk (by show tz.size + y.size ≤ 9223372036854775807; rw [htz, hst2, bol_size, bol_size]; simp; omega) ?_
          conv => cbv
          refine Str.mk fun y2 hy2 => ?_
          have hy2 : y2 = bytesOfL (t ++ [c]) := by
            have : y2 = tz ++ y := hy2
            rw [this, htz, hst2, bol_add]
          conv => cbv
          refine Need.mk ⟨by show (0 : Int) ≤ q; omega, by show q < j; omega⟩ ?_
          conv => cbv
          refine Need.mk (by show q + 1 ≤ (LL.length : Int); omega) ?_
          conv => cbv
          refine Upd.mk fun L2 hL2 => ?_
          have hL2 : L2 = spv (T0 ++ [t ++ [c]]) := by
            have h1 : L2 = updL LL q.toNat [.str fun _ => y2] := hL2
            rw [h1, hLL, hT, hy2, show q.toNat = T0.length by omega, spv_upd]
          have hj3 : j = ll (T0 ++ [t ++ [c]]) := by rw [hj, hll, hll, hT]; simp
          conv => cbv
          refine Again.mk k' _ (Nat.lt_succ_self _) (Re.at [(0, 0), (1, 1)] []) ⟨p', j, true, L2, T0 ++ [t ++ [c]], rfl, hnext, hL2, hj3, by omega, by omega, by omega⟩
        · have g2 : ¬ r ≤ 57 := g2
          conv => cbv
          refine Str.mk fun y hy => ?_
          have hy : y = Utf8.encode r := hy
          have hnext : tokF (l.take p'.toNat) = (T ++ [[c]], false) := by
            rw [hnext, tokStep, show isD c = false by simp [isD]; omega]; rfl
          have hst2 : y = bytesOfL [c] := by rw [hy, enc_low c hcl r hr]
          conv => cbv
          refine Room.new rfl ?_
          conv => cbv
          refine Room.new ⟨?_, ?_, ?_⟩ ?_
          · show (LL.length : Int) = j * 1; omega
          · show (j + 1) * 16 ≤ 140737488355328; omega
          · show j + 1 ≤ 9223372036854775807; omega
          conv => cbv
          refine Upd.mk fun L2 hL2 => ?_
          have hL2 : L2 = spv (T ++ [[c]]) := by rw [← spv_app, ← hLL, ← hst2]; exact hL2
          conv => cbv
          refine Sum.mk fun j2 hj2 => ?_
          have hj2 : j2 = j + 1 := hj2
          have hj3 : j2 = ll (T ++ [[c]]) := by rw [hj2, hj, hll, hll, List.length_append]; rfl
          conv => cbv
          refine Again.mk k' _ (Nat.lt_succ_self _) (Re.at [(0, 0), (3, 1)] []) ⟨p', j2, false, L2, T ++ [[c]], rfl, hnext, hL2, hj3, by omega, by omega, by omega⟩
      · have g : ¬ 48 ≤ r := g
        conv => cbv
        refine Str.mk fun y hy => ?_
        have hy : y = Utf8.encode r := hy
        have hnext : tokF (l.take p'.toNat) = (T ++ [[c]], false) := by
          rw [hnext, tokStep, show isD c = false by simp [isD]; omega]; rfl
        have hst2 : y = bytesOfL [c] := by rw [hy, enc_low c hcl r hr]
        conv => cbv
        refine Room.new rfl ?_
        conv => cbv
        refine Room.new ⟨?_, ?_, ?_⟩ ?_
        · show (LL.length : Int) = j * 1; omega
        · show (j + 1) * 16 ≤ 140737488355328; omega
        · show j + 1 ≤ 9223372036854775807; omega
        conv => cbv
        refine Upd.mk fun L2 hL2 => ?_
        have hL2 : L2 = spv (T ++ [[c]]) := by rw [← spv_app, ← hLL, ← hst2]; exact hL2
        conv => cbv
        refine Sum.mk fun j2 hj2 => ?_
        have hj2 : j2 = j + 1 := hj2
        have hj3 : j2 = ll (T ++ [[c]]) := by rw [hj2, hj, hll, hll, List.length_append]; rfl
        conv => cbv
        refine Again.mk k' _ (Nat.lt_succ_self _) (Re.at [(0, 0), (3, 1)] []) ⟨p', j2, false, L2, T ++ [[c]], rfl, hnext, hL2, hj3, by omega, by omega, by omega⟩
    | false =>
      conv => cbv
      refine NextS.more (by show pos < (z.size : Int); omega) ?_
      intro r p' hr hp
      have hr : r = (c.toNat : Int) := by
        have : r = ((Utf8.decode z pos.toNat).1 : Int) := hr
        rw [this, hz, bytesOfL, hd]
      have hp : p' = pos + 1 := by
        have : p' = pos + ((Utf8.decode z pos.toNat).2 : Int) := hp
        rw [this, hz, bytesOfL, hd]; rfl
      rw [← hp] at hnext
      conv => cbv
      refine Br.mk (fun g => ?_) (fun g => ?_)
      · have g : 48 ≤ r := g
        conv => cbv
        refine Br.mk (fun g2 => ?_) (fun g2 => ?_)
        · have g2 : r ≤ 57 := g2
          conv => cbv
          refine Str.mk fun y hy => ?_
          have hy : y = Utf8.encode r := hy
          have hnext : tokF (l.take p'.toNat) = (T ++ [[c]], true) := by
            rw [hnext, tokStep, show isD c = true by simp [isD]; omega]; rfl
          have hst2 : y = bytesOfL [c] := by rw [hy, enc_low c hcl r hr]
          conv => cbv
          refine Room.new rfl ?_
          conv => cbv
          refine Room.new ⟨?_, ?_, ?_⟩ ?_
          · show (LL.length : Int) = j * 1; omega
          · show (j + 1) * 16 ≤ 140737488355328; omega
          · show j + 1 ≤ 9223372036854775807; omega
          conv => cbv
          refine Upd.mk fun L2 hL2 => ?_
          have hL2 : L2 = spv (T ++ [[c]]) := by rw [← spv_app, ← hLL, ← hst2]; exact hL2
          conv => cbv
          refine Sum.mk fun j2 hj2 => ?_
          have hj2 : j2 = j + 1 := hj2
          have hj3 : j2 = ll (T ++ [[c]]) := by rw [hj2, hj, hll, hll, List.length_append]; rfl
          conv => cbv
          refine Again.mk k' _ (Nat.lt_succ_self _) (Re.at [(0, 0), (3, 1)] []) ⟨p', j2, true, L2, T ++ [[c]], rfl, hnext, hL2, hj3, by omega, by omega, by omega⟩
        · have g2 : ¬ r ≤ 57 := g2
          conv => cbv
          refine Str.mk fun y hy => ?_
          have hy : y = Utf8.encode r := hy
          have hnext : tokF (l.take p'.toNat) = (T ++ [[c]], false) := by
            rw [hnext, tokStep, show isD c = false by simp [isD]; omega]; rfl
          have hst2 : y = bytesOfL [c] := by rw [hy, enc_low c hcl r hr]
          conv => cbv
          refine Room.new rfl ?_
          conv => cbv
          refine Room.new ⟨?_, ?_, ?_⟩ ?_
          · show (LL.length : Int) = j * 1; omega
          · show (j + 1) * 16 ≤ 140737488355328; omega
          · show j + 1 ≤ 9223372036854775807; omega
          conv => cbv
          refine Upd.mk fun L2 hL2 => ?_
          have hL2 : L2 = spv (T ++ [[c]]) := by rw [← spv_app, ← hLL, ← hst2]; exact hL2
          conv => cbv
          refine Sum.mk fun j2 hj2 => ?_
          have hj2 : j2 = j + 1 := hj2
          have hj3 : j2 = ll (T ++ [[c]]) := by rw [hj2, hj, hll, hll, List.length_append]; rfl
          conv => cbv
          refine Again.mk k' _ (Nat.lt_succ_self _) (Re.at [(0, 0), (3, 1)] []) ⟨p', j2, false, L2, T ++ [[c]], rfl, hnext, hL2, hj3, by omega, by omega, by omega⟩
      · have g : ¬ 48 ≤ r := g
        conv => cbv
        refine Str.mk fun y hy => ?_
        have hy : y = Utf8.encode r := hy
        have hnext : tokF (l.take p'.toNat) = (T ++ [[c]], false) := by
          rw [hnext, tokStep, show isD c = false by simp [isD]; omega]; rfl
        have hst2 : y = bytesOfL [c] := by rw [hy, enc_low c hcl r hr]
        conv => cbv
        refine Room.new rfl ?_
        conv => cbv
        refine Room.new ⟨?_, ?_, ?_⟩ ?_
        · show (LL.length : Int) = j * 1; omega
        · show (j + 1) * 16 ≤ 140737488355328; omega
        · show j + 1 ≤ 9223372036854775807; omega
        conv => cbv
        refine Upd.mk fun L2 hL2 => ?_
        have hL2 : L2 = spv (T ++ [[c]]) := by rw [← spv_app, ← hLL, ← hst2]; exact hL2
        conv => cbv
        refine Sum.mk fun j2 hj2 => ?_
        have hj2 : j2 = j + 1 := hj2
        have hj3 : j2 = ll (T ++ [[c]]) := by rw [hj2, hj, hll, hll, List.length_append]; rfl
        conv => cbv
        refine Again.mk k' _ (Nat.lt_succ_self _) (Re.at [(0, 0), (3, 1)] []) ⟨p', j2, false, L2, T ++ [[c]], rfl, hnext, hL2, hj3, by omega, by omega, by omega⟩
end Go.Proofs.YtfjdifeofnpcnaaDoor
/-
  Layer 2: what a shape reads of a line's parts.
-/
namespace Go.Proofs.YtfjdifeofnpcnaaDoor

open Go Go.LX
set_option maxRecDepth 100000
set_option linter.unusedVariables false
set_option linter.unusedSimpArgs false

/-- Registers and a number, and whether there are. -/
inductive OptF (o : Option F3) : LV → Prop
  | yes (a b n : Int) (h : o = some ⟨a, b, n⟩) : OptF o (.tup [.agg [.p (.int .i64 (.sym a)), .p (.int .i64 (.sym b)), .p (.int .i64 (.sym n))], .p (.bool true)])
  | no (h : o = none) : OptF o (.tup [.agg [.p (.int .i64 (.sym 0)), .p (.int .i64 (.sym 0)), .p (.int .i64 (.sym 0))], .p (.bool false)])
set_option maxHeartbeats 8000000 in
theorem readFields_lx (sh : List UInt8) (z : ByteArray) (p : List (List UInt8)) (k : Int) (L : List PV) (hz : z = bytesOfL sh) (hsh : Low sh) (hsl : sh.length ≤ 100) (hL : L = spv p) (hk : k = p.length) (hp : ∀ t ∈ p, Low t ∧ t.length ≤ 2000) :
    CallF (fun _ => Tryd.prog) 55 [.p (.str fun _ => z), .p (.vsl (.sym k) true L)] [] 0 (fun r h n => OptF (readO sh p) r ∧ h = [] ∧ n = 0) := by
  obtain ⟨N, hN⟩ : ∃ N : Int, N = sh.length := ⟨_, rfl⟩
  have hzsz : (z.size : Int) = N := by rw [hz, bol_size, hN]
  refine callF_of_body tok Tryd.func55 (by kernel_rfl) rfl rfl rfl ?_; conv => cbv
  refine Sum.mk fun zs hzs2 => ?_
  have hzs2 : zs = N := (show zs = (z.size : Int) from hzs2).trans hzsz
  conv => cbv
  refine Br.mk (fun g => ?_) (fun g => ?_)
  · have g : ¬ k = zs := g
    have e : readO sh p = none := by rw [readO, if_neg (by omega)]
    conv => cbv
    refine RetF.mk [.agg [.p (.int .i64 (.sym 0)), .p (.int .i64 (.sym 0)), .p (.int .i64 (.sym 0))], .p (.bool false)] [] 0 (Re.at [] []) rfl ⟨.no e, rfl, rfl⟩
  have g : k = zs := Classical.byContradiction g
  have hro : readO sh p = (readP sh p .zero).map (·.1) := by rw [readO, if_pos (by omega)]
  conv => cbv
  refine LoopF.mk (fun kk s => ∃ (pos a b n : Int) (ok : Bool), s = ⟨.p (.str fun _ => z) :: .p (.vsl (.sym k) true L) :: (undefs 2 ++ .ptr 0 (.lit 0) :: .p (.bool false) :: .ptr 1 (.lit 0) :: .p (.bool ok) :: (undefs 9 ++ .p (.str fun _ => z) :: .ptr 2 (.lit 0) :: undefs 64)), [(2, .iter (fun _ => z) (.sym pos)), (1, .pure false [.int .i64 (.sym a), .int .i64 (.sym b), .int .i64 (.sym n)]), (0, .pure false [.int .i64 (.sym 0), .int .i64 (.sym 0), .int .i64 (.sym 0)])], 3⟩ ∧ (ok = true → readP sh p .zero = readP (sh.drop pos.toNat) (p.drop pos.toNat) ⟨a, b, n⟩) ∧ (ok = false → readP sh p .zero = none) ∧ 0 ≤ pos ∧ pos ≤ N ∧ kk = (N - pos).toNat) N.toNat _
    (Re.at [(0, 0), (1, 1), (2, 2)] []) ⟨0, 0, 0, 0, true, rfl, fun _ => rfl, (fun h => by cases h), by omega, by omega, by omega⟩ ?_
  rintro kk s ⟨pos, a, b, n, ok, rfl, hok, hno, h0, h1, hkk⟩
  by_cases hend : pos = N
  · cases ok with
    | true =>
      have e : readO sh p = some ⟨a, b, n⟩ := by
        rw [hro, hok rfl, List.drop_of_length_le (by omega), List.drop_of_length_le (by omega)]; rfl
      conv => cbv
      refine NextS.over (by show (z.size : Int) ≤ pos; omega) ?_
      conv => cbv
      refine RetF.mk [.agg [.p (.int .i64 (.sym a)), .p (.int .i64 (.sym b)), .p (.int .i64 (.sym n))], .p (.bool true)] [] 0 (Re.at [] []) rfl ⟨.yes a b n e, rfl, rfl⟩
    | false =>
      have e : readO sh p = none := by rw [hro, hno rfl]; rfl
      conv => cbv
      refine NextS.over (by show (z.size : Int) ≤ pos; omega) ?_
      conv => cbv
      refine RetF.mk [.agg [.p (.int .i64 (.sym 0)), .p (.int .i64 (.sym 0)), .p (.int .i64 (.sym 0))], .p (.bool false)] [] 0 (Re.at [] []) rfl ⟨.no e, rfl, rfl⟩
  · obtain ⟨c, hc⟩ : ∃ c, sh[pos.toNat]? = some c := ⟨_, List.getElem?_eq_getElem (by omega)⟩
    obtain ⟨t, ht⟩ : ∃ t, p[pos.toNat]? = some t := ⟨_, List.getElem?_eq_getElem (by omega)⟩
    have hd := dec_at sh hsh pos.toNat c hc
    have hcl := hsh c (List.mem_of_getElem? hc)
    have htm := hp t (List.mem_of_getElem? ht)
    have hds : sh.drop pos.toNat = c :: sh.drop (pos.toNat + 1) := by
      rw [List.drop_eq_getElem_cons (by omega)]; congr 1
      exact (List.getElem?_eq_some_iff.1 hc).2
    have hdp : p.drop pos.toNat = t :: p.drop (pos.toNat + 1) := by
      rw [List.drop_eq_getElem_cons (by omega)]; congr 1
      exact (List.getElem?_eq_some_iff.1 ht).2
    have hla : L[pos.toNat]? = some (.str fun _ => bytesOfL t) := by rw [hL]; exact spv_get ht
    obtain ⟨tz, htz⟩ : ∃ tz, tz = bytesOfL t := ⟨_, rfl⟩
    rw [← htz] at hla
    obtain ⟨k', rfl⟩ : ∃ k', kk = k' + 1 := ⟨kk - 1, by omega⟩
    have hrd : readP (sh.drop pos.toNat) (p.drop pos.toNat) ⟨a, b, n⟩ = match partV c t with
      | none => none
      | some v => readP (sh.drop (pos.toNat + 1)) (p.drop (pos.toNat + 1)) ((⟨a, b, n⟩ : F3).set c v) := by
      rw [hds, hdp, readP]
      cases partV c t <;> rfl
    cases ok with
    | true =>
      conv => cbv
      refine NextS.more (by show pos < (z.size : Int); omega) ?_
      intro r p' hr hp2
      have hr : r = (c.toNat : Int) := by
        have : r = ((Utf8.decode z pos.toNat).1 : Int) := hr
        rw [this, hz, bytesOfL, hd]
      have hp2 : p' = pos + 1 := by
        have : p' = pos + ((Utf8.decode z pos.toNat).2 : Int) := hp2
        rw [this, hz, bytesOfL, hd]; rfl
      have hpn : p'.toNat = pos.toNat + 1 := by omega
      rw [← hpn] at hrd
      conv => cbv
      refine Br.mk (fun g2 => ?_) (fun g2 => ?_)
      · have g2 : r = 97 := g2
        have hcc : c = 97 := UInt8.toNat_inj.1 (by show c.toNat = 97; omega)
        have hpv : partV c t = regT t := by rw [hcc, partV, if_pos (by decide)]
        conv => cbv
        refine Need.mk ⟨by show (0 : Int) ≤ pos; omega, by show pos < k; omega⟩ ?_
        conv => cbv
        refine Cell.at pos pos.toNat hla (by simp [I.val]) rfl ?_
        conv => cbv
        refine callF_frame (register_lx t tz htz htm.1) [] rfl trivial rfl rfl (fun r2 h' n' hrr => ?_)
        obtain ⟨e1, e2, e3⟩ := hrr
        subst e2 e3
        cases e1 with
        | yes v hv =>
          have hpart : partV c t = some v := hpv.trans hv
          have hset : (⟨a, b, n⟩ : F3).set c v = ⟨v, b, n⟩ := by rw [hcc]; rfl
          rw [hpart] at hrd
          have hrd := hrd.trans (congrArg (readP _ _) hset)
          conv => cbv
          refine Again.mk k' _ (Nat.lt_succ_self _) (Re.at [(0, 0), (1, 1), (2, 2)] []) ⟨p', v, b, n, true, rfl, (fun _ => (hok rfl).trans hrd), (fun h => by cases h), by omega, by omega, by omega⟩
        | no v hv =>
          have hpart : partV c t = none := hpv.trans hv
          rw [hpart] at hrd
          conv => cbv
          refine Again.mk k' _ (Nat.lt_succ_self _) (Re.at [(0, 0), (1, 1), (2, 2)] []) ⟨p', v, b, n, false, rfl, (fun h => by cases h), (fun _ => (hok rfl).trans hrd), by omega, by omega, by omega⟩
      have g2 : ¬ r = 97 := g2
      have hc97 : ¬ c = 97 := by rintro rfl; exact g2 (by rw [hr]; rfl)
      conv => cbv
      refine Br.mk (fun g2 => ?_) (fun g2 => ?_)
      · have g2 : r = 98 := g2
        have hcc : c = 98 := UInt8.toNat_inj.1 (by show c.toNat = 98; omega)
        have hpv : partV c t = regT t := by rw [hcc, partV, if_pos (by decide)]
        conv => cbv
        refine Need.mk ⟨by show (0 : Int) ≤ pos; omega, by show pos < k; omega⟩ ?_
        conv => cbv
        refine Cell.at pos pos.toNat hla (by simp [I.val]) rfl ?_
        conv => cbv
        refine callF_frame (register_lx t tz htz htm.1) [] rfl trivial rfl rfl (fun r2 h' n' hrr => ?_)
        obtain ⟨e1, e2, e3⟩ := hrr
        subst e2 e3
        cases e1 with
        | yes v hv =>
          have hpart : partV c t = some v := hpv.trans hv
          have hset : (⟨a, b, n⟩ : F3).set c v = ⟨a, v, n⟩ := by rw [hcc]; rfl
          rw [hpart] at hrd
          have hrd := hrd.trans (congrArg (readP _ _) hset)
          conv => cbv
          refine Again.mk k' _ (Nat.lt_succ_self _) (Re.at [(0, 0), (1, 1), (2, 2)] []) ⟨p', a, v, n, true, rfl, (fun _ => (hok rfl).trans hrd), (fun h => by cases h), by omega, by omega, by omega⟩
        | no v hv =>
          have hpart : partV c t = none := hpv.trans hv
          rw [hpart] at hrd
          conv => cbv
          refine Again.mk k' _ (Nat.lt_succ_self _) (Re.at [(0, 0), (1, 1), (2, 2)] []) ⟨p', a, v, n, false, rfl, (fun h => by cases h), (fun _ => (hok rfl).trans hrd), by omega, by omega, by omega⟩
      have g2 : ¬ r = 98 := g2
      have hc98 : ¬ c = 98 := by rintro rfl; exact g2 (by rw [hr]; rfl)
      conv => cbv
      refine Br.mk (fun g2 => ?_) (fun g2 => ?_)
      · have g2 : r = 100 := g2
        have hcc : c = 100 := UInt8.toNat_inj.1 (by show c.toNat = 100; omega)
        have hpv : partV c t = if t.length ≠ 1 then none else numO t := by rw [hcc, partV, if_neg (by decide)]; by_cases h1 : t.length ≠ 1 <;> simp [h1]
        conv => cbv
        refine Need.mk ⟨by show (0 : Int) ≤ pos; omega, by show pos < k; omega⟩ ?_
        conv => cbv
        refine Cell.at pos pos.toNat hla (by simp [I.val]) rfl ?_
        conv => cbv
        refine callF_frame (number_lx t tz htz htm.1 (by have := htm.2; omega)) [] rfl trivial rfl rfl (fun r2 h' n' hrr => ?_)
        obtain ⟨e1, e2, e3⟩ := hrr
        subst e2 e3
        cases e1 with
        | yes v hv =>
          conv => cbv
          refine Need.mk ⟨by show (0 : Int) ≤ pos; omega, by show pos < k; omega⟩ ?_
          conv => cbv
          refine Cell.at pos pos.toNat hla (by simp [I.val]) rfl ?_
          conv => cbv
          refine Sum.mk fun ts hts => ?_
          have hts : ts = (t.length : Int) := by
            have : ts = (tz.size : Int) := hts
            rw [this, htz, bol_size]
          conv => cbv
          refine Br.mk (fun g9 => ?_) (fun g9 => ?_)
          · have g9 : ts = 1 := g9
            have hpart : partV c t = some v := by rw [hpv, if_neg (by omega), hv]
            have hset : (⟨a, b, n⟩ : F3).set c v = ⟨a, b, v⟩ := by rw [hcc]; rfl
            rw [hpart] at hrd
            have hrd := hrd.trans (congrArg (readP _ _) hset)
            conv => cbv
            refine Again.mk k' _ (Nat.lt_succ_self _) (Re.at [(0, 0), (1, 1), (2, 2)] []) ⟨p', a, b, v, true, rfl, (fun _ => (hok rfl).trans hrd), (fun h => by cases h), by omega, by omega, by omega⟩
          · have g9 : ¬ ts = 1 := g9
            have hpart : partV c t = none := by rw [hpv, if_pos (by omega)]
            rw [hpart] at hrd
            conv => cbv
            refine Again.mk k' _ (Nat.lt_succ_self _) (Re.at [(0, 0), (1, 1), (2, 2)] []) ⟨p', a, b, v, false, rfl, (fun h => by cases h), (fun _ => (hok rfl).trans hrd), by omega, by omega, by omega⟩
        | no v hv =>
          have hpart : partV c t = none := by rw [hpv, hv]; split <;> rfl
          rw [hpart] at hrd
          conv => cbv
          refine Again.mk k' _ (Nat.lt_succ_self _) (Re.at [(0, 0), (1, 1), (2, 2)] []) ⟨p', a, b, v, false, rfl, (fun h => by cases h), (fun _ => (hok rfl).trans hrd), by omega, by omega, by omega⟩
      have g2 : ¬ r = 100 := g2
      have hc100 : ¬ c = 100 := by rintro rfl; exact g2 (by rw [hr]; rfl)
      conv => cbv
      have hpv : partV c t = numO t := by rw [partV, if_neg (by rintro (h | h) <;> contradiction), if_neg (fun h => hc100 h.1)]
      conv => cbv
      refine Need.mk ⟨by show (0 : Int) ≤ pos; omega, by show pos < k; omega⟩ ?_
      conv => cbv
      refine Cell.at pos pos.toNat hla (by simp [I.val]) rfl ?_
      conv => cbv
      refine callF_frame (number_lx t tz htz htm.1 (by have := htm.2; omega)) [] rfl trivial rfl rfl (fun r2 h' n' hrr => ?_)
      obtain ⟨e1, e2, e3⟩ := hrr
      subst e2 e3
      cases e1 with
      | yes v hv =>
        have hpart : partV c t = some v := hpv.trans hv
        have hset : (⟨a, b, n⟩ : F3).set c v = ⟨a, b, v⟩ := by unfold F3.set; rw [if_neg hc97, if_neg hc98]
        rw [hpart] at hrd
        have hrd := hrd.trans (congrArg (readP _ _) hset)
        conv => cbv
        refine Again.mk k' _ (Nat.lt_succ_self _) (Re.at [(0, 0), (1, 1), (2, 2)] []) ⟨p', a, b, v, true, rfl, (fun _ => (hok rfl).trans hrd), (fun h => by cases h), by omega, by omega, by omega⟩
      | no v hv =>
        have hpart : partV c t = none := hpv.trans hv
        rw [hpart] at hrd
        conv => cbv
        refine Again.mk k' _ (Nat.lt_succ_self _) (Re.at [(0, 0), (1, 1), (2, 2)] []) ⟨p', a, b, v, false, rfl, (fun h => by cases h), (fun _ => (hok rfl).trans hrd), by omega, by omega, by omega⟩
    | false =>
      conv => cbv
      refine NextS.more (by show pos < (z.size : Int); omega) ?_
      intro r p' hr hp2
      have hr : r = (c.toNat : Int) := by
        have : r = ((Utf8.decode z pos.toNat).1 : Int) := hr
        rw [this, hz, bytesOfL, hd]
      have hp2 : p' = pos + 1 := by
        have : p' = pos + ((Utf8.decode z pos.toNat).2 : Int) := hp2
        rw [this, hz, bytesOfL, hd]; rfl
      have hpn : p'.toNat = pos.toNat + 1 := by omega
      rw [← hpn] at hrd
      conv => cbv
      refine Br.mk (fun g2 => ?_) (fun g2 => ?_)
      · have g2 : r = 97 := g2
        have hcc : c = 97 := UInt8.toNat_inj.1 (by show c.toNat = 97; omega)
        have hpv : partV c t = regT t := by rw [hcc, partV, if_pos (by decide)]
        conv => cbv
        refine Need.mk ⟨by show (0 : Int) ≤ pos; omega, by show pos < k; omega⟩ ?_
        conv => cbv
        refine Cell.at pos pos.toNat hla (by simp [I.val]) rfl ?_
        conv => cbv
        refine callF_frame (register_lx t tz htz htm.1) [] rfl trivial rfl rfl (fun r2 h' n' hrr => ?_)
        obtain ⟨e1, e2, e3⟩ := hrr
        subst e2 e3
        cases e1 with
        | yes v hv =>
          have hpart : partV c t = some v := hpv.trans hv
          conv => cbv
          refine Again.mk k' _ (Nat.lt_succ_self _) (Re.at [(0, 0), (1, 1), (2, 2)] []) ⟨p', v, b, n, false, rfl, (fun h => by cases h), (fun _ => hno rfl), by omega, by omega, by omega⟩
        | no v hv =>
          have hpart : partV c t = none := hpv.trans hv
          rw [hpart] at hrd
          conv => cbv
          refine Again.mk k' _ (Nat.lt_succ_self _) (Re.at [(0, 0), (1, 1), (2, 2)] []) ⟨p', v, b, n, false, rfl, (fun h => by cases h), (fun _ => hno rfl), by omega, by omega, by omega⟩
      have g2 : ¬ r = 97 := g2
      have hc97 : ¬ c = 97 := by rintro rfl; exact g2 (by rw [hr]; rfl)
      conv => cbv
      refine Br.mk (fun g2 => ?_) (fun g2 => ?_)
      · have g2 : r = 98 := g2
        have hcc : c = 98 := UInt8.toNat_inj.1 (by show c.toNat = 98; omega)
        have hpv : partV c t = regT t := by rw [hcc, partV, if_pos (by decide)]
        conv => cbv
        refine Need.mk ⟨by show (0 : Int) ≤ pos; omega, by show pos < k; omega⟩ ?_
        conv => cbv
        refine Cell.at pos pos.toNat hla (by simp [I.val]) rfl ?_
        conv => cbv
        refine callF_frame (register_lx t tz htz htm.1) [] rfl trivial rfl rfl (fun r2 h' n' hrr => ?_)
        obtain ⟨e1, e2, e3⟩ := hrr
        subst e2 e3
        cases e1 with
        | yes v hv =>
          have hpart : partV c t = some v := hpv.trans hv
          conv => cbv
          refine Again.mk k' _ (Nat.lt_succ_self _) (Re.at [(0, 0), (1, 1), (2, 2)] []) ⟨p', a, v, n, false, rfl, (fun h => by cases h), (fun _ => hno rfl), by omega, by omega, by omega⟩
        | no v hv =>
          have hpart : partV c t = none := hpv.trans hv
          rw [hpart] at hrd
          conv => cbv
          refine Again.mk k' _ (Nat.lt_succ_self _) (Re.at [(0, 0), (1, 1), (2, 2)] []) ⟨p', a, v, n, false, rfl, (fun h => by cases h), (fun _ => hno rfl), by omega, by omega, by omega⟩
      have g2 : ¬ r = 98 := g2
      have hc98 : ¬ c = 98 := by rintro rfl; exact g2 (by rw [hr]; rfl)
      conv => cbv
      refine Br.mk (fun g2 => ?_) (fun g2 => ?_)
      · have g2 : r = 100 := g2
        have hcc : c = 100 := UInt8.toNat_inj.1 (by show c.toNat = 100; omega)
        have hpv : partV c t = if t.length ≠ 1 then none else numO t := by rw [hcc, partV, if_neg (by decide)]; by_cases h1 : t.length ≠ 1 <;> simp [h1]
        conv => cbv
        refine Need.mk ⟨by show (0 : Int) ≤ pos; omega, by show pos < k; omega⟩ ?_
        conv => cbv
        refine Cell.at pos pos.toNat hla (by simp [I.val]) rfl ?_
        conv => cbv
        refine callF_frame (number_lx t tz htz htm.1 (by have := htm.2; omega)) [] rfl trivial rfl rfl (fun r2 h' n' hrr => ?_)
        obtain ⟨e1, e2, e3⟩ := hrr
        subst e2 e3
        cases e1 with
        | yes v hv =>
          conv => cbv
          refine Need.mk ⟨by show (0 : Int) ≤ pos; omega, by show pos < k; omega⟩ ?_
          conv => cbv
          refine Cell.at pos pos.toNat hla (by simp [I.val]) rfl ?_
          conv => cbv
          refine Sum.mk fun ts hts => ?_
          have hts : ts = (t.length : Int) := by
            have : ts = (tz.size : Int) := hts
            rw [this, htz, bol_size]
          conv => cbv
          refine Br.mk (fun g9 => ?_) (fun g9 => ?_)
          · have g9 : ts = 1 := g9
            have hpart : partV c t = some v := by rw [hpv, if_neg (by omega), hv]
            conv => cbv
            refine Again.mk k' _ (Nat.lt_succ_self _) (Re.at [(0, 0), (1, 1), (2, 2)] []) ⟨p', a, b, v, false, rfl, (fun h => by cases h), (fun _ => hno rfl), by omega, by omega, by omega⟩
          · have g9 : ¬ ts = 1 := g9
            have hpart : partV c t = none := by rw [hpv, if_pos (by omega)]
            rw [hpart] at hrd
            conv => cbv
            refine Again.mk k' _ (Nat.lt_succ_self _) (Re.at [(0, 0), (1, 1), (2, 2)] []) ⟨p', a, b, v, false, rfl, (fun h => by cases h), (fun _ => hno rfl), by omega, by omega, by omega⟩
        | no v hv =>
          have hpart : partV c t = none := by rw [hpv, hv]; split <;> rfl
          rw [hpart] at hrd
          conv => cbv
          refine Again.mk k' _ (Nat.lt_succ_self _) (Re.at [(0, 0), (1, 1), (2, 2)] []) ⟨p', a, b, v, false, rfl, (fun h => by cases h), (fun _ => hno rfl), by omega, by omega, by omega⟩
      have g2 : ¬ r = 100 := g2
      have hc100 : ¬ c = 100 := by rintro rfl; exact g2 (by rw [hr]; rfl)
      conv => cbv
      have hpv : partV c t = numO t := by rw [partV, if_neg (by rintro (h | h) <;> contradiction), if_neg (fun h => hc100 h.1)]
      conv => cbv
      refine Need.mk ⟨by show (0 : Int) ≤ pos; omega, by show pos < k; omega⟩ ?_
      conv => cbv
      refine Cell.at pos pos.toNat hla (by simp [I.val]) rfl ?_
      conv => cbv
      refine callF_frame (number_lx t tz htz htm.1 (by have := htm.2; omega)) [] rfl trivial rfl rfl (fun r2 h' n' hrr => ?_)
      obtain ⟨e1, e2, e3⟩ := hrr
      subst e2 e3
      cases e1 with
      | yes v hv =>
        have hpart : partV c t = some v := hpv.trans hv
        conv => cbv
        refine Again.mk k' _ (Nat.lt_succ_self _) (Re.at [(0, 0), (1, 1), (2, 2)] []) ⟨p', a, b, v, false, rfl, (fun h => by cases h), (fun _ => hno rfl), by omega, by omega, by omega⟩
      | no v hv =>
        have hpart : partV c t = none := hpv.trans hv
        rw [hpart] at hrd
        conv => cbv
        refine Again.mk k' _ (Nat.lt_succ_self _) (Re.at [(0, 0), (1, 1), (2, 2)] []) ⟨p', a, b, v, false, rfl, (fun h => by cases h), (fun _ => hno rfl), by omega, by omega, by omega⟩
end Go.Proofs.YtfjdifeofnpcnaaDoor
/-
  Layer 2: cases.
-/
namespace Go.Proofs.YtfjdifeofnpcnaaDoor

open Go Go.LX
set_option maxRecDepth 100000
set_option linter.unusedVariables false
set_option linter.unusedSimpArgs false

/-- Cases, as cells. -/
def caV (c : Cs) : List PV := [.int .i64 (.sym c.k), .int .i64 (.sym c.ch), .int .i64 (.sym c.reg), .int .i64 (.sym c.to)]
def csV (l : List Cs) : List PV := l.flatMap caV
theorem csV_length (l : List Cs) : (csV l).length = l.length * 4 := by
  induction l with
  | nil => rfl
  | cons c l ih => rw [csV, List.flatMap_cons, List.length_append]; show 4 + (csV l).length = _; rw [ih, List.length_cons]; omega
theorem csV_snoc (l : List Cs) (c : Cs) : csV (l ++ [c]) = csV l ++ caV c := by simp [csV]
/-- Cases, and whether there are. -/
inductive OptC (o : Option (List Cs)) : LV → Prop
  | yes (cs : List Cs) (k : Int) (L : List PV) (h : o = some cs) (hk : k = cs.length) (hL : L = csV cs) : OptC o (.tup [.p (.vsl (.sym k) true L), .p (.bool true)])
  | no (k : Int) (L : List PV) (h : o = none) : OptC o (.tup [.p (.vsl (.sym k) true L), .p (.bool false)])
theorem spv_drop (l : List (List UInt8)) (n : Nat) : (spv l).drop n = spv (l.drop n) := by rw [spv, spv, List.map_drop]
theorem spv_take (l : List (List UInt8)) (n : Nat) : (spv l).take n = spv (l.take n) := by rw [spv, spv, List.map_take]
theorem readP_take : ∀ (ks : List UInt8) (p : List (List UInt8)) (f : F3), ks.length ≤ p.length → readP ks p f = (readP ks (p.take ks.length) f).map fun x => (x.1, p.drop ks.length)
  | [], p, f, _ => by simp [readP]
  | k :: ks, [], f, h => by simp at h
  | k :: ks, t :: p, f, h => by
    rw [List.length_cons, List.length_cons] at h
    rw [List.length_cons, List.take_succ_cons, List.drop_succ_cons, readP, readP]
    cases partV k t with
    | none => rfl
    | some v => exact readP_take ks p _ (by omega)
theorem readP_O (ks : List UInt8) (q : List (List UInt8)) (h : ks.length ≤ q.length) : readP ks q .zero = (readO ks (q.take ks.length)).map fun f => (f, q.drop ks.length) := by
  rw [readP_take ks q _ h, readO, if_pos (by rw [List.length_take]; omega)]
  cases readP ks (q.take ks.length) .zero <;> rfl
theorem readP_short (ks : List UInt8) (q : List (List UInt8)) (h : q.length < ks.length) : readP ks q .zero = none := by
  cases e : readP ks q .zero with
  | none => rfl
  | some x => have := readP_len _ _ _ _ _ e; omega
theorem cshape_low (k : Int) : Low (cshape k) ∧ 1 ≤ (cshape k).length ∧ (cshape k).length ≤ 3 := by unfold cshape Low; split <;> decide
set_option maxHeartbeats 8000000 in
theorem decodeCases_lx (p0 : List (List UInt8)) (k0 : Int) (L0 : List PV) (f0 : Nat) (hL0 : L0 = spv p0) (hk0 : k0 = p0.length) (hf0 : p0.length < f0) (hlen : p0.length ≤ 2000) (hp0 : ∀ t ∈ p0, Low t ∧ t.length ≤ 2000) :
    CallF (fun _ => Tryd.prog) 54 [.p (.vsl (.sym k0) true L0)] [] 0 (fun r h n => OptC (casesP f0 p0 []) r ∧ h = [] ∧ n = 0) := by
  refine callF_of_body tok Tryd.func54 (by kernel_rfl) rfl rfl rfl ?_; conv => cbv
  refine LoopF.mk (fun kk s => ∃ (k j : Int) (L M : List PV) (p : List (List UInt8)) (cs : List Cs), s = ⟨.p (.vsl (.sym k) true L) :: (undefs 3 ++ .sl 0 38 4 (.lit 0) (.sym j) :: undefs 63), [(0, .pure true M)], 1⟩ ∧ L = spv p ∧ k = p.length ∧ (∀ t ∈ p, Low t ∧ t.length ≤ 2000) ∧ M = csV cs ∧ j = cs.length ∧ 0 ≤ j ∧ j + k ≤ 2000 ∧ p.length < kk ∧ casesP f0 p0 [] = casesP kk p cs) f0 _
    (Re.at [] [0]) ⟨k0, 0, L0, [], p0, [], rfl, hL0, hk0, hp0, rfl, rfl, by omega, by omega, hf0, rfl⟩ ?_
  rintro kk s ⟨k, j, L, M, p, cs, rfl, hL, hk, hp, hM, hj, hj0, hjk, hkk, hc⟩
  obtain ⟨k', rfl⟩ : ∃ k', kk = k' + 1 := ⟨kk - 1, by omega⟩
  conv => cbv
  refine Br.mk (fun g => ?_) (fun g => ?_)
  · have g : 0 < k := g
    obtain ⟨t, q, hpq⟩ : ∃ t q, p = t :: q := by
      cases p with
      | nil => rw [hk] at g; exact absurd g (by decide)
      | cons t q => exact ⟨t, q, rfl⟩
    have hcc : casesP (k' + 1) p cs = if caseV t = 0 then none else match readP (cshape (caseV t)) q .zero with
      | none => none
      | some (f, q') => if caseV t = 3 ∧ q'.isEmpty = false then none else casesP k' q' (cs ++ [⟨caseV t, f.a, f.b, f.n⟩]) := by rw [hpq, casesP]; rfl
    conv => cbv
    refine Need.mk ⟨by show (0 : Int) ≤ 0; omega, by show (0 : Int) < k; omega⟩ ?_
    conv => cbv
    obtain ⟨tz, htz⟩ : ∃ tz, tz = bytesOfL t := ⟨_, rfl⟩
    have hla : L[0]? = some (.str fun _ => tz) := by rw [htz, hL, hpq]; rfl
    refine Cell.at 0 0 hla rfl rfl ?_
    conv => cbv
    obtain ⟨v, hv⟩ : ∃ v, v = caseV t := ⟨_, rfl⟩
    have htm := hp t (by rw [hpq]; simp)
    rw [← hv] at hcc
    refine callF_frame (caseOf_lx t tz v htz hv) [] rfl trivial rfl rfl (fun r2 h' n' ⟨e1, e2, e3⟩ => ?_)
    subst e1 e2 e3
    conv => cbv
    refine callF_frame (caseShape_lx v) [] rfl trivial rfl rfl (fun r2 h' n' hrr => ?_)
    obtain ⟨⟨y, e1, hy⟩, e2, e3⟩ := hrr
    subst e1 e2 e3
    conv => cbv
    refine Br.mk (fun g2 => ?_) (fun g2 => ?_)
    · have g2 : v = 0 := g2
      have e : casesP f0 p0 [] = none := by rw [hc, hcc, if_pos g2]
      conv => cbv
      refine RetF.mk [.p (.vsl (.sym 0) true []), .p (.bool false)] [] 0 (Re.at [] []) rfl ⟨.no 0 [] e, rfl, rfl⟩
    have g2 : ¬ v = 0 := g2
    rw [if_neg g2] at hcc
    have hcl := cshape_low v
    obtain ⟨m, hm⟩ : ∃ m : Int, m = (cshape v).length := ⟨_, rfl⟩
    have hkq : k = q.length + 1 := by rw [hk, hpq, List.length_cons]; omega
    conv => cbv
    refine Sum.mk fun ys hys => ?_
    have hys : ys = m := by
      have : ys = (y.size : Int) := hys
      rw [this, hy, bol_size, hm]
    conv => cbv
    refine Br.mk (fun g3 => ?_) (fun g3 => ?_)
    · have g3 : k ≤ ys := g3
      have e : casesP f0 p0 [] = none := by rw [hc, hcc, readP_short _ _ (by omega)]
      conv => cbv
      refine RetF.mk [.p (.vsl (.sym 0) true []), .p (.bool false)] [] 0 (Re.at [] []) rfl ⟨.no 0 [] e, rfl, rfl⟩
    have g3 : ¬ k ≤ ys := g3
    rw [readP_O _ _ (by omega)] at hcc
    conv => cbv
    refine Sum.mk fun ys2 hys2 => ?_
    have hys2 : ys2 = m := by
      have : ys2 = (y.size : Int) := hys2
      rw [this, hy, bol_size, hm]
    conv => cbv
    refine Fit.mk (by show (-9223372036854775808 : Int) ≤ 1 + ys2; omega) (by show 1 + ys2 ≤ 9223372036854775807; omega) fun h1 hh1 => ?_
    have hh1 : h1 = 1 + ys2 := hh1
    conv => cbv
    refine Need.mk ⟨by show (0 : Int) ≤ 1; omega, by show 1 ≤ h1; omega, by show h1 ≤ k; omega⟩ ?_
    conv => cbv
    refine Upd.mk fun L1 hL1 => ?_
    have hL1 : L1 = spv (q.take (cshape v).length) := by
      have e : L1 = (L.drop ((1 : Int).toNat * 1)).take ((h1 - 1).toNat * 1) := hL1
      rw [e, hL, hpq, spv_drop, spv_take, show (h1 - 1).toNat * 1 = (cshape v).length by omega]; rfl
    conv => cbv
    refine Sum.mk fun z1 hz1 => ?_
    have hz1 : z1 = h1 - 1 := hz1
    have hz2 : z1 = ((q.take (cshape v).length).length : Int) := by rw [List.length_take]; omega
    conv => cbv
    refine callF_frame (readFields_lx (cshape v) y (q.take (cshape v).length) z1 L1 hy hcl.1 (by omega) hL1 hz2 (fun t ht => hp t (by rw [hpq]; exact List.mem_cons_of_mem _ (List.mem_of_mem_take ht)))) [] rfl trivial rfl rfl (fun r2 h' n' hrr => ?_)
    obtain ⟨e1, e2, e3⟩ := hrr
    subst e2 e3
    cases e1 with
    | no hro =>
      have e : casesP f0 p0 [] = none := by rw [hc, hcc, hro]; rfl
      conv => cbv
      refine Sum.mk fun ys3 hys3 => ?_
      have hys3 : ys3 = m := by
        have : ys3 = (y.size : Int) := hys3
        rw [this, hy, bol_size, hm]
      conv => cbv
      refine Fit.mk (by show (-9223372036854775808 : Int) ≤ 1 + ys3; omega) (by show 1 + ys3 ≤ 9223372036854775807; omega) fun h2 hh2 => ?_
      have hh2 : h2 = 1 + ys3 := hh2
      conv => cbv
      refine Need.mk ⟨by show (0 : Int) ≤ h2; omega, by show h2 ≤ k; omega⟩ ?_
      conv => cbv
      refine Upd.mk fun L2 hL2 => ?_
      have hL2 : L2 = spv (q.drop (cshape v).length) := by
        have e : L2 = L.drop (h2.toNat * 1) := hL2
        rw [e, hL, hpq, spv_drop, show h2.toNat * 1 = (cshape v).length + 1 by omega]; rfl
      conv => cbv
      refine Sum.mk fun z3 hz3 => ?_
      have hz3 : z3 = k - h2 := hz3
      have hz4 : z3 = ((q.drop (cshape v).length).length : Int) := by rw [List.length_drop]; omega
      conv => cbv
      refine RetF.mk [.p (.vsl (.sym 0) true []), .p (.bool false)] [] 0 (Re.at [] []) rfl ⟨.no 0 [] e, rfl, rfl⟩
    | yes a b n hro =>
      rw [hro] at hcc
      have hcc : casesP (k' + 1) p cs = if v = 3 ∧ (q.drop (cshape v).length).isEmpty = false then none else casesP k' (q.drop (cshape v).length) (cs ++ [⟨v, a, b, n⟩]) := hcc
      conv => cbv
      refine Sum.mk fun ys3 hys3 => ?_
      have hys3 : ys3 = m := by
        have : ys3 = (y.size : Int) := hys3
        rw [this, hy, bol_size, hm]
      conv => cbv
      refine Fit.mk (by show (-9223372036854775808 : Int) ≤ 1 + ys3; omega) (by show 1 + ys3 ≤ 9223372036854775807; omega) fun h2 hh2 => ?_
      have hh2 : h2 = 1 + ys3 := hh2
      conv => cbv
      refine Need.mk ⟨by show (0 : Int) ≤ h2; omega, by show h2 ≤ k; omega⟩ ?_
      conv => cbv
      refine Upd.mk fun L2 hL2 => ?_
      have hL2 : L2 = spv (q.drop (cshape v).length) := by
        have e : L2 = L.drop (h2.toNat * 1) := hL2
        rw [e, hL, hpq, spv_drop, show h2.toNat * 1 = (cshape v).length + 1 by omega]; rfl
      conv => cbv
      refine Sum.mk fun z3 hz3 => ?_
      have hz3 : z3 = k - h2 := hz3
      have hz4 : z3 = ((q.drop (cshape v).length).length : Int) := by rw [List.length_drop]; omega
      conv => cbv
      refine Br.mk (fun g6 => ?_) (fun g6 => ?_)
      · have g6 : v = 3 := g6
        conv => cbv
        refine Br.mk (fun g7 => ?_) (fun g7 => ?_)
        · have g7 : 0 < z3 := g7
          have hne : (q.drop (cshape v).length).isEmpty = false := by
            cases e9 : q.drop (cshape v).length with
            | nil => rw [hz4, e9] at g7; exact absurd g7 (by decide)
            | cons t q => rfl
          have e : casesP f0 p0 [] = none := by rw [hc, hcc, if_pos ⟨g6, hne⟩]
          conv => cbv
          refine RetF.mk [.p (.vsl (.sym 0) true []), .p (.bool false)] [] 0 (Re.at [] []) rfl ⟨.no 0 [] e, rfl, rfl⟩
        · have g7 : ¬ 0 < z3 := g7
          have hne : (q.drop (cshape v).length).isEmpty = true := by
            cases e9 : q.drop (cshape v).length with
            | nil => rfl
            | cons t q => rw [hz4, e9, List.length_cons] at g7; omega
          have hc2 : casesP f0 p0 [] = casesP k' (q.drop (cshape v).length) (cs ++ [⟨v, a, b, n⟩]) := by rw [hc, hcc, if_neg (by rw [hne]; simp)]
          conv => cbv
          refine Room.new rfl ?_
          conv => cbv
          refine Room.new ⟨?_, ?_, ?_⟩ ?_
          · show (M.length : Int) = j * 4; rw [hM, csV_length, hj]; omega
          · show (j + 1) * 32 ≤ 140737488355328; omega
          · show j + 1 ≤ 9223372036854775807; omega
          conv => cbv
          refine Upd.mk fun M2 hM2 => ?_
          have hM2 : M2 = csV (cs ++ [⟨v, a, b, n⟩]) := by rw [csV_snoc, ← hM]; exact hM2
          conv => cbv
          refine Sum.mk fun j2 hj2 => ?_
          have hj2 : j2 = j + 1 := hj2
          have hj3 : j2 = ((cs ++ [⟨v, a, b, n⟩] : List Cs).length : Int) := by rw [List.length_append, hj2, hj]; rfl
          conv => cbv
          refine Again.mk k' _ (Nat.lt_succ_self _) (Re.at [(3, 0)] []) ⟨z3, j2, L2, M2, q.drop (cshape v).length, cs ++ [⟨v, a, b, n⟩], rfl, hL2, hz4, (fun t ht => hp t (by rw [hpq]; exact List.mem_cons_of_mem _ (List.mem_of_mem_drop ht))), hM2, hj3, by omega, by omega, by rw [List.length_drop]; rw [hpq, List.length_cons] at hkk; omega, hc2⟩
      · have g6 : ¬ v = 3 := g6
        have hc2 : casesP f0 p0 [] = casesP k' (q.drop (cshape v).length) (cs ++ [⟨v, a, b, n⟩]) := by rw [hc, hcc, if_neg (fun h => g6 h.1)]
        conv => cbv
        refine Room.new rfl ?_
        conv => cbv
        refine Room.new ⟨?_, ?_, ?_⟩ ?_
        · show (M.length : Int) = j * 4; rw [hM, csV_length, hj]; omega
        · show (j + 1) * 32 ≤ 140737488355328; omega
        · show j + 1 ≤ 9223372036854775807; omega
        conv => cbv
        refine Upd.mk fun M2 hM2 => ?_
        have hM2 : M2 = csV (cs ++ [⟨v, a, b, n⟩]) := by rw [csV_snoc, ← hM]; exact hM2
        conv => cbv
        refine Sum.mk fun j2 hj2 => ?_
        have hj2 : j2 = j + 1 := hj2
        have hj3 : j2 = ((cs ++ [⟨v, a, b, n⟩] : List Cs).length : Int) := by rw [List.length_append, hj2, hj]; rfl
        conv => cbv
        refine Again.mk k' _ (Nat.lt_succ_self _) (Re.at [(3, 0)] []) ⟨z3, j2, L2, M2, q.drop (cshape v).length, cs ++ [⟨v, a, b, n⟩], rfl, hL2, hz4, (fun t ht => hp t (by rw [hpq]; exact List.mem_cons_of_mem _ (List.mem_of_mem_drop ht))), hM2, hj3, by omega, by omega, by rw [List.length_drop]; rw [hpq, List.length_cons] at hkk; omega, hc2⟩
  · have g : ¬ 0 < k := g
    have hp0 : p = [] := List.length_eq_zero_iff.1 (by omega)
    conv => cbv
    refine Br.mk (fun g5 => ?_) (fun g5 => ?_)
    · have g5 : 0 < j := g5
      have e : casesP f0 p0 [] = some cs := by rw [hc, hp0, casesP, if_neg]; cases cs with
        | nil => rw [hj] at g5; exact absurd g5 (by decide)
        | cons c cs => simp
      conv => cbv
      refine RetF.mk [.p (.vsl (.sym j) true M), .p (.bool true)] [] 0 (Re.at [] []) rfl ⟨.yes cs j M e hj hM, rfl, rfl⟩
    · have g5 : ¬ 0 < j := g5
      have e : casesP f0 p0 [] = none := by rw [hc, hp0, casesP, if_pos]; cases cs with
        | nil => rfl
        | cons c cs => rw [hj, List.length_cons] at g5; omega
      conv => cbv
      refine RetF.mk [.p (.vsl (.sym 0) true []), .p (.bool false)] [] 0 (Re.at [] []) rfl ⟨.no 0 [] e, rfl, rfl⟩
end Go.Proofs.YtfjdifeofnpcnaaDoor
/-
  Layer 2: a line, and a text, as instructions.
-/
namespace Go.Proofs.YtfjdifeofnpcnaaDoor

open Go Go.LX
set_option maxRecDepth 100000
set_option linter.unusedVariables false
set_option linter.unusedSimpArgs false

/-- An instruction, and whether there is one. -/
inductive OptX (o : Option Is) : LV → Prop
  | yes (x : Is) (k : Int) (L : List PV) (h : o = some x) (hk : k = x.cs.length) (hL : L = csV x.cs) : OptX o (.tup [.agg [.p (.int .i64 (.sym x.op)), .p (.int .i64 (.sym x.a)), .p (.int .i64 (.sym x.b)), .p (.int .i64 (.sym x.n)), .p (.vsl (.sym k) true L)], .p (.bool true)])
  | no (p a b n k : Int) (L : List PV) (h : o = none) : OptX o (.tup [.agg [.p (.int .i64 (.sym p)), .p (.int .i64 (.sym a)), .p (.int .i64 (.sym b)), .p (.int .i64 (.sym n)), .p (.vsl (.sym k) true L)], .p (.bool false)])
theorem partsV_lx (l : List UInt8) (z : ByteArray) (k : Int) (hz : z = bytesOfL l) (hl : Low l) (hlen : l.length ≤ 2000) (hk : k = (toks l).length) : CallF (fun _ => Tryd.prog) 52 [.p (.str fun _ => z)] [] 0 (fun r h n => (∃ L' : List PV, r = .p (.vsl (.sym k) true L') ∧ L' = spv (toks l)) ∧ h = [] ∧ n = 0) := by
  refine CallF.ret (parts_lx l z k hz hl hlen hk) (fun r h' n' hrr => ?_)
  obtain ⟨L, e1, e2, e3, hL⟩ := hrr
  subst e1 e2 e3
  refine RetF.mk [.p (.vsl (.sym k) true L)] [] 0 (Re.at [] []) rfl ⟨⟨L, rfl, hL⟩, rfl, rfl⟩
theorem shapeE_lx (op : Int) (y : ByteArray) (hy : y = bytesOfL (shapeV op)) : CallF (fun _ => Tryd.prog) 47 [.p (.int .i64 (.sym op))] [] 0 (fun r h n => r = .p (.str fun _ => y) ∧ h = [] ∧ n = 0) :=
  (shapeOf_lx op).mono (fun r h n ⟨⟨y2, e1, hy2⟩, e2, e3⟩ => ⟨by rw [e1, hy2, hy], e2, e3⟩)
theorem fields_yes (sh : List UInt8) (z : ByteArray) (p : List (List UInt8)) (k : Int) (L : List PV) (a b m : Int) (hz : z = bytesOfL sh) (hsh : Low sh) (hsl : sh.length ≤ 100) (hL : L = spv p) (hk : k = p.length) (hp : ∀ t ∈ p, Low t ∧ t.length ≤ 2000) (hro : readO sh p = some ⟨a, b, m⟩) :
    CallF (fun _ => Tryd.prog) 55 [.p (.str fun _ => z), .p (.vsl (.sym k) true L)] [] 0 (fun r h n => r = .tup [.agg [.p (.int .i64 (.sym a)), .p (.int .i64 (.sym b)), .p (.int .i64 (.sym m))], .p (.bool true)] ∧ h = [] ∧ n = 0) :=
  (readFields_lx sh z p k L hz hsh hsl hL hk hp).mono (fun r h n ⟨e1, e2, e3⟩ => by
    rw [hro] at e1
    cases e1 with
    | yes a b n h => cases h; exact ⟨rfl, e2, e3⟩
    | no h => cases h)
theorem fields_no (sh : List UInt8) (z : ByteArray) (p : List (List UInt8)) (k : Int) (L : List PV) (hz : z = bytesOfL sh) (hsh : Low sh) (hsl : sh.length ≤ 100) (hL : L = spv p) (hk : k = p.length) (hp : ∀ t ∈ p, Low t ∧ t.length ≤ 2000) (hro : readO sh p = none) :
    CallF (fun _ => Tryd.prog) 55 [.p (.str fun _ => z), .p (.vsl (.sym k) true L)] [] 0 (fun r h n => r = .tup [.agg [.p (.int .i64 (.sym 0)), .p (.int .i64 (.sym 0)), .p (.int .i64 (.sym 0))], .p (.bool false)] ∧ h = [] ∧ n = 0) :=
  (readFields_lx sh z p k L hz hsh hsl hL hk hp).mono (fun r h n ⟨e1, e2, e3⟩ => by
    rw [hro] at e1
    cases e1 with
    | yes a b n h => cases h
    | no h => exact ⟨rfl, e2, e3⟩)
theorem shape_low (op : Int) : Low (shapeV op) ∧ (shapeV op).length ≤ 2 := by
  rcases shape_cases op with h | h | h | h | h | h <;> rw [h] <;> unfold Low <;> decide
set_option maxHeartbeats 4000000 in
theorem decodeLine_lx (l : List UInt8) (z : ByteArray) (hz : z = bytesOfL l) (hl : Low l) (hlen : l.length ≤ 2000) : CallF (fun _ => Tryd.prog) 32 [.p (.str fun _ => z)] [] 0 (fun r h n => OptX (decO l) r ∧ h = [] ∧ n = 0) := by
  obtain ⟨k, hk⟩ : ∃ k : Int, k = (toks l).length := ⟨_, rfl⟩
  have hkl := toks_len l
  refine callF_of_body tok Tryd.func32 (by kernel_rfl) rfl rfl rfl ?_; conv => cbv
  refine callF_frame (partsV_lx l z k hz hl hlen hk) [] rfl trivial rfl rfl (fun r2 h' n' hrr => ?_)
  obtain ⟨⟨L, e1, hL⟩, e2, e3⟩ := hrr
  subst e1 e2 e3
  conv => cbv
  refine Br.mk (fun g => ?_) (fun g => ?_)
  · have g : k = 0 := g
    have e : decO l = none := by
      have : toks l = [] := List.length_eq_zero_iff.1 (by omega)
      rw [decO, this]
    conv => cbv
    refine RetF.mk [.agg [.p (.int .i64 (.sym 0)), .p (.int .i64 (.sym 0)), .p (.int .i64 (.sym 0)), .p (.int .i64 (.sym 0)), .p (.vsl (.sym 0) true [])], .p (.bool false)] [] 0 (Re.at [] []) rfl ⟨.no 0 0 0 0 0 [] e, rfl, rfl⟩
  have g : ¬ k = 0 := g
  obtain ⟨t, ts, ht⟩ : ∃ t ts, toks l = t :: ts := by
    cases e : toks l with
    | nil => rw [e] at hk; exact absurd hk g
    | cons t ts => exact ⟨t, ts, rfl⟩
  have hde : decO l = if opV t = 0 then none else if opV t = 21 then (casesP (l.length + 1) ts []).map (fun cs => ⟨21, 0, 0, 0, cs⟩) else (readO (shapeV (opV t)) ts).map fun f => ⟨opV t, f.a, f.b, f.n, []⟩ := by rw [decO, ht]
  conv => cbv
  refine Need.mk ⟨by show (0 : Int) ≤ 0; omega, by show (0 : Int) < k; omega⟩ ?_
  conv => cbv
  obtain ⟨tz, htz⟩ : ∃ tz, tz = bytesOfL t := ⟨_, rfl⟩
  have hla : L[0]? = some (.str fun _ => tz) := by rw [htz, hL, ht]; rfl
  refine Cell.at 0 0 hla rfl rfl ?_
  conv => cbv
  obtain ⟨v, hv⟩ : ∃ v, v = opV t := ⟨_, rfl⟩
  have hlow := toks_low hl
  rw [ht] at hlow
  have hps : ∀ u ∈ ts, Low u ∧ u.length ≤ 2000 := fun u hu => ⟨hlow u (by simp [hu]), by have := tok_le l u (by rw [ht]; simp [hu]); omega⟩
  have hkt : k = ts.length + 1 := by rw [hk, ht, List.length_cons]; omega
  rw [← hv] at hde
  refine callF_frame (opOf_lx t tz v htz hv) [] rfl trivial rfl rfl (fun r2 h' n' ⟨e1, e2, e3⟩ => ?_)
  subst e1 e2 e3
  conv => cbv
  refine Br.mk (fun g2 => ?_) (fun g2 => ?_)
  · have g2 : v = 0 := g2
    have e : decO l = none := by rw [hde, if_pos g2]
    conv => cbv
    refine RetF.mk [.agg [.p (.int .i64 (.sym 0)), .p (.int .i64 (.sym 0)), .p (.int .i64 (.sym 0)), .p (.int .i64 (.sym 0)), .p (.vsl (.sym 0) true [])], .p (.bool false)] [] 0 (Re.at [] []) rfl ⟨.no 0 0 0 0 0 [] e, rfl, rfl⟩
  have g2 : ¬ v = 0 := g2
  rw [if_neg g2] at hde
  conv => cbv
  refine Br.mk (fun g3 => ?_) (fun g3 => ?_)
  · have g3 : v = 21 := g3
    rw [if_pos g3] at hde
    conv => cbv
    refine Need.mk ⟨by show (0 : Int) ≤ 1; omega, by show 1 ≤ k; omega⟩ ?_
    conv => cbv
    refine Upd.mk fun L2 hL2 => ?_
    have hL2 : L2 = spv ts := by
      have e : L2 = L.drop ((1 : Int).toNat * 1) := hL2
      rw [e, hL, ht]; rfl
    conv => cbv
    refine Sum.mk fun k2 hk2 => ?_
    have hk2 : k2 = k - 1 := hk2
    conv => cbv
    refine callF_frame (decodeCases_lx ts k2 L2 (l.length + 1) hL2 (by omega) (by omega) (by omega) hps) [] rfl trivial rfl rfl (fun r2 h' n' hrr => ?_)
    obtain ⟨e1, e2, e3⟩ := hrr
    subst e2 e3
    cases e1 with
    | yes cs j M ho hj hM =>
      have e : decO l = some ⟨v, 0, 0, 0, cs⟩ := by rw [hde, ho, g3]; rfl
      conv => cbv
      refine RetF.mk [.agg [.p (.int .i64 (.sym v)), .p (.int .i64 (.sym 0)), .p (.int .i64 (.sym 0)), .p (.int .i64 (.sym 0)), .p (.vsl (.sym j) true M)], .p (.bool true)] [] 0 (Re.at [] []) rfl ⟨.yes ⟨v, 0, 0, 0, cs⟩ j M e hj hM, rfl, rfl⟩
    | no j M ho =>
      have e : decO l = none := by rw [hde, ho]; rfl
      conv => cbv
      refine RetF.mk [.agg [.p (.int .i64 (.sym v)), .p (.int .i64 (.sym 0)), .p (.int .i64 (.sym 0)), .p (.int .i64 (.sym 0)), .p (.vsl (.sym j) true M)], .p (.bool false)] [] 0 (Re.at [] []) rfl ⟨.no v 0 0 0 j M e, rfl, rfl⟩
  · have g3 : ¬ v = 21 := g3
    rw [if_neg g3] at hde
    conv => cbv
    obtain ⟨y, hy⟩ : ∃ y, y = bytesOfL (shapeV v) := ⟨_, rfl⟩
    have hsl := shape_low v
    refine read_sound tok (by kernel_rfl) [] [2, 5] [(9, [8, 7, 6, 5, 4, 3, 2, 1, 0]), (10, [8])] [0, 1, 2, 3, 4, 5, 6, 7, 8, 9, 10, 11] (by kernel_rfl) ?_
    conv => cbv
    refine ReadF.mk (.p (.str fun _ => y)) (fun h' n' hbR hnR => callF_read (shapeE_lx v y hy) [] rfl trivial rfl rfl rfl rfl) ?_
    conv => cbv
    refine Need.mk ⟨by show (0 : Int) ≤ 1; omega, by show 1 ≤ k; omega⟩ ?_
    conv => cbv
    refine Upd.mk fun L2 hL2 => ?_
    have hL2 : L2 = spv ts := by
      have e : L2 = L.drop ((1 : Int).toNat * 1) := hL2
      rw [e, hL, ht]; rfl
    conv => cbv
    refine Sum.mk fun k2 hk2 => ?_
    have hk2 : k2 = k - 1 := hk2
    conv => cbv
    cases e9 : readO (shapeV v) ts with
    | none =>
      have e : decO l = none := by rw [hde, e9]; rfl
      refine ReadF.mk (.tup [.agg [.p (.int .i64 (.sym 0)), .p (.int .i64 (.sym 0)), .p (.int .i64 (.sym 0))], .p (.bool false)]) (fun h' n' hbR hnR => callF_read (fields_no (shapeV v) y ts k2 L2 hy hsl.1 (by omega) hL2 (by omega) hps e9) [] rfl trivial rfl rfl rfl rfl) ?_
      conv => cbv
      refine drawn_sound tok (by kernel_rfl) [(7, [5, 4, 3, 2]), (9, [5, 4]), (11, [])] [0, 1, 2, 3, 4, 5, 6, 7, 8, 9, 10, 11] (by kernel_rfl) ?_; conv => cbv
      refine RetF.mk [.agg [.p (.int .i64 (.sym v)), .p (.int .i64 (.sym 0)), .p (.int .i64 (.sym 0)), .p (.int .i64 (.sym 0)), .p (.vsl (.sym 0) true [])], .p (.bool false)] [] 0 (Re.at [] []) rfl ⟨.no v 0 0 0 0 [] e, rfl, rfl⟩
    | some f =>
      obtain ⟨a, b, m⟩ := f
      have e : decO l = some ⟨v, a, b, m, []⟩ := by rw [hde, e9]; rfl
      refine ReadF.mk (.tup [.agg [.p (.int .i64 (.sym a)), .p (.int .i64 (.sym b)), .p (.int .i64 (.sym m))], .p (.bool true)]) (fun h' n' hbR hnR => callF_read (fields_yes (shapeV v) y ts k2 L2 a b m hy hsl.1 (by omega) hL2 (by omega) hps e9) [] rfl trivial rfl rfl rfl rfl) ?_
      conv => cbv
      refine drawn_sound tok (by kernel_rfl) [(7, [5, 4, 3, 2]), (9, [5, 4]), (11, [])] [0, 1, 2, 3, 4, 5, 6, 7, 8, 9, 10, 11] (by kernel_rfl) ?_; conv => cbv
      refine RetF.mk [.agg [.p (.int .i64 (.sym v)), .p (.int .i64 (.sym a)), .p (.int .i64 (.sym b)), .p (.int .i64 (.sym m)), .p (.vsl (.sym 0) true [])], .p (.bool true)] [] 0 (Re.at [] []) rfl ⟨.yes ⟨v, a, b, m, []⟩ 0 [] e rfl rfl, rfl, rfl⟩
end Go.Proofs.YtfjdifeofnpcnaaDoor
/-
  Layer 2: Decode.
-/
namespace Go.Proofs.YtfjdifeofnpcnaaDoor

open Go Go.LX
set_option maxRecDepth 100000
set_option linter.unusedVariables false
set_option linter.unusedSimpArgs false

/-- Instructions, as cells (a slice of cases is a cell). -/
def isC (x : Is) : List PV := [.int .i64 (.sym x.op), .int .i64 (.sym x.a), .int .i64 (.sym x.b), .int .i64 (.sym x.n), .vsl (.sym x.cs.length) true (csV x.cs)]
def isV (l : List Is) : List PV := l.flatMap isC
theorem isV_length (l : List Is) : (isV l).length = l.length * 5 := by
  induction l with
  | nil => rfl
  | cons c l ih => rw [isV, List.flatMap_cons, List.length_append]; show 5 + (isV l).length = _; rw [ih, List.length_cons]; omega
theorem isV_snoc (l : List Is) (x : Is) : isV (l ++ [x]) = isV l ++ isC x := by simp [isV]
/-- Lines that have something, of signs that may stand. -/
def LineOk (n : Nat) (l : List UInt8) : Prop := l.length ≤ n ∧ ∀ c ∈ l, c.toNat ≠ 10 ∧ c.toNat ≠ 32 ∧ c.toNat < 128
theorem LineOk.le {n m : Nat} {l : List UInt8} (h : LineOk n l) (hn : n ≤ m) : LineOk m l := ⟨by have := h.1; omega, h.2⟩
theorem parts_ok (bl : List UInt8) (hg : Good8 bl) : (∀ x ∈ (partsOf bl).1, x ≠ [] ∧ LineOk bl.length x) ∧ LineOk bl.length (partsOf bl).2 := by
  obtain ⟨m, hm⟩ : ∃ m : List UInt8, m = bl.reverse := ⟨_, rfl⟩
  have hl : bl = m.reverse := by rw [hm, List.reverse_reverse]
  subst hl
  clear hm
  induction m with
  | nil => exact ⟨(by intro x hx; cases hx), (by simp [LineOk, partsOf])⟩
  | cons c m ih =>
    rw [List.reverse_cons] at hg ⊢
    generalize m.reverse = l at ih hg ⊢
    obtain ⟨i1, i2⟩ := ih (fun d hd => hg d (by simp [hd]))
    have hc := hg c (by simp)
    rw [parts_snoc, List.length_append, List.length_singleton]
    generalize partsOf l = st at i1 i2 ⊢
    obtain ⟨A, B⟩ := st
    simp only at i1 i2
    unfold partStep
    split
    · refine ⟨?_, by simp [LineOk]⟩
      dsimp only
      intro x hx
      split at hx
      · exact ⟨(i1 x hx).1, (i1 x hx).2.le (by omega)⟩
      · rename_i hB
        rcases List.mem_append.1 hx with hx | hx
        · exact ⟨(i1 x hx).1, (i1 x hx).2.le (by omega)⟩
        · rw [List.mem_singleton] at hx
          subst hx
          exact ⟨hB, i2.le (by omega)⟩
    · rename_i h10
      split
      · exact ⟨fun x hx => ⟨(i1 x hx).1, (i1 x hx).2.le (by omega)⟩, i2.le (by omega)⟩
      · rename_i h32
        refine ⟨fun x hx => ⟨(i1 x hx).1, (i1 x hx).2.le (by omega)⟩, ?_⟩
        refine ⟨by have := i2.1; rw [List.length_append, List.length_singleton]; dsimp only at *; omega, fun d hd => ?_⟩
        rcases List.mem_append.1 hd with hd | hd
        · exact i2.2 d hd
        · rw [List.mem_singleton] at hd
          subst hd
          exact ⟨fun h => h10 (UInt8.toNat_inj.1 h), fun h => h32 (UInt8.toNat_inj.1 h), by omega⟩
theorem lines_ok {z : ByteArray} {ls : List (List UInt8)} (h : linesV z = (ls, 0)) : ∀ l ∈ ls, l ≠ [] ∧ LineOk 2000 l := by
  have hl := linesV_sign z
  have h1 : signV z = 0 := by
    refine Classical.byContradiction fun g => ?_
    rw [if_pos g, h] at hl; injection hl with _ hl; exact g hl.symm
  have hg := good_of z h1
  rw [if_neg (by rw [h1]; simp)] at hl
  have h2 : ¬ (closed (partsOf z.data.toList)).length = 0 := by intro g; rw [if_pos g, h] at hl; cases hl
  have h3 : ¬ 60 < (closed (partsOf z.data.toList)).length := by intro g; rw [if_neg h2, if_pos g, h] at hl; cases hl
  rw [if_neg h2, if_neg h3, h] at hl
  injection hl with hl _
  obtain ⟨p1, p2⟩ := parts_ok _ hg.2.1
  intro l hm
  rw [hl] at hm
  unfold closed at hm
  split at hm
  · exact ⟨(p1 l hm).1, (p1 l hm).2.le hg.2.2⟩
  · rename_i hB
    rcases List.mem_append.1 hm with hx | hx
    · exact ⟨(p1 l hx).1, (p1 l hx).2.le hg.2.2⟩
    · rw [List.mem_singleton] at hx
      subst hx
      exact ⟨hB, p2.le hg.2.2⟩
theorem lines_60 {z : ByteArray} {ls : List (List UInt8)} (h : linesV z = (ls, 0)) : ls.length ≤ 60 := by
  have hl := linesV_sign z
  rw [h] at hl
  split at hl
  · rename_i g; injection hl with _ hl; exact absurd hl.symm g
  split at hl
  · cases hl
  split at hl
  · cases hl
  · injection hl with hl _; rw [hl]; omega
theorem decs_go (ls : List (List UInt8)) (l : List UInt8) (i : Nat) (acc : List Is) (h : ls[i]? = some l) : decsV (ls.drop i) i acc = match decB l with
    | none => ([], (i : Int) + 1, 5)
    | some x => decsV (ls.drop (i + 1)) ((i : Int) + 1) (acc ++ [x]) := by
  have hi := (List.getElem?_eq_some_iff.1 h).1
  rw [List.drop_eq_getElem_cons hi, (List.getElem?_eq_some_iff.1 h).2, decsV]
  cases decB l <;> rfl
theorem decs_err : ∀ (ls : List (List UInt8)) (i : Int) (acc r : List Is) (a e : Int), decsV ls i acc = (r, a, e) → e ≠ 0 → r = []
  | [], i, acc, r, a, e, h, he => by rw [decsV] at h; cases h; exact absurd rfl he
  | x :: ls, i, acc, r, a, e, h, he => by
    rw [decsV] at h
    cases e2 : decB x with
    | none => rw [e2] at h; cases h; rfl
    | some y => rw [e2] at h; exact decs_err ls _ _ r a e h he
/-- What Decode tells. -/
inductive Decoded (D : List Is × Int × Int) : LV → Prop
  | mk (k a e : Int) (L : List PV) (xs : List Is) (h : D = (xs, a, e)) (hk : k = xs.length) (hL : L = isV xs) : Decoded D (.tup [.p (.vsl (.sym k) true L), .p (.int .i64 (.sym a)), .p (.int .i64 (.sym e))])
set_option maxHeartbeats 4000000 in
theorem decode_lx (z : ByteArray) (hzz : z.size ≤ 3000000) : CallF (fun _ => Tryd.prog) 12 [.p (.str fun _ => z)] [] 0 (fun r h n => Decoded (decodeV z) r ∧ h = [] ∧ n = 0) := by
  obtain ⟨⟨ls, v⟩, hlv⟩ : ∃ x, linesV z = x := ⟨_, rfl⟩
  obtain ⟨D, hD⟩ : ∃ D, D = decodeV z := ⟨_, rfl⟩
  rw [← hD]
  by_cases hv0 : v = 0
  case neg =>
    have hDe : D = ([], 0, v) := by rw [hD, decodeV, hlv, if_neg hv0]
    refine callF_of_body tok Tryd.func12 (by kernel_rfl) rfl rfl rfl ?_; conv => cbv
    refine callF_frame (lines_bad z v hzz (by rw [hlv]) hv0) [] rfl trivial rfl rfl (fun r2 h' n' ⟨e1, e2, e3⟩ => ?_)
    subst e1 e2 e3
    conv => cbv
    refine Br.mk (fun g => ?_) (fun g => ?_)
    · conv => cbv
      refine RetF.mk [.p (.vsl (.sym 0) true []), .p (.int .i64 (.sym 0)), .p (.int .i64 (.sym v))] [] 0 (Re.at [] []) rfl ⟨.mk 0 0 v [] [] hDe rfl rfl, rfl, rfl⟩
    · have gf : False := g hv0
      cases gf
  subst hv0
  have h60 := lines_60 hlv
  have hok := lines_ok hlv
  obtain ⟨k, hk⟩ : ∃ k : Int, k = ls.length := ⟨_, rfl⟩
  have hD0 : D = decsV (ls.drop (0 : Int).toNat) 0 [] := by rw [hD, decodeV, hlv]; rfl
  refine callF_of_body tok Tryd.func12 (by kernel_rfl) rfl rfl rfl ?_; conv => cbv
  refine callF_frame (lines_good z ls k hzz hlv hk) [] rfl trivial rfl rfl (fun r2 h' n' hrr => ?_)
  obtain ⟨L, e1, e2, e3, hL⟩ := hrr
  subst e1 e2 e3
  conv => cbv
  refine Br.mk (fun g => ?_) (fun g => ?_)
  · have gf : False := g rfl
    cases gf
  conv => cbv
  refine LoopF.mk (fun kk s => ∃ (i j : Int) (M : List PV) (acc : List Is), s = ⟨.p (.str fun _ => z) :: (undefs 6 ++ .sl 1 36 5 (.lit 0) (.sym j) :: (undefs 12 ++ .sl 0 9 1 (.lit 0) (.sym k) :: .p (.int .i64 (.sym k)) :: .p (.int .i64 (.sym i)) :: undefs 19)), [(0, .pure true L), (1, .pure true M)], 2⟩ ∧ D = decsV (ls.drop i.toNat) i acc ∧ M = isV acc ∧ j = acc.length ∧ j = i ∧ 0 ≤ i ∧ i ≤ k ∧ kk = (k - i).toNat) k.toNat _
    (Re.at [(0, 0)] [1]) ⟨0, 0, [], [], rfl, hD0, rfl, rfl, rfl, by omega, by omega, by omega⟩ ?_
  clear hD0
  rintro kk s ⟨i, j, M, acc, rfl, hDi, hM, hj, hji, h0, h1, hkk⟩
  conv => cbv
  refine Br.mk (fun g2 => ?_) (fun g2 => ?_)
  · have g2 : i < k := g2
    obtain ⟨l, hl⟩ : ∃ l, ls[i.toNat]? = some l := ⟨_, List.getElem?_eq_getElem (by omega)⟩
    have hlo := hok l (List.mem_of_getElem? hl)
    have hgo := decs_go ls l i.toNat acc hl
    rw [Int.toNat_of_nonneg h0] at hgo
    obtain ⟨k', rfl⟩ : ∃ k', kk = k' + 1 := ⟨kk - 1, by omega⟩
    obtain ⟨lz, hlz⟩ : ∃ lz, lz = bytesOfL l := ⟨_, rfl⟩
    have hla : L[i.toNat]? = some (.str fun _ => lz) := by rw [hL, hlz]; exact spv_get hl
    conv => cbv
    refine Need.mk ⟨by show (0 : Int) ≤ i; omega, by show i < k; omega⟩ ?_
    conv => cbv
    refine Cell.at i i.toNat hla (by simp [I.val]) rfl ?_
    conv => cbv
    refine callF_frame (decodeLine_lx l lz hlz (fun c hc => (hlo.2.2 c hc).2.2) hlo.2.1) [] rfl trivial rfl rfl (fun r2 h' n' hrr => ?_)
    obtain ⟨e1, e2, e3⟩ := hrr
    subst e2 e3
    rw [dec_eq] at e1
    cases e1 with
    | no p a b n q X hno =>
      have hDe : D = ([], i + 1, 5) := by rw [hDi, hgo, hno]
      conv => cbv
      refine Fit.mk (by show (-9223372036854775808 : Int) ≤ i + 1; omega) (by show i + 1 ≤ 9223372036854775807; omega) fun t3 ht3 => ?_
      have ht3 : t3 = i + 1 := ht3
      have hDe2 : D = ([], t3, 5) := by rw [hDe, ht3]
      conv => cbv
      refine RetF.mk [.p (.vsl (.sym 0) true []), .p (.int .i64 (.sym t3)), .p (.int .i64 (.sym 5))] [] 0 (Re.at [] []) rfl ⟨.mk 0 t3 5 [] [] hDe2 rfl rfl, rfl, rfl⟩
    | yes x q X hx hq hX =>
      have hDe : D = decsV (ls.drop (i.toNat + 1)) (i + 1) (acc ++ [x]) := by rw [hDi, hgo, hx]
      obtain ⟨op, hop⟩ : ∃ op, op = x.op := ⟨_, rfl⟩
      obtain ⟨a, ha⟩ : ∃ a, a = x.a := ⟨_, rfl⟩
      obtain ⟨b, hb⟩ : ∃ b, b = x.b := ⟨_, rfl⟩
      obtain ⟨n, hn⟩ : ∃ n, n = x.n := ⟨_, rfl⟩
      rw [← hop, ← ha, ← hb, ← hn]
      conv => cbv
      refine Room.new rfl ?_
      conv => cbv
      refine Room.new ⟨?_, ?_, ?_⟩ ?_
      · show (M.length : Int) = j * 5; rw [hM, isV_length, hj]; omega
      · show (j + 1) * 56 ≤ 140737488355328; omega
      · show j + 1 ≤ 9223372036854775807; omega
      conv => cbv
      refine Upd.mk fun M2 hM2 => ?_
      have hM2 : M2 = isV (acc ++ [x]) := by rw [isV_snoc, ← hM, isC, ← hop, ← ha, ← hb, ← hn, ← hq, ← hX]; exact hM2
      conv => cbv
      refine Sum.mk fun j2 hj2 => ?_
      have hj2 : j2 = j + 1 := hj2
      have hj3 : j2 = ((acc ++ [x] : List Is).length : Int) := by rw [List.length_append, hj2, hj]; rfl
      conv => cbv
      refine Fit.mk (by show (-9223372036854775808 : Int) ≤ i + 1; omega) (by show i + 1 ≤ 9223372036854775807; omega) fun i2 hi2 => ?_
      have hi2 : i2 = i + 1 := hi2
      rw [← hi2, show i.toNat + 1 = i2.toNat by omega] at hDe
      conv => cbv
      refine Again.mk k' _ (Nat.lt_succ_self _) (Re.at [(0, 0), (4, 1)] []) ⟨i2, j2, M2, acc ++ [x], rfl, hDe, hM2, hj3, by omega, by omega, by omega, by omega⟩
  · have g2 : ¬ i < k := g2
    have hDe : D = (acc, 0, 0) := by rw [hDi, List.drop_of_length_le (by omega)]; rfl
    conv => cbv
    refine RetF.mk [.p (.vsl (.sym j) true M), .p (.int .i64 (.sym 0)), .p (.int .i64 (.sym 0))] [] 0 (Re.at [] []) rfl ⟨.mk j 0 0 M acc hDe hj hM, rfl, rfl⟩
end Go.Proofs.YtfjdifeofnpcnaaDoor
/-
  Layers 1 and 2: the reference's numbers, registers, digits ahead.
-/
namespace Go.Proofs.YtfjdifeofnpcnaaDoor

open Go Go.LX
set_option maxRecDepth 100000
set_option linter.unusedVariables false
set_option linter.unusedSimpArgs false

theorem bol_get (l : List UInt8) (i : Nat) (c : UInt8) (h : l[i]? = some c) : (bytesOfL l).get! i = c := by
  have hi := (List.getElem?_eq_some_iff.1 h).1
  have hc := (List.getElem?_eq_some_iff.1 h).2
  show l.toArray[i]! = c
  rw [getElem!_pos l.toArray i (by simpa using hi)]
  simpa using hc
theorem bol_ext (l : List UInt8) (i j : Nat) (hj : j ≤ l.length) : (bytesOfL l).extract i j = bytesOfL ((l.take j).drop i) := by
  apply ByteArray.ext
  rw [ByteArray.data_extract]
  show l.toArray.extract i j = _
  rw [List.extract_toArray, List.drop_take]; rfl
set_option maxHeartbeats 1000000 in
theorem rReg_lx (c : Int) (h0 : 0 ≤ c) (h1 : c ≤ 2000000) : CallF (fun _ => Tryd.prog) 77 [.p (.int .i64 (.sym c))] [] 0 (fun r h n => OptI (regI c) r ∧ h = [] ∧ n = 0) := by
  refine callF_of_body tok Tryd.func77 (by kernel_rfl) rfl rfl rfl ?_; conv => cbv
  refine Br.mk (fun g => ?_) (fun g => ?_)
  · have g : c < 97 := g
    conv => cbv
    refine RetF.mk [.p (.int .i64 (.sym 0)), .p (.bool false)] [] 0 (Re.at [] []) rfl ⟨.no 0 (by unfold regI; rw [if_neg (by omega)]), rfl, rfl⟩
  · have g : ¬ c < 97 := g
    conv => cbv
    refine Br.mk (fun g2 => ?_) (fun g2 => ?_)
    · have g2 : 103 ≤ c := g2
      conv => cbv
      refine RetF.mk [.p (.int .i64 (.sym 0)), .p (.bool false)] [] 0 (Re.at [] []) rfl ⟨.no 0 (by unfold regI; rw [if_neg (by omega)]), rfl, rfl⟩
    · have g2 : ¬ 103 ≤ c := g2
      conv => cbv
      refine Fit.mk (by show (-9223372036854775808 : Int) ≤ c - 97; omega) (by show c - 97 ≤ 9223372036854775807; omega) fun t3 ht3 => ?_
      have ht3 : t3 = c - 97 := ht3
      conv => cbv
      refine RetF.mk [.p (.int .i64 (.sym t3)), .p (.bool true)] [] 0 (Re.at [] []) rfl ⟨.yes t3 (by unfold regI; rw [if_pos (by omega), ht3]), rfl, rfl⟩
set_option maxHeartbeats 2000000 in
theorem rest_lx (l : List UInt8) (z : ByteArray) (v : Int) (hz : z = bytesOfL l) (hlen : l.length ≤ 100000) (hv : v = (lead l).length) : CallF (fun _ => Tryd.prog) 78 [.p (.str fun _ => z)] [] 0 (fun r h n => r = .p (.int .i64 (.sym v)) ∧ h = [] ∧ n = 0) := by
  obtain ⟨N, hN⟩ : ∃ N : Int, N = l.length := ⟨_, rfl⟩
  have hzs : (z.size : Int) = N := by rw [hz, bol_size, hN]
  obtain ⟨F, hF⟩ : ∃ F : Int → Int, ∀ i, F i = (lead (l.drop i.toNat)).length := ⟨_, fun _ => rfl⟩
  have hF0 : F 0 = v := by rw [hF, hv]; rfl
  refine callF_of_body tok Tryd.func78 (by kernel_rfl) rfl rfl rfl ?_; conv => cbv
  refine LoopF.mk (fun k s => ∃ i : Int, s = ⟨.p (.str fun _ => z) :: (undefs 2 ++ .p (.int .i64 (.sym i)) :: undefs 19), [], 0⟩ ∧ 0 ≤ i ∧ i ≤ N ∧ i + F i = v ∧ k = (N - i).toNat) N.toNat _
    (Re.at [] []) ⟨0, rfl, by omega, by omega, by omega, by omega⟩ ?_
  rintro k s ⟨i, rfl, h0, h1, hi, hk⟩
  conv => cbv
  refine Sum.mk fun zs hzs2 => ?_
  have hzs2 : zs = N := (show zs = (z.size : Int) from hzs2).trans hzs
  conv => cbv
  refine Br.mk (fun g => ?_) (fun g => ?_)
  case refine_2 =>
    have g : ¬ i < zs := g
    have e : F i = 0 := by rw [hF, List.drop_of_length_le (by omega)]; rfl
    have e2 : i = v := by omega
    conv => cbv
    refine RetF.mk [.p (.int .i64 (.sym v))] [] 0 (Re.at [] []) rfl ⟨rfl, rfl, rfl⟩
  have g : i < zs := g
  obtain ⟨c, hc⟩ : ∃ c, l[i.toNat]? = some c := ⟨_, List.getElem?_eq_getElem (by omega)⟩
  have hget := bol_get l i.toNat c hc
  have hdr : l.drop i.toNat = c :: l.drop (i.toNat + 1) := by
    rw [List.drop_eq_getElem_cons (List.getElem?_eq_some_iff.1 hc).1, (List.getElem?_eq_some_iff.1 hc).2]
  conv => cbv
  refine Need.mk ⟨by show (0 : Int) ≤ i; omega, by show i < (z.size : Int); omega⟩ ?_
  conv => cbv
  refine Sum.mk fun y hy => ?_
  have hy : y = (c.toNat : Int) := by
    have : y = ((z.get! i.toNat).toNat : Int) := hy
    rw [this, hz, hget]
  conv => cbv
  refine Br.mk (fun g2 => ?_) (fun g2 => ?_)
  case refine_2 =>
    have g2 : ¬ 48 ≤ y := g2
    have e : F i = 0 := by rw [hF, hdr, lead_nd c _ (by simp [isD]; omega)]; rfl
    have e2 : i = v := by omega
    conv => cbv
    refine RetF.mk [.p (.int .i64 (.sym v))] [] 0 (Re.at [] []) rfl ⟨rfl, rfl, rfl⟩
  have g2 : 48 ≤ y := g2
  conv => cbv
  refine Need.mk ⟨by show (0 : Int) ≤ i; omega, by show i < (z.size : Int); omega⟩ ?_
  conv => cbv
  refine Sum.mk fun y2 hy2 => ?_
  have hy2 : y2 = (c.toNat : Int) := by
    have : y2 = ((z.get! i.toNat).toNat : Int) := hy2
    rw [this, hz, hget]
  conv => cbv
  refine Br.mk (fun g3 => ?_) (fun g3 => ?_)
  case refine_2 =>
    have g3 : ¬ y2 ≤ 57 := g3
    have e : F i = 0 := by rw [hF, hdr, lead_nd c _ (by simp [isD]; omega)]; rfl
    have e2 : i = v := by omega
    conv => cbv
    refine RetF.mk [.p (.int .i64 (.sym v))] [] 0 (Re.at [] []) rfl ⟨rfl, rfl, rfl⟩
  have g3 : y2 ≤ 57 := g3
  obtain ⟨k', rfl⟩ : ∃ k', k = k' + 1 := ⟨k - 1, by omega⟩
  conv => cbv
  refine Fit.mk (by show (-9223372036854775808 : Int) ≤ i + 1; omega) (by show i + 1 ≤ 9223372036854775807; omega) fun i2 hi2 => ?_
  have hi2 : i2 = i + 1 := hi2
  have e : F i = 1 + F i2 := by rw [hF, hF, hdr, lead_d c _ (by simp [isD]; omega), List.length_cons, show i2.toNat = i.toNat + 1 by omega]; omega
  conv => cbv
  refine Again.mk k' _ (Nat.lt_succ_self _) (Re.at [] []) ⟨i2, rfl, by omega, by omega, by omega, by omega⟩
set_option maxHeartbeats 4000000 in
theorem rNumber_lx (t : List UInt8) (z : ByteArray) (hz : z = bytesOfL t) (hlen : t.length ≤ 100000) : CallF (fun _ => Tryd.prog) 79 [.p (.str fun _ => z)] [] 0 (fun r h n => OptI (numO t) r ∧ h = [] ∧ n = 0) := by
  obtain ⟨N, hN⟩ : ∃ N : Int, N = t.length := ⟨_, rfl⟩
  have hzs : (z.size : Int) = N := by rw [hz, bol_size, hN]
  obtain ⟨F, hF⟩ : ∃ F : Int → Int, ∀ i, F i = numB (t.take i.toNat) := ⟨_, fun _ => rfl⟩
  have hF0 : F 0 = 0 := by rw [hF]; rfl
  have hFb : ∀ i : Int, i ≤ 4 → (∀ c ∈ t.take i.toNat, isD c = true) → 0 ≤ F i ∧ F i < 10000 := fun i h4 hi => by
    have h1 := numB_bound _ hi
    rw [← hF] at h1
    have h2 : (10 ^ (t.take i.toNat).length : Nat) ≤ 10 ^ 4 := Nat.pow_le_pow_right (by decide) (by rw [List.length_take]; omega)
    have h3 : ((10 ^ (t.take i.toNat).length : Nat) : Int) ≤ ((10000 : Nat) : Int) := Int.ofNat_le.2 h2
    omega
  refine callF_of_body tok Tryd.func79 (by kernel_rfl) rfl rfl rfl ?_; conv => cbv
  refine LoopF.mk (fun k s => ∃ v i : Int, s = ⟨.p (.str fun _ => z) :: (undefs 3 ++ .p (.int .i64 (.sym v)) :: .p (.int .i64 (.sym i)) :: undefs 32), [], 0⟩ ∧ 0 ≤ i ∧ i ≤ N ∧ i ≤ 4 ∧ v = F i ∧ (∀ c ∈ t.take i.toNat, isD c = true) ∧ k = (N - i).toNat) N.toNat _
    (Re.at [] []) ⟨0, 0, rfl, by omega, by omega, by omega, hF0.symm, by simp, by omega⟩ ?_
  rintro k s ⟨v, i, rfl, h0, h1, h4, hv, hall, hk⟩
  have hb := hFb i h4 hall
  conv => cbv
  refine Sum.mk fun zs hzs2 => ?_
  have hzs2 : zs = N := (show zs = (z.size : Int) from hzs2).trans hzs
  conv => cbv
  refine Br.mk (fun g => ?_) (fun g => ?_)
  case refine_2 =>
    have g : ¬ i < zs := g
    have hfull : t.take i.toNat = t := List.take_of_length_le (by omega)
    rw [hfull] at hall
    conv => cbv
    refine Sum.mk fun zs3 hzs3 => ?_
    have hzs3 : zs3 = N := (show zs3 = (z.size : Int) from hzs3).trans hzs
    conv => cbv
    refine Br.mk (fun g5 => ?_) (fun g5 => ?_)
    · have g5 : 0 < zs3 := g5
      have e : numO t = some v := by
        rw [numO_go t (by intro h; rw [h] at hN; simp at hN; omega) (by omega), if_pos (List.all_eq_true.2 hall), hv, hF, hfull]
      conv => cbv
      refine RetF.mk [.p (.int .i64 (.sym v)), .p (.bool true)] [] 0 (Re.at [] []) rfl ⟨.yes v e, rfl, rfl⟩
    · have g5 : ¬ 0 < zs3 := g5
      have e : numO t = none := by
        have : t = [] := List.length_eq_zero_iff.1 (by omega)
        rw [this]; rfl
      conv => cbv
      refine RetF.mk [.p (.int .i64 (.sym v)), .p (.bool false)] [] 0 (Re.at [] []) rfl ⟨.no v e, rfl, rfl⟩
  have g : i < zs := g
  obtain ⟨c, hc⟩ : ∃ c, t[i.toNat]? = some c := ⟨_, List.getElem?_eq_getElem (by omega)⟩
  have hget := bol_get t i.toNat c hc
  have hcm := List.mem_of_getElem? hc
  have hbad : isD c = false → numO t = none := fun hx => by
    have h : t.all isD = false := by
      cases h : t.all isD with
      | false => rfl
      | true => rw [List.all_eq_true.1 h c hcm] at hx; cases hx
    unfold numO
    rw [if_pos (.inr (.inr h))]
  conv => cbv
  refine Need.mk ⟨by show (0 : Int) ≤ i; omega, by show i < (z.size : Int); omega⟩ ?_
  conv => cbv
  refine Sum.mk fun y hy => ?_
  have hy : y = (c.toNat : Int) := by
    have : y = ((z.get! i.toNat).toNat : Int) := hy
    rw [this, hz, hget]
  conv => cbv
  refine Br.mk (fun g2 => ?_) (fun g2 => ?_)
  case refine_1 =>
    have g2 : y < 48 := g2
    have e := hbad (by simp [isD]; omega)
    conv => cbv
    refine RetF.mk [.p (.int .i64 (.sym 0)), .p (.bool false)] [] 0 (Re.at [] []) rfl ⟨.no 0 e, rfl, rfl⟩
  have g2 : ¬ y < 48 := g2
  conv => cbv
  refine Need.mk ⟨by show (0 : Int) ≤ i; omega, by show i < (z.size : Int); omega⟩ ?_
  conv => cbv
  refine Sum.mk fun y2 hy2 => ?_
  have hy2 : y2 = (c.toNat : Int) := by
    have : y2 = ((z.get! i.toNat).toNat : Int) := hy2
    rw [this, hz, hget]
  conv => cbv
  refine Br.mk (fun g3 => ?_) (fun g3 => ?_)
  case refine_1 =>
    have g3 : 57 < y2 := g3
    have e := hbad (by simp [isD]; omega)
    conv => cbv
    refine RetF.mk [.p (.int .i64 (.sym 0)), .p (.bool false)] [] 0 (Re.at [] []) rfl ⟨.no 0 e, rfl, rfl⟩
  have g3 : ¬ 57 < y2 := g3
  conv => cbv
  refine Br.mk (fun g4 => ?_) (fun g4 => ?_)
  case refine_1 =>
    have g4 : 3 < i := g4
    have e : numO t = none := by unfold numO; rw [if_pos (.inr (.inl (by omega)))]
    conv => cbv
    refine RetF.mk [.p (.int .i64 (.sym 0)), .p (.bool false)] [] 0 (Re.at [] []) rfl ⟨.no 0 e, rfl, rfl⟩
  have g4 : ¬ 3 < i := g4
  obtain ⟨k', rfl⟩ : ∃ k', k = k' + 1 := ⟨k - 1, by omega⟩
  have hdc : isD c = true := by simp [isD]; omega
  have htk : t.take (i + 1).toNat = t.take i.toNat ++ [c] := by rw [show (i + 1).toNat = i.toNat + 1 by omega, List.take_add_one, hc]; rfl
  have hFs : F (i + 1) = 10 * F i + (y2 - 48) := by rw [hF, hF, htk, numB_snoc, hy2]
  have hall2 : ∀ c ∈ t.take (i + 1).toNat, isD c = true := by
    rw [htk]
    intro d hd2
    rcases List.mem_append.1 hd2 with h | h
    · exact hall d h
    · rw [List.mem_singleton] at h; rw [h]; exact hdc
  conv => cbv
  refine Fit.mk (by show (-9223372036854775808 : Int) ≤ v * 10; omega) (by show v * 10 ≤ 9223372036854775807; omega) fun t1 ht1 => ?_
  have ht1 : t1 = v * 10 := ht1
  conv => cbv
  refine Need.mk ⟨by show (0 : Int) ≤ i; omega, by show i < (z.size : Int); omega⟩ ?_
  conv => cbv
  refine Sum.mk fun y3 hy3 => ?_
  have hy3 : y3 = (c.toNat : Int) := by
    have : y3 = ((z.get! i.toNat).toNat : Int) := hy3
    rw [this, hz, hget]
  conv => cbv
  refine Fit.mk (by show (0 : Int) ≤ y3 - 48; omega) (by show y3 - 48 ≤ 255; omega) fun t2 ht2 => ?_
  have ht2 : t2 = y3 - 48 := ht2
  conv => cbv
  refine Fit.mk (by show (-9223372036854775808 : Int) ≤ t2; omega) (by show t2 ≤ 9223372036854775807; omega) fun t3 ht3 => ?_
  have ht3 : t3 = t2 := ht3
  conv => cbv
  refine Fit.mk (by show (-9223372036854775808 : Int) ≤ t1 + t3; omega) (by show t1 + t3 ≤ 9223372036854775807; omega) fun t4 ht4 => ?_
  have ht4 : t4 = t1 + t3 := ht4
  conv => cbv
  refine Fit.mk (by show (-9223372036854775808 : Int) ≤ i + 1; omega) (by show i + 1 ≤ 9223372036854775807; omega) fun i2 hi2 => ?_
  have hi2 : i2 = i + 1 := hi2
  rw [← hi2] at hFs hall2
  conv => cbv
  refine Again.mk k' _ (Nat.lt_succ_self _) (Re.at [] []) ⟨t4, i2, rfl, by omega, by omega, by omega, by omega, hall2, by omega⟩
end Go.Proofs.YtfjdifeofnpcnaaDoor
/-
  Layer 2: the reference's line of a form.
-/
namespace Go.Proofs.YtfjdifeofnpcnaaDoor

open Go Go.LX
set_option maxRecDepth 100000
set_option linter.unusedVariables false
set_option linter.unusedSimpArgs false

def kmap (c : UInt8) : UInt8 := if c = 78 then 110 else if c = 110 then 100 else if c = 97 then 97 else 98
theorem lead_take (s : List UInt8) : s.take (lead s).length = lead s := by
  have h := lead_tail s
  generalize lead s = a at h ⊢
  generalize tail s = b at h
  subst h
  simp
theorem lead_drop (s : List UInt8) : s.drop (lead s).length = tail s := by
  have h := lead_tail s
  generalize lead s = a at h ⊢
  generalize tail s = b at h ⊢
  subst h
  simp
set_option maxHeartbeats 8000000 in
theorem simple_lx (op q : Int) (ar s : List UInt8) (az z : ByteArray) (haz : az = bytesOfL ar) (hz : z = bytesOfL s) (har : ar.length ≤ 5) (hlen : s.length ≤ 2000) :
    CallF (fun _ => Tryd.prog) 60 [.agg [.p (.int .i64 (.sym op)), .p (.int .u8 (.sym q)), .p (.str fun _ => az)], .p (.str fun _ => z)] [] 0 (fun r h n => OptX ((endB (rdB (ar.map kmap) s .zero)).map fun f => ⟨op, f.a, f.b, f.n, []⟩) r ∧ h = [] ∧ n = 0) := by
  obtain ⟨N, hN⟩ : ∃ N : Int, N = ar.length := ⟨_, rfl⟩
  have hazs : (az.size : Int) = N := by rw [haz, bol_size, hN]
  obtain ⟨T, hT⟩ : ∃ T, T = rdB (ar.map kmap) s .zero := ⟨_, rfl⟩
  rw [← hT]
  have hT0 : T = rdB ((ar.drop (0 : Int).toNat).map kmap) s ⟨0, 0, 0⟩ := hT
  refine callF_of_body tok Tryd.func60 (by kernel_rfl) rfl rfl rfl ?_; conv => cbv
  refine LoopF.mk (fun kk st => ∃ (i a b n : Int) (y : List UInt8) (yz : ByteArray), st = ⟨.undef :: .p (.str fun _ => yz) :: .ptr 0 (.lit 0) :: .undef :: .ptr 1 (.lit 0) :: .p (.bool false) :: .ptr 2 (.lit 0) :: .p (.int .i64 (.sym i)) :: undefs 70, [(2, .pure false [.int .i64 (.sym op), .int .i64 (.sym a), .int .i64 (.sym b), .int .i64 (.sym n), .nils]), (1, .pure false [.int .i64 (.sym 0), .int .i64 (.sym 0), .int .i64 (.sym 0), .int .i64 (.sym 0), .nils]), (0, .pure false [.int .i64 (.sym op), .int .u8 (.sym q), .str fun _ => az])], 3⟩ ∧ T = rdB ((ar.drop i.toNat).map kmap) y ⟨a, b, n⟩ ∧ yz = bytesOfL y ∧ y.length ≤ 2000 ∧ 0 ≤ i ∧ i ≤ N ∧ kk = (N - i).toNat) N.toNat _
    (Re.at [(0, 0), (1, 1), (2, 2)] []) ⟨0, 0, 0, 0, s, z, rfl, hT0, hz, hlen, by omega, by omega, by omega⟩ ?_
  clear hT0
  rintro kk st ⟨i, a, b, n, y, yz, rfl, hTi, hyz, hyl, h0, h1, hkk⟩
  have hyzs : (yz.size : Int) = y.length := by rw [hyz, bol_size]
  conv => cbv
  refine Sum.mk fun zs hzs2 => ?_
  have hzs2 : zs = N := (show zs = (az.size : Int) from hzs2).trans hazs
  conv => cbv
  refine Br.mk (fun g => ?_) (fun g => ?_)
  case refine_2 =>
    have g : ¬ i < zs := g
    rw [List.drop_of_length_le (by omega)] at hTi
    have hTi : T = some (⟨a, b, n⟩, y) := hTi
    conv => cbv
    refine Br.mk (fun g5 => ?_) (fun g5 => ?_)
    · have g5 : yz = ⟨#[]⟩ := g5
      have hy0 : y = [] := by rw [hyz] at g5; exact (bol_nil y).1 g5
      have e : (endB T).map (fun f => (⟨op, f.a, f.b, f.n, []⟩ : Is)) = some ⟨op, a, b, n, []⟩ := by rw [hTi, hy0]; rfl
      conv => cbv
      refine RetF.mk [.agg [.p (.int .i64 (.sym op)), .p (.int .i64 (.sym a)), .p (.int .i64 (.sym b)), .p (.int .i64 (.sym n)), .p (.vsl (.sym 0) true [])], .p (.bool true)] [] 0 (Re.at [] []) rfl ⟨.yes ⟨op, a, b, n, []⟩ 0 [] e rfl rfl, rfl, rfl⟩
    · have g5 : ¬ yz = ⟨#[]⟩ := g5
      have e : (endB T).map (fun f => (⟨op, f.a, f.b, f.n, []⟩ : Is)) = none := by
        rw [hTi]
        cases y with
        | nil => exact absurd (by rw [hyz]; rfl) g5
        | cons c y => rfl
      conv => cbv
      refine RetF.mk [.agg [.p (.int .i64 (.sym op)), .p (.int .i64 (.sym a)), .p (.int .i64 (.sym b)), .p (.int .i64 (.sym n)), .p (.vsl (.sym 0) true [])], .p (.bool false)] [] 0 (Re.at [] []) rfl ⟨.no op a b n 0 [] e, rfl, rfl⟩
  have g : i < zs := g
  obtain ⟨c, hc⟩ : ∃ c, ar[i.toNat]? = some c := ⟨_, List.getElem?_eq_getElem (by omega)⟩
  have hget := bol_get ar i.toNat c hc
  have hdr : ar.drop i.toNat = c :: ar.drop (i.toNat + 1) := by
    rw [List.drop_eq_getElem_cons (List.getElem?_eq_some_iff.1 hc).1, (List.getElem?_eq_some_iff.1 hc).2]
  rw [hdr] at hTi
  have hTi : T = match takeF (kmap c) y with
    | none => none
    | some (v, y') => rdB ((ar.drop (i.toNat + 1)).map kmap) y' ((⟨a, b, n⟩ : F3).set (kmap c) v) := by
    rw [hTi, List.map_cons, rdB]
    cases takeF (kmap c) y with
    | none => rfl
    | some x => rfl
  obtain ⟨k', rfl⟩ : ∃ k', kk = k' + 1 := ⟨kk - 1, by omega⟩
  conv => cbv
  refine Sum.mk fun ys hys => ?_
  have hys : ys = (y.length : Int) := (show ys = (yz.size : Int) from hys).trans hyzs
  conv => cbv
  refine Br.mk (fun g4 => ?_) (fun g4 => ?_)
  · have g4 : 0 < ys := g4
    obtain ⟨d, y1, hy1⟩ : ∃ d y1, y = d :: y1 := by
      cases y with
      | nil => rw [hys] at g4; exact absurd g4 (by decide)
      | cons d y1 => exact ⟨d, y1, rfl⟩
    conv => cbv
    refine Need.mk ⟨by show (0 : Int) ≤ i; omega, by show i < (az.size : Int); omega⟩ ?_
    conv => cbv
    refine Sum.mk fun w hw => ?_
    have hw : w = (c.toNat : Int) := by
      have : w = ((az.get! i.toNat).toNat : Int) := hw
      rw [this, haz, hget]
    conv => cbv
    refine Br.mk (fun g2 => ?_) (fun g2 => ?_)
    · have g2 : w = 78 := g2
      have hcc : c = 78 := UInt8.toNat_inj.1 (by show c.toNat = 78; omega)
      have hkm : kmap c = 110 := by rw [hcc]; rfl
      obtain ⟨v9, hv9⟩ : ∃ v9 : Int, v9 = (lead y).length := ⟨_, rfl⟩
      have hv9l : v9 ≤ y.length := by
        have := congrArg List.length (lead_tail y)
        rw [List.length_append] at this; omega
      have htk0 : takeF (kmap c) y = (numO (lead y)).map fun v => (v, tail y) := by rw [hkm]; unfold takeF; rw [if_neg (by decide), if_neg (by decide)]
      conv => cbv
      refine callF_frame (rest_lx y yz v9 hyz (by omega) hv9) [] rfl trivial rfl rfl (fun r2 h' n' ⟨e1, e2, e3⟩ => ?_)
      subst e1 e2 e3
      conv => cbv
      refine Need.mk ⟨by show (0 : Int) ≤ 0; omega, by show (0 : Int) ≤ v9; omega, by show v9 ≤ (yz.size : Int); omega⟩ ?_
      conv => cbv
      refine Str.mk fun y2 hy2 => ?_
      have hy2 : y2 = bytesOfL (lead y) := by
        have h1 : y2 = yz.extract (0 : Int).toNat v9.toNat := hy2
        rw [h1, hyz, bol_ext _ _ _ (by omega)]
        rw [show v9.toNat = (lead y).length by omega, lead_take]; rfl
      conv => cbv
      refine callF_frame (rNumber_lx (lead y) y2 hy2 (by omega)) [] rfl trivial rfl rfl (fun r2 h' n' hrr => ?_)
      obtain ⟨e1, e2, e3⟩ := hrr
      subst e2 e3
      cases e1 with
      | no v hv =>
        have htk : takeF (kmap c) y = none := by rw [htk0, hv]; rfl
        have e : (endB T).map (fun f => (⟨op, f.a, f.b, f.n, []⟩ : Is)) = none := by rw [hTi, htk]; rfl
        conv => cbv
        refine RetF.mk [.agg [.p (.int .i64 (.sym 0)), .p (.int .i64 (.sym 0)), .p (.int .i64 (.sym 0)), .p (.int .i64 (.sym 0)), .p (.vsl (.sym 0) true [])], .p (.bool false)] [] 0 (Re.at [] []) rfl ⟨.no 0 0 0 0 0 [] e, rfl, rfl⟩
      | yes v hv =>
        have htk : takeF (kmap c) y = some (v, tail y) := by rw [htk0, hv]; rfl
        have hset : (⟨a, b, n⟩ : F3).set (kmap c) v = ⟨a, b, v⟩ := by rw [hkm]; rfl
        rw [htk] at hTi
        have hTi := hTi.trans (congrArg (rdB _ _) hset)
        conv => cbv
        refine Need.mk ⟨by show (0 : Int) ≤ v9; omega, by show v9 ≤ (yz.size : Int); omega⟩ ?_
        conv => cbv
        refine Str.mk fun y3 hy3 => ?_
        have hy3 : y3 = bytesOfL (tail y) := by
          have h1 : y3 = yz.extract (v9 : Int).toNat yz.size := hy3
          rw [h1, hyz, bol_ext _ _ _ (by rw [bol_size]; exact Nat.le_refl _), bol_size, List.take_of_length_le (Nat.le_refl _)]
          rw [show v9.toNat = (lead y).length by omega, lead_drop]
        conv => cbv
        refine Fit.mk (by show (-9223372036854775808 : Int) ≤ i + 1; omega) (by show i + 1 ≤ 9223372036854775807; omega) fun i2 hi2 => ?_
        have hi2 : i2 = i + 1 := hi2
        rw [show i.toNat + 1 = i2.toNat by omega] at hTi
        conv => cbv
        refine Again.mk k' _ (Nat.lt_succ_self _) (Re.at [(0, 0), (1, 1), (2, 2)] []) ⟨i2, a, b, v, tail y, y3, rfl, hTi, hy3, by have := lead_le y; omega, by omega, by omega, by omega⟩
    have g2 : ¬ w = 78 := g2
    have hc78 : ¬ c = 78 := by rintro rfl; exact g2 (by rw [hw]; rfl)
    conv => cbv
    refine Br.mk (fun g2 => ?_) (fun g2 => ?_)
    · have g2 : w = 110 := g2
      have hcc : c = 110 := UInt8.toNat_inj.1 (by show c.toNat = 110; omega)
      have hkm : kmap c = 100 := by rw [hcc]; rfl
      have htk0 : takeF (kmap c) y = (numO [d]).map fun v => (v, y1) := by rw [hkm, hy1]; unfold takeF; rw [if_neg (by decide), if_pos rfl]
      conv => cbv
      refine Need.mk ⟨by show (0 : Int) ≤ 0; omega, by show (0 : Int) ≤ 1; omega, by show (1 : Int) ≤ (yz.size : Int); omega⟩ ?_
      conv => cbv
      refine Str.mk fun y2 hy2 => ?_
      have hy2 : y2 = bytesOfL [d] := by
        have h1 : y2 = yz.extract (0 : Int).toNat (1 : Int).toNat := hy2
        rw [h1, hyz, bol_ext _ _ _ (by rw [hy1, List.length_cons]; show 1 ≤ _; omega), hy1]; rfl
      conv => cbv
      refine callF_frame (rNumber_lx [d] y2 hy2 (by simp)) [] rfl trivial rfl rfl (fun r2 h' n' hrr => ?_)
      obtain ⟨e1, e2, e3⟩ := hrr
      subst e2 e3
      cases e1 with
      | no v hv =>
        have htk : takeF (kmap c) y = none := by rw [htk0, hv]; rfl
        have e : (endB T).map (fun f => (⟨op, f.a, f.b, f.n, []⟩ : Is)) = none := by rw [hTi, htk]; rfl
        conv => cbv
        refine RetF.mk [.agg [.p (.int .i64 (.sym 0)), .p (.int .i64 (.sym 0)), .p (.int .i64 (.sym 0)), .p (.int .i64 (.sym 0)), .p (.vsl (.sym 0) true [])], .p (.bool false)] [] 0 (Re.at [] []) rfl ⟨.no 0 0 0 0 0 [] e, rfl, rfl⟩
      | yes v hv =>
        have htk : takeF (kmap c) y = some (v, y1) := by rw [htk0, hv]; rfl
        have hset : (⟨a, b, n⟩ : F3).set (kmap c) v = ⟨a, b, v⟩ := by rw [hkm]; rfl
        rw [htk] at hTi
        have hTi := hTi.trans (congrArg (rdB _ _) hset)
        conv => cbv
        refine Need.mk ⟨by show (0 : Int) ≤ 1; omega, by show 1 ≤ (yz.size : Int); omega⟩ ?_
        conv => cbv
        refine Str.mk fun y3 hy3 => ?_
        have hy3 : y3 = bytesOfL (y1) := by
          have h1 : y3 = yz.extract (1 : Int).toNat yz.size := hy3
          rw [h1, hyz, bol_ext _ _ _ (by rw [bol_size]; exact Nat.le_refl _), bol_size, List.take_of_length_le (Nat.le_refl _)]
          rw [hy1]; rfl
        conv => cbv
        refine Fit.mk (by show (-9223372036854775808 : Int) ≤ i + 1; omega) (by show i + 1 ≤ 9223372036854775807; omega) fun i2 hi2 => ?_
        have hi2 : i2 = i + 1 := hi2
        rw [show i.toNat + 1 = i2.toNat by omega] at hTi
        conv => cbv
        refine Again.mk k' _ (Nat.lt_succ_self _) (Re.at [(0, 0), (1, 1), (2, 2)] []) ⟨i2, a, b, v, y1, y3, rfl, hTi, hy3, by rw [hy1, List.length_cons] at hyl; omega, by omega, by omega, by omega⟩
    have g2 : ¬ w = 110 := g2
    have hc110 : ¬ c = 110 := by rintro rfl; exact g2 (by rw [hw]; rfl)
    conv => cbv
    refine Br.mk (fun g2 => ?_) (fun g2 => ?_)
    · have g2 : w = 97 := g2
      have hcc : c = 97 := UInt8.toNat_inj.1 (by show c.toNat = 97; omega)
      have hkm : kmap c = 97 := by rw [hcc]; rfl
      have htk0 : takeF (kmap c) y = (regO d).map fun v => (v, y1) := by rw [hkm, hy1]; unfold takeF; rw [if_pos (by decide)]
      conv => cbv
      refine Need.mk ⟨by show (0 : Int) ≤ 0; omega, by show (0 : Int) < (yz.size : Int); omega⟩ ?_
      conv => cbv
      refine Sum.mk fun w2 hw2 => ?_
      have hw2 : w2 = (d.toNat : Int) := by
        have : w2 = ((yz.get! (0 : Int).toNat).toNat : Int) := hw2
        rw [this, hyz, bol_get y _ d (by rw [hy1]; rfl)]
      have hdl := d.toNat_lt
      conv => cbv
      refine Fit.mk (by show (-9223372036854775808 : Int) ≤ w2; omega) (by show w2 ≤ 9223372036854775807; omega) fun w3 hw3 => ?_
      have hw3 : w3 = w2 := hw3
      conv => cbv
      refine callF_frame (rReg_lx w3 (by omega) (by omega)) [] rfl trivial rfl rfl (fun r2 h' n' hrr => ?_)
      obtain ⟨e1, e2, e3⟩ := hrr
      subst e2 e3
      rw [hw3, hw2, regI_nat] at e1
      cases e1 with
      | no v hv =>
        have htk : takeF (kmap c) y = none := by rw [htk0, hv]; rfl
        have e : (endB T).map (fun f => (⟨op, f.a, f.b, f.n, []⟩ : Is)) = none := by rw [hTi, htk]; rfl
        conv => cbv
        refine RetF.mk [.agg [.p (.int .i64 (.sym 0)), .p (.int .i64 (.sym 0)), .p (.int .i64 (.sym 0)), .p (.int .i64 (.sym 0)), .p (.vsl (.sym 0) true [])], .p (.bool false)] [] 0 (Re.at [] []) rfl ⟨.no 0 0 0 0 0 [] e, rfl, rfl⟩
      | yes v hv =>
        have htk : takeF (kmap c) y = some (v, y1) := by rw [htk0, hv]; rfl
        have hset : (⟨a, b, n⟩ : F3).set (kmap c) v = ⟨v, b, n⟩ := by rw [hkm]; rfl
        rw [htk] at hTi
        have hTi := hTi.trans (congrArg (rdB _ _) hset)
        conv => cbv
        refine Need.mk ⟨by show (0 : Int) ≤ 1; omega, by show 1 ≤ (yz.size : Int); omega⟩ ?_
        conv => cbv
        refine Str.mk fun y3 hy3 => ?_
        have hy3 : y3 = bytesOfL (y1) := by
          have h1 : y3 = yz.extract (1 : Int).toNat yz.size := hy3
          rw [h1, hyz, bol_ext _ _ _ (by rw [bol_size]; exact Nat.le_refl _), bol_size, List.take_of_length_le (Nat.le_refl _)]
          rw [hy1]; rfl
        conv => cbv
        refine Fit.mk (by show (-9223372036854775808 : Int) ≤ i + 1; omega) (by show i + 1 ≤ 9223372036854775807; omega) fun i2 hi2 => ?_
        have hi2 : i2 = i + 1 := hi2
        rw [show i.toNat + 1 = i2.toNat by omega] at hTi
        conv => cbv
        refine Again.mk k' _ (Nat.lt_succ_self _) (Re.at [(0, 0), (1, 1), (2, 2)] []) ⟨i2, v, b, n, y1, y3, rfl, hTi, hy3, by rw [hy1, List.length_cons] at hyl; omega, by omega, by omega, by omega⟩
    have g2 : ¬ w = 97 := g2
    have hc97 : ¬ c = 97 := by rintro rfl; exact g2 (by rw [hw]; rfl)
    conv => cbv
    have hkm : kmap c = 98 := by unfold kmap; rw [if_neg hc78, if_neg hc110, if_neg hc97]
    have htk0 : takeF (kmap c) y = (regO d).map fun v => (v, y1) := by rw [hkm, hy1]; unfold takeF; rw [if_pos (by decide)]
    conv => cbv
    refine Need.mk ⟨by show (0 : Int) ≤ 0; omega, by show (0 : Int) < (yz.size : Int); omega⟩ ?_
    conv => cbv
    refine Sum.mk fun w2 hw2 => ?_
    have hw2 : w2 = (d.toNat : Int) := by
      have : w2 = ((yz.get! (0 : Int).toNat).toNat : Int) := hw2
      rw [this, hyz, bol_get y _ d (by rw [hy1]; rfl)]
    have hdl := d.toNat_lt
    conv => cbv
    refine Fit.mk (by show (-9223372036854775808 : Int) ≤ w2; omega) (by show w2 ≤ 9223372036854775807; omega) fun w3 hw3 => ?_
    have hw3 : w3 = w2 := hw3
    conv => cbv
    refine callF_frame (rReg_lx w3 (by omega) (by omega)) [] rfl trivial rfl rfl (fun r2 h' n' hrr => ?_)
    obtain ⟨e1, e2, e3⟩ := hrr
    subst e2 e3
    rw [hw3, hw2, regI_nat] at e1
    cases e1 with
    | no v hv =>
      have htk : takeF (kmap c) y = none := by rw [htk0, hv]; rfl
      have e : (endB T).map (fun f => (⟨op, f.a, f.b, f.n, []⟩ : Is)) = none := by rw [hTi, htk]; rfl
      conv => cbv
      refine RetF.mk [.agg [.p (.int .i64 (.sym 0)), .p (.int .i64 (.sym 0)), .p (.int .i64 (.sym 0)), .p (.int .i64 (.sym 0)), .p (.vsl (.sym 0) true [])], .p (.bool false)] [] 0 (Re.at [] []) rfl ⟨.no 0 0 0 0 0 [] e, rfl, rfl⟩
    | yes v hv =>
      have htk : takeF (kmap c) y = some (v, y1) := by rw [htk0, hv]; rfl
      have hset : (⟨a, b, n⟩ : F3).set (kmap c) v = ⟨a, v, n⟩ := by rw [hkm]; rfl
      rw [htk] at hTi
      have hTi := hTi.trans (congrArg (rdB _ _) hset)
      conv => cbv
      refine Need.mk ⟨by show (0 : Int) ≤ 1; omega, by show 1 ≤ (yz.size : Int); omega⟩ ?_
      conv => cbv
      refine Str.mk fun y3 hy3 => ?_
      have hy3 : y3 = bytesOfL (y1) := by
        have h1 : y3 = yz.extract (1 : Int).toNat yz.size := hy3
        rw [h1, hyz, bol_ext _ _ _ (by rw [bol_size]; exact Nat.le_refl _), bol_size, List.take_of_length_le (Nat.le_refl _)]
        rw [hy1]; rfl
      conv => cbv
      refine Fit.mk (by show (-9223372036854775808 : Int) ≤ i + 1; omega) (by show i + 1 ≤ 9223372036854775807; omega) fun i2 hi2 => ?_
      have hi2 : i2 = i + 1 := hi2
      rw [show i.toNat + 1 = i2.toNat by omega] at hTi
      conv => cbv
      refine Again.mk k' _ (Nat.lt_succ_self _) (Re.at [(0, 0), (1, 1), (2, 2)] []) ⟨i2, a, v, n, y1, y3, rfl, hTi, hy3, by rw [hy1, List.length_cons] at hyl; omega, by omega, by omega, by omega⟩
  · have g4 : ¬ 0 < ys := g4
    have hy0 : y = [] := List.length_eq_zero_iff.1 (by omega)
    conv => cbv
    refine Need.mk ⟨by show (0 : Int) ≤ i; omega, by show i < (az.size : Int); omega⟩ ?_
    conv => cbv
    refine Sum.mk fun w hw => ?_
    have hw : w = (c.toNat : Int) := by
      have : w = ((az.get! i.toNat).toNat : Int) := hw
      rw [this, haz, hget]
    conv => cbv
    refine Br.mk (fun g2 => ?_) (fun g2 => ?_)
    · have g2 : w = 78 := g2
      have hcc : c = 78 := UInt8.toNat_inj.1 (by show c.toNat = 78; omega)
      have hkm : kmap c = 110 := by rw [hcc]; rfl
      obtain ⟨v9, hv9⟩ : ∃ v9 : Int, v9 = (lead y).length := ⟨_, rfl⟩
      have hv9l : v9 ≤ y.length := by
        have := congrArg List.length (lead_tail y)
        rw [List.length_append] at this; omega
      have htk0 : takeF (kmap c) y = (numO (lead y)).map fun v => (v, tail y) := by rw [hkm]; unfold takeF; rw [if_neg (by decide), if_neg (by decide)]
      conv => cbv
      refine callF_frame (rest_lx y yz v9 hyz (by omega) hv9) [] rfl trivial rfl rfl (fun r2 h' n' ⟨e1, e2, e3⟩ => ?_)
      subst e1 e2 e3
      conv => cbv
      refine Need.mk ⟨by show (0 : Int) ≤ 0; omega, by show (0 : Int) ≤ v9; omega, by show v9 ≤ (yz.size : Int); omega⟩ ?_
      conv => cbv
      refine Str.mk fun y2 hy2 => ?_
      have hy2 : y2 = bytesOfL (lead y) := by
        have h1 : y2 = yz.extract (0 : Int).toNat v9.toNat := hy2
        rw [h1, hyz, bol_ext _ _ _ (by omega)]
        rw [show v9.toNat = (lead y).length by omega, lead_take]; rfl
      conv => cbv
      refine callF_frame (rNumber_lx (lead y) y2 hy2 (by omega)) [] rfl trivial rfl rfl (fun r2 h' n' hrr => ?_)
      obtain ⟨e1, e2, e3⟩ := hrr
      subst e2 e3
      cases e1 with
      | no v hv =>
        have htk : takeF (kmap c) y = none := by rw [htk0, hv]; rfl
        have e : (endB T).map (fun f => (⟨op, f.a, f.b, f.n, []⟩ : Is)) = none := by rw [hTi, htk]; rfl
        conv => cbv
        refine RetF.mk [.agg [.p (.int .i64 (.sym 0)), .p (.int .i64 (.sym 0)), .p (.int .i64 (.sym 0)), .p (.int .i64 (.sym 0)), .p (.vsl (.sym 0) true [])], .p (.bool false)] [] 0 (Re.at [] []) rfl ⟨.no 0 0 0 0 0 [] e, rfl, rfl⟩
      | yes v hv =>
        have htk : takeF (kmap c) y = some (v, tail y) := by rw [htk0, hv]; rfl
        have hset : (⟨a, b, n⟩ : F3).set (kmap c) v = ⟨a, b, v⟩ := by rw [hkm]; rfl
        rw [htk] at hTi
        have hTi := hTi.trans (congrArg (rdB _ _) hset)
        conv => cbv
        refine Need.mk ⟨by show (0 : Int) ≤ v9; omega, by show v9 ≤ (yz.size : Int); omega⟩ ?_
        conv => cbv
        refine Str.mk fun y3 hy3 => ?_
        have hy3 : y3 = bytesOfL (tail y) := by
          have h1 : y3 = yz.extract (v9 : Int).toNat yz.size := hy3
          rw [h1, hyz, bol_ext _ _ _ (by rw [bol_size]; exact Nat.le_refl _), bol_size, List.take_of_length_le (Nat.le_refl _)]
          rw [show v9.toNat = (lead y).length by omega, lead_drop]
        conv => cbv
        refine Fit.mk (by show (-9223372036854775808 : Int) ≤ i + 1; omega) (by show i + 1 ≤ 9223372036854775807; omega) fun i2 hi2 => ?_
        have hi2 : i2 = i + 1 := hi2
        rw [show i.toNat + 1 = i2.toNat by omega] at hTi
        conv => cbv
        refine Again.mk k' _ (Nat.lt_succ_self _) (Re.at [(0, 0), (1, 1), (2, 2)] []) ⟨i2, a, b, v, tail y, y3, rfl, hTi, hy3, by have := lead_le y; omega, by omega, by omega, by omega⟩
    have g2 : ¬ w = 78 := g2
    have hc78 : ¬ c = 78 := by rintro rfl; exact g2 (by rw [hw]; rfl)
    conv => cbv
    refine Br.mk (fun g2 => ?_) (fun g2 => ?_)
    · have g2 : w = 110 := g2
      have hcc : c = 110 := UInt8.toNat_inj.1 (by show c.toNat = 110; omega)
      have hkm : kmap c = 100 := by rw [hcc]; rfl
      have htk : takeF (kmap c) y = none := by rw [hkm, hy0]; rfl
      have e : (endB T).map (fun f => (⟨op, f.a, f.b, f.n, []⟩ : Is)) = none := by rw [hTi, htk]; rfl
      conv => cbv
      refine RetF.mk [.agg [.p (.int .i64 (.sym 0)), .p (.int .i64 (.sym 0)), .p (.int .i64 (.sym 0)), .p (.int .i64 (.sym 0)), .p (.vsl (.sym 0) true [])], .p (.bool false)] [] 0 (Re.at [] []) rfl ⟨.no 0 0 0 0 0 [] e, rfl, rfl⟩
    have g2 : ¬ w = 110 := g2
    have hc110 : ¬ c = 110 := by rintro rfl; exact g2 (by rw [hw]; rfl)
    conv => cbv
    refine Br.mk (fun g2 => ?_) (fun g2 => ?_)
    · have g2 : w = 97 := g2
      have hcc : c = 97 := UInt8.toNat_inj.1 (by show c.toNat = 97; omega)
      have hkm : kmap c = 97 := by rw [hcc]; rfl
      have htk : takeF (kmap c) y = none := by rw [hkm, hy0]; rfl
      have e : (endB T).map (fun f => (⟨op, f.a, f.b, f.n, []⟩ : Is)) = none := by rw [hTi, htk]; rfl
      conv => cbv
      refine RetF.mk [.agg [.p (.int .i64 (.sym 0)), .p (.int .i64 (.sym 0)), .p (.int .i64 (.sym 0)), .p (.int .i64 (.sym 0)), .p (.vsl (.sym 0) true [])], .p (.bool false)] [] 0 (Re.at [] []) rfl ⟨.no 0 0 0 0 0 [] e, rfl, rfl⟩
    have g2 : ¬ w = 97 := g2
    have hc97 : ¬ c = 97 := by rintro rfl; exact g2 (by rw [hw]; rfl)
    conv => cbv
    have hkm : kmap c = 98 := by unfold kmap; rw [if_neg hc78, if_neg hc110, if_neg hc97]
    have htk : takeF (kmap c) y = none := by rw [hkm, hy0]; rfl
    have e : (endB T).map (fun f => (⟨op, f.a, f.b, f.n, []⟩ : Is)) = none := by rw [hTi, htk]; rfl
    conv => cbv
    refine RetF.mk [.agg [.p (.int .i64 (.sym 0)), .p (.int .i64 (.sym 0)), .p (.int .i64 (.sym 0)), .p (.int .i64 (.sym 0)), .p (.vsl (.sym 0) true [])], .p (.bool false)] [] 0 (Re.at [] []) rfl ⟨.no 0 0 0 0 0 [] e, rfl, rfl⟩
end Go.Proofs.YtfjdifeofnpcnaaDoor
