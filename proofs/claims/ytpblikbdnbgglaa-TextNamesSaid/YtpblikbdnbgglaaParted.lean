/-
  text.parted: the lines of a text whose signs may all stand.
-/
import Derived.Test.YtpblikbdnbgglaaText
import Derived.Test.YtpblikbdnbgglaaBuilder
import Derived.Test.YtpblikbdnbgglaaShelf
import Derived.Maps.AppendAt
import Derived.Lib.HexFns
namespace Go.Proofs.Ytpblikbdnbgglaa
open Go.RowKit

theorem info_str : (Try.prog.info? 9).map (fun i => (i.zero, i.size, i.bytes)) = some (some (.string ⟨#[]⟩), 1, 16) := by kernel_rfl

/-- A row of another kind of elements stays while a builder is written to. -/
theorem row_others {w w' : World} {base : Nat} {v : Value} {n size : Nat} {xs : List Value} {e : TypeId} {b : Nat} (h : w.ownsRow base e size v n xs) (he : e ≠ 5) (hb : v.ownBlock ≠ some b) (hk : Lib.OthersKept 5 (some b) w w') : w'.ownsRow base e size v n xs := by
  obtain ⟨h1, h2⟩ := h
  refine ⟨h1, ?_⟩
  rcases h2 with h2 | ⟨g, cap, cur, rfl, hg, hh, r⟩
  · exact .inl h2
  · refine .inr ⟨g, cap, cur, rfl, hg, hk g _ hh (fun e => hb (by rw [← e]; rfl)) (fun c fz hc => he (by injection hc)), r⟩
/-- A builder stays one while a row of another kind is appended to. -/
theorem bd_grown {w w' : World} {B b : Nat} {bs : List Value} {row : Option Nat} (h : Lib.IsBuilderF 68 5 B b bs w) (hg : w.grownBy w' row) (hrow : ∀ g, row = some g → ∃ c, w.heap[g]? = some (.cells c 9 (0, 0))) : Lib.IsBuilderF 68 5 B b bs w' := by
  have key : ∀ p, Lib.BuilderAtF 68 5 B b p bs w → Lib.BuilderAtF 68 5 B b p bs w' := by
    rintro p ⟨hB, v, hb, hown, hne⟩
    have hlt : b < w.heap.size := lt_of_block hb
    refine ⟨hB, v, (hg.block b hlt (fun e => ?_)).trans hb, hown.kept hg ?_, hne⟩
    · obtain ⟨c, hc⟩ := hrow b e.symm
      rw [hb] at hc
      injection hc with hc
      injection hc with _ h2
      exact absurd h2 (by decide)
    · rcases hown.2 with ⟨rfl, _⟩ | ⟨g, cap, cur, fz, rfl, _, hh, _⟩
      · exact .inl rfl
      · right
        intro e
        obtain ⟨c, hc⟩ := hrow g e.symm
        rw [hh] at hc
        injection hc with hc
        injection hc with _ h2
        exact absurd h2 (by decide)
  exact h.elim (fun x => .inl (key _ x)) (fun x => .inr (key _ x))
theorem row_kind {w : World} {base n : Nat} {v : Value} {xs : List Value} {e : TypeId} {size : Nat} (h : w.ownsRow base e size v n xs) : ∀ g, v.ownBlock = some g → ∃ c, w.heap[g]? = some (.cells c e (0, 0)) := by
  intro g hg
  rcases h.2 with ⟨rfl, _⟩ | ⟨g', cap, cur, rfl, _, hh, _⟩
  · simp [Value.ownBlock] at hg
  · simp [Value.ownBlock] at hg; subst hg; exact ⟨_, hh⟩
theorem row_ne {w : World} {base n : Nat} {v : Value} {xs : List Value} {e : TypeId} {size b : Nat} {o : Obj} (h : w.ownsRow base e size v n xs) (hb : w.heap[b]? = some o) (ho : ∀ c, o ≠ .cells c e (0, 0)) : v.ownBlock ≠ some b := by
  intro hg
  obtain ⟨c, hc⟩ := row_kind h b hg
  rw [hb] at hc
  exact ho c (Option.some.inj hc)

set_option maxRecDepth 100000 in
theorem reset_any (B b : Nat) (bs : List Value) (w : World) (h : Lib.IsBuilderF 68 5 B b bs w) :
    Calls Try.prog 45 #[.pointer (some ⟨b, 0, none⟩)] w fun e w' => e = .returned (.tuple #[]) ∧ (Lib.IsBuilderF 68 5 B b [] w' ∧ Below B w w' ∧ Lib.OthersKept 5 (some b) w w') := by
  obtain ⟨p, hB, v, hbk, -⟩ : ∃ p, B ≤ b ∧ ∃ v, w.heap[b]? = some (.cells #[p, v] 68 (0, 0)) ∧ True := by
    rcases h with ⟨h1, v, h2, _⟩ | ⟨h1, v, h2, _⟩
    · exact ⟨_, h1, v, h2, trivial⟩
    · exact ⟨_, h1, v, h2, trivial⟩
  clear h
  have hlt : b < w.heap.size := lt_of_block hbk
  have c0 : w.cell? ⟨b, 0, none⟩ = some p := by rw [Lib.cell_of_heap hbk]; rfl
  have c1 : w.cell? ⟨b, 1, none⟩ = some v := by rw [Lib.cell_of_heap hbk]; rfl
  have f0 : w.frozen? ⟨b, 0, none⟩ = false := Lib.frozen_of_heap hbk 0
  have f1 : w.frozen? ⟨b, 1, none⟩ = false := Lib.frozen_of_heap hbk 1
  have HBK := Lib.hid hbk
  clear hbk
  go_enter Try.func45, Try.ntmps45
  go_wp2_with fail
  go_end0
  refine ⟨rfl, .inl ⟨hB, .slice none 0 0, ?_, ?_, by simp [Value.ownBlock]⟩, ((Below.refl B w).setCell (p := ⟨b, 0, none⟩) hB _).setCell (p := ⟨b, 1, none⟩) hB _, ((Lib.OthersKept.refl _ _ w).setCell ⟨b, 0, none⟩ rfl _).setCell ⟨b, 1, none⟩ rfl _⟩
  · simp [World.setCell, Array.getElem?_modify, HBK.out]
  · exact ⟨rfl, .inl ⟨rfl, rfl⟩⟩

def addLine (l : List ByteArray) (x : ByteArray) : List ByteArray := if x.toList.isEmpty then l else l ++ [x]
set_option maxRecDepth 100000 in
theorem withLine_any (base : Nat) (v : Value) (l : List ByteArray) (x : ByteArray) (w : World) (hown : w.ownsRow base 9 1 v l.length (l.map Value.string)) (hlen : l.length < 1000000000000) (hBw : base ≤ w.heap.size) :
    Calls Try.prog 43 #[v, .string x] w fun e w' => ∃ v', e = .returned v' ∧ (w'.ownsRow base 9 1 v' (addLine l x).length ((addLine l x).map Value.string) ∧ w.grownBy w' v.ownBlock) := by
  obtain ⟨i0, hi, hz0, hz1, hz2⟩ := info_parts info_str
  have HO := Lib.hid hown
  clear hown
  by_cases hx : x.toList.isEmpty = true
  · have HX : Hid (addLine l x = l) := Lib.hid (if_pos hx)
    go_enter Try.func43, Try.ntmps43
    go_wp2_with fail
    go_ret
    exact ⟨_, rfl, by rw [HX.out]; exact HO.out, ⟨rfl, rfl, rfl, Nat.le_refl _, fun _ _ _ => rfl⟩⟩
  · have HX : Hid (addLine l x = l ++ [x]) := Lib.hid (if_neg hx)
    have hx2 : x.toList.isEmpty = false := by simpa using hx
    clear hx
    go_enter Try.func43, Try.ntmps43
    go_wp2_with (at_builtin; refine wpList_append_own _ rfl _ _ 23 rfl base 9 i0 (.string ⟨#[]⟩) 1 16 Try.underlying23 hi hz0 hz1 hz2 rfl (by decide) _ _ _ rfl (HO.out.alloc _) ⟨w.heap.size, 0, none⟩ 1 1 [.string x] rfl rfl (cell_one_new _ _ _) (fun u hu => by simp at hu; rcases hu with rfl; rfl) (by unfold maxLen; omega) (by omega) (by simp; omega) ?_; intro v' w3 hown' hgrow3 hnil3; have X := Lib.hid (And.intro hown' (Lib.grownBy_trans (World.grownBy_alloc w _ v.ownBlock) hgrow3)); clear hown' hgrow3 hnil3)
    go_ret
    exact ⟨_, rfl, by rw [HX.out]; simpa using X.out.1, X.out.2⟩
end Go.Proofs.Ytpblikbdnbgglaa
