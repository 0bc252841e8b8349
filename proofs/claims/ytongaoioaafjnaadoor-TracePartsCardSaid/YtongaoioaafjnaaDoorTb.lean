/-
  Package trace: what is told of an event.
-/
import Derived.Test.YtongaoioaafjnaaDoorTa
import Derived.Test.YtongaoioaafjnaaDoorBv
import Derived.Test.YtongaoioaafjnaaDoorShelf
import Derived.Lib.LaidTab
import Derived.Lib.ItoaLen
namespace Go.Proofs.YtongaoioaafjnaaDoor
open Go Go.LX
set_option maxRecDepth 100000
set_option linter.unusedVariables false
set_option linter.unusedSimpArgs false

/-- The table of the powers of ten, as it is laid. -/
def IsPow (o : Unit → Obj) : Prop := ∃ t fr, o () = .cells (Lib.pow10Tab.map fun z => Value.int .u64 z).toArray t fr
theorem one_arg {c : Ctx} {w : World} {u : LV} {xs : Array Value} (hl : [u].length = xs.size) (hrel : ∀ (i : Nat) (v : LV), [u][i]? = some v → LR c w v (xs.getD i Go.undef)) : ∃ x, xs = #[x] ∧ LR c w u x := by
  have h0 := hrel 0 u rfl
  rcases xs with ⟨l⟩
  match l, hl with
  | [x], _ => exact ⟨x, rfl, h0⟩
theorem two_args {c : Ctx} {w : World} {u v : LV} {xs : Array Value} (hl : [u, v].length = xs.size) (hrel : ∀ (i : Nat) (z : LV), [u, v][i]? = some z → LR c w z (xs.getD i Go.undef)) : ∃ x y, xs = #[x, y] ∧ LR c w u x ∧ LR c w v y := by
  have h0 := hrel 0 u rfl
  have h1 := hrel 1 v rfl
  rcases xs with ⟨l⟩
  match l, hl with
  | [x, y], _ => exact ⟨x, y, rfl, h0, h1⟩
theorem grow_below (w : World) (k : Nat) (os : Array Obj) : RowKit.Below w.heap.size w (Go.Sort.grow (w.drewN k) os) := by
  refine ⟨rfl, rfl, rfl, by simp [Go.Sort.grow], fun i hi => ?_⟩
  show (w.heap ++ os)[i]? = w.heap[i]?
  rw [Array.getElem?_append_left hi]
theorem itoa_lx (n : Int) (h0 : -9223372036854775808 ≤ n) (h1 : n ≤ 9223372036854775807) (o : Unit → Obj) (ho : IsPow o) :
    CallF (fun _ => Tryd.prog) 18 [.p (.int .i64 (.sym n))] [(0, .fix 0 o)] 1 (fun r h n' => (∃ z : ByteArray, r = .p (.str fun _ => z) ∧ z = ⟨(Lib.itoa n).toArray⟩) ∧ h = [(0, .fix 0 o)] ∧ n' = 1) := by
  refine callF_calls (K := fun r => ∃ z : ByteArray, r = .p (.str fun _ => z) ∧ z = ⟨(Lib.itoa n).toArray⟩) ⟨_, _, Tryd.func18, by kernel_rfl, rfl⟩ fun c w xs hr hN hl hrel => ?_
  obtain ⟨x, rfl, hx⟩ := one_arg hl hrel
  have hx : x = .int .i64 n := hx.inv_int
  subst hx
  obtain ⟨m, hm, hB⟩ := hr.live 0 _ rfl
  cases m with
  | some r => exact hB.elim
  | none =>
    obtain ⟨hheap, _⟩ := hB
    obtain ⟨t, fr, hot⟩ := ho
    have htab : Lib.TabIs Tryd.prog w "internal/strconv.uint64pow10" .u64 Lib.pow10Tab := by
      have hg : Tryd.prog.globalNamed "internal/strconv.uint64pow10" = some 0 := by kernel_rfl
      unfold Lib.TabIs World.var?
      rw [hg]
      simp only [Option.bind_some, hheap, hot]
    refine (Tryd.strconv_Itoa n h0 h1 w htab).mono fun e w' ⟨he, k, os, hw⟩ => ?_
    subst hw
    exact ⟨_, _, he, ⟨_, rfl, rfl⟩, grow_below w k os, fun c' => .p _ _ (.str _)⟩

def i64 (a : Int) : Prop := -9223372036854775808 ≤ a ∧ a ≤ 9223372036854775807
def line : Ev → List UInt8
  | (k, g, v, f) =>
    if k = 1 then [111, 117, 116, 32] ++ Lib.itoa g ++ [32] ++ (if f then [42] else Lib.itoa v)
    else if k = 2 then [101, 120, 105, 116, 32] ++ Lib.itoa g
    else if k = 5 then [101, 110, 100, 32] ++ Lib.itoa v ++ [32] ++ Lib.itoa g
    else if k = 3 then [114, 101, 99, 108, 97, 105, 109, 32] ++ Lib.itoa g
    else if k = 4 then [102, 105, 110, 97, 108, 32] ++ Lib.itoa v
    else []
def Shown (e : Ev) : Prop := e.1 = 1 ∨ e.1 = 2 ∨ e.1 = 5
def Hidden (e : Ev) : Prop := e.1 = 3 ∨ e.1 = 4
def evOk (e : Ev) : Prop := i64 e.1 ∧ i64 e.2.1 ∧ i64 e.2.2.1
/-- What look answers. -/
inductive Looked (e : Ev) : LV → Prop
  | shown (z : ByteArray) (hs : Shown e) (hz : z = ⟨(line e).toArray⟩) : Looked e (.iface 43 (.agg [.p (.str fun _ => z)]))
  | hid (z : ByteArray) (b : Bool) (hs : Hidden e) (hz : z = ⟨(line e).toArray⟩) (hb : b = true ↔ e.1 = 3) : Looked e (.iface 35 (.agg [.p (.str fun _ => z), .p (.bool b)]))
  | nothing (hs : ¬ Shown e) (hs2 : ¬ Hidden e) : Looked e (.p .nilif)
theorem mk_size (l : List UInt8) : (ByteArray.mk l.toArray).size = l.length := by show l.toArray.size = _; simp
set_option maxHeartbeats 4000000 in
theorem look_lx (k g v : Int) (f : Bool) (he : evOk (k, g, v, f)) (o : Unit → Obj) (ho : IsPow o) :
    CallF (fun _ => Tryd.prog) 11 [.agg [.p (.int .i64 (.sym k)), .p (.int .i64 (.sym g)), .p (.int .i64 (.sym v)), .p (.bool f)]] [(0, .fix 0 o)] 1 (fun r h n => Looked (k, g, v, f) r ∧ h = [(0, .fix 0 o)] ∧ n = 1) := by
  obtain ⟨hk8, hg8, hv8⟩ := he
  have hgl := Lib.itoa_length_le g hg8.1 hg8.2
  have hvl := Lib.itoa_length_le v hv8.1 hv8.2
  cases f with
  | true =>
    refine callF_of_body tok Tryd.func11 (by kernel_rfl) rfl rfl rfl ?_; conv => cbv
    refine drawn_sound tok (by kernel_rfl) [(2, [4, 3]), (5, [])] [0, 1, 3, 4, 2, 5, 6, 7] (by kernel_rfl) ?_; conv => cbv
    refine callF_frame (itoa_lx g hg8.1 hg8.2 o ho) [(0, 0)] rfl (by simp [hmapOk, nget, hget, renB, okB]) rfl rfl (fun r h' n' ⟨⟨y, e1, hy⟩, e2, e3⟩ => ?_)
    subst e1 e2 e3
    conv => cbv
    refine callF_frame (itoa_lx v hv8.1 hv8.2 o ho) [(0, 0)] rfl (by simp [hmapOk, nget, hget, renB, okB]) rfl rfl (fun r h' n' ⟨⟨z, e1, hz⟩, e2, e3⟩ => ?_)
    subst e1 e2 e3
    have hys : y.size = (Lib.itoa g).length := by rw [hy, mk_size]
    have hzs : z.size = (Lib.itoa v).length := by rw [hz, mk_size]
    conv => cbv
    refine Br.mk (fun g1 => ?_) (fun g1 => ?_)
    · have g1 : k = 1 := g1
      conv => cbv
      refine Need.mk (by first | omega | (show 4 + y.size ≤ 9223372036854775807; omega)) ?_
      refine Str.mk fun s1 hs1 => ?_
      have hs1 : s1 = ⟨#[111, 117, 116, 32]⟩ ++ y := hs1
      have zs1 : s1.size = 4 + y.size := by rw [hs1, ByteArray.size_append] <;> rfl
      conv => cbv
      refine Need.mk (by first | omega | (show s1.size + 1 ≤ 9223372036854775807; omega)) ?_
      refine Str.mk fun s2 hs2 => ?_
      have hs2 : s2 = s1 ++ ⟨#[32]⟩ := hs2
      have zs2 : s2.size = s1.size + 1 := by rw [hs2, ByteArray.size_append] <;> rfl
      conv => cbv
      refine Need.mk (by first | omega | (show s2.size + 1 ≤ 9223372036854775807; omega)) ?_
      refine Str.mk fun s3 hs3 => ?_
      have hs3 : s3 = s2 ++ ⟨#[42]⟩ := hs3
      have zs3 : s3.size = s2.size + 1 := by rw [hs3, ByteArray.size_append] <;> rfl
      conv => cbv
      refine RetF.mk [.iface 43 (.agg [.p (.str fun _ => s3)])] [(0, .fix 0 o)] 1 (Re.of [(0, 0)] [] (by first | exact Nat.zero_le _ | exact Nat.le_refl _ | decide | (dsimp only; decide)) rfl rfl (by (try (conv => cbv)); (repeat' (first | exact trivial | rfl | exact SEq.mk rfl | (exact SEq.mk (by first | assumption | (symm; assumption))) | (simp only [I.val]; done) | (simp only [I.val]; omega) | omega | assumption | (refine And.intro ?_ ?_) | exact Or.inl rfl | exact Or.inr (by assumption) | exact List.Mem.head _ | exact List.Mem.tail _ (List.Mem.head _) | exact ⟨_, rfl⟩ | exact ⟨_, rfl, Or.inl rfl⟩ | (refine ⟨_, rfl, Or.inr ?_⟩; (try (conv => cbv))) | (simp only [I.val] at *; first | omega | (subst_vars; rfl) | simp_all) | (refine Or.inr ?_; (try (conv => cbv)))))) (by (try (conv => cbv)); (repeat' (first | exact trivial | rfl | exact SEq.mk rfl | (exact SEq.mk (by first | assumption | (symm; assumption))) | (simp only [I.val]; done) | (simp only [I.val]; omega) | omega | assumption | (refine And.intro ?_ ?_) | exact Or.inl rfl | exact Or.inr (by assumption) | exact List.Mem.head _ | exact List.Mem.tail _ (List.Mem.head _) | exact ⟨_, rfl⟩ | exact ⟨_, rfl, Or.inl rfl⟩ | (refine ⟨_, rfl, Or.inr ?_⟩; (try (conv => cbv))) | (simp only [I.val] at *; first | omega | (subst_vars; rfl) | simp_all) | (refine Or.inr ?_; (try (conv => cbv))))))) rfl ⟨.shown s3 (.inl g1) ?_, rfl, rfl⟩
      rw [hs3, hs2, hs1, hy]
      apply ByteArray.ext
      apply Array.ext'
      simp [ByteArray.data_append, line, g1]
    · have g1 : ¬ k = 1 := g1
      conv => cbv
      refine Br.mk (fun g2 => ?_) (fun g2 => ?_)
      · have g2 : k = 2 := g2
        conv => cbv
        refine Need.mk (by first | omega | (show 5 + y.size ≤ 9223372036854775807; omega)) ?_
        refine Str.mk fun s1 hs1 => ?_
        have hs1 : s1 = ⟨#[101, 120, 105, 116, 32]⟩ ++ y := hs1
        have zs1 : s1.size = 5 + y.size := by rw [hs1, ByteArray.size_append] <;> rfl
        conv => cbv
        refine RetF.mk [.iface 43 (.agg [.p (.str fun _ => s1)])] [(0, .fix 0 o)] 1 (Re.of [(0, 0)] [] (by first | exact Nat.zero_le _ | exact Nat.le_refl _ | decide | (dsimp only; decide)) rfl rfl (by (try (conv => cbv)); (repeat' (first | exact trivial | rfl | exact SEq.mk rfl | (exact SEq.mk (by first | assumption | (symm; assumption))) | (simp only [I.val]; done) | (simp only [I.val]; omega) | omega | assumption | (refine And.intro ?_ ?_) | exact Or.inl rfl | exact Or.inr (by assumption) | exact List.Mem.head _ | exact List.Mem.tail _ (List.Mem.head _) | exact ⟨_, rfl⟩ | exact ⟨_, rfl, Or.inl rfl⟩ | (refine ⟨_, rfl, Or.inr ?_⟩; (try (conv => cbv))) | (simp only [I.val] at *; first | omega | (subst_vars; rfl) | simp_all) | (refine Or.inr ?_; (try (conv => cbv)))))) (by (try (conv => cbv)); (repeat' (first | exact trivial | rfl | exact SEq.mk rfl | (exact SEq.mk (by first | assumption | (symm; assumption))) | (simp only [I.val]; done) | (simp only [I.val]; omega) | omega | assumption | (refine And.intro ?_ ?_) | exact Or.inl rfl | exact Or.inr (by assumption) | exact List.Mem.head _ | exact List.Mem.tail _ (List.Mem.head _) | exact ⟨_, rfl⟩ | exact ⟨_, rfl, Or.inl rfl⟩ | (refine ⟨_, rfl, Or.inr ?_⟩; (try (conv => cbv))) | (simp only [I.val] at *; first | omega | (subst_vars; rfl) | simp_all) | (refine Or.inr ?_; (try (conv => cbv))))))) rfl ⟨.shown s1 (.inr (.inl g2)) ?_, rfl, rfl⟩
        rw [hs1, hy]
        apply ByteArray.ext
        apply Array.ext'
        simp [ByteArray.data_append, line, g2]
      · have g2 : ¬ k = 2 := g2
        conv => cbv
        refine Br.mk (fun g5 => ?_) (fun g5 => ?_)
        · have g5 : k = 5 := g5
          conv => cbv
          refine Need.mk (by first | omega | (show 4 + z.size ≤ 9223372036854775807; omega)) ?_
          refine Str.mk fun s1 hs1 => ?_
          have hs1 : s1 = ⟨#[101, 110, 100, 32]⟩ ++ z := hs1
          have zs1 : s1.size = 4 + z.size := by rw [hs1, ByteArray.size_append] <;> rfl
          conv => cbv
          refine Need.mk (by first | omega | (show s1.size + 1 ≤ 9223372036854775807; omega)) ?_
          refine Str.mk fun s2 hs2 => ?_
          have hs2 : s2 = s1 ++ ⟨#[32]⟩ := hs2
          have zs2 : s2.size = s1.size + 1 := by rw [hs2, ByteArray.size_append] <;> rfl
          conv => cbv
          refine Need.mk (by first | omega | (show s2.size + y.size ≤ 9223372036854775807; omega)) ?_
          refine Str.mk fun s3 hs3 => ?_
          have hs3 : s3 = s2 ++ y := hs3
          have zs3 : s3.size = s2.size + y.size := by rw [hs3, ByteArray.size_append] <;> rfl
          conv => cbv
          refine RetF.mk [.iface 43 (.agg [.p (.str fun _ => s3)])] [(0, .fix 0 o)] 1 (Re.of [(0, 0)] [] (by first | exact Nat.zero_le _ | exact Nat.le_refl _ | decide | (dsimp only; decide)) rfl rfl (by (try (conv => cbv)); (repeat' (first | exact trivial | rfl | exact SEq.mk rfl | (exact SEq.mk (by first | assumption | (symm; assumption))) | (simp only [I.val]; done) | (simp only [I.val]; omega) | omega | assumption | (refine And.intro ?_ ?_) | exact Or.inl rfl | exact Or.inr (by assumption) | exact List.Mem.head _ | exact List.Mem.tail _ (List.Mem.head _) | exact ⟨_, rfl⟩ | exact ⟨_, rfl, Or.inl rfl⟩ | (refine ⟨_, rfl, Or.inr ?_⟩; (try (conv => cbv))) | (simp only [I.val] at *; first | omega | (subst_vars; rfl) | simp_all) | (refine Or.inr ?_; (try (conv => cbv)))))) (by (try (conv => cbv)); (repeat' (first | exact trivial | rfl | exact SEq.mk rfl | (exact SEq.mk (by first | assumption | (symm; assumption))) | (simp only [I.val]; done) | (simp only [I.val]; omega) | omega | assumption | (refine And.intro ?_ ?_) | exact Or.inl rfl | exact Or.inr (by assumption) | exact List.Mem.head _ | exact List.Mem.tail _ (List.Mem.head _) | exact ⟨_, rfl⟩ | exact ⟨_, rfl, Or.inl rfl⟩ | (refine ⟨_, rfl, Or.inr ?_⟩; (try (conv => cbv))) | (simp only [I.val] at *; first | omega | (subst_vars; rfl) | simp_all) | (refine Or.inr ?_; (try (conv => cbv))))))) rfl ⟨.shown s3 (.inr (.inr g5)) ?_, rfl, rfl⟩
          rw [hs3, hs2, hs1, hy, hz]
          apply ByteArray.ext
          apply Array.ext'
          simp [ByteArray.data_append, line, g5]
        · have g5 : ¬ k = 5 := g5
          conv => cbv
          refine Br.mk (fun g3 => ?_) (fun g3 => ?_)
          · have g3 : k = 3 := g3
            conv => cbv
            refine Need.mk (by first | omega | (show 8 + y.size ≤ 9223372036854775807; omega)) ?_
            refine Str.mk fun s1 hs1 => ?_
            have hs1 : s1 = ⟨#[114, 101, 99, 108, 97, 105, 109, 32]⟩ ++ y := hs1
            have zs1 : s1.size = 8 + y.size := by rw [hs1, ByteArray.size_append] <;> rfl
            conv => cbv
            refine RetF.mk [.iface 35 (.agg [.p (.str fun _ => s1), .p (.bool true)])] [(0, .fix 0 o)] 1 (Re.of [(0, 0)] [] (by first | exact Nat.zero_le _ | exact Nat.le_refl _ | decide | (dsimp only; decide)) rfl rfl (by (try (conv => cbv)); (repeat' (first | exact trivial | rfl | exact SEq.mk rfl | (exact SEq.mk (by first | assumption | (symm; assumption))) | (simp only [I.val]; done) | (simp only [I.val]; omega) | omega | assumption | (refine And.intro ?_ ?_) | exact Or.inl rfl | exact Or.inr (by assumption) | exact List.Mem.head _ | exact List.Mem.tail _ (List.Mem.head _) | exact ⟨_, rfl⟩ | exact ⟨_, rfl, Or.inl rfl⟩ | (refine ⟨_, rfl, Or.inr ?_⟩; (try (conv => cbv))) | (simp only [I.val] at *; first | omega | (subst_vars; rfl) | simp_all) | (refine Or.inr ?_; (try (conv => cbv)))))) (by (try (conv => cbv)); (repeat' (first | exact trivial | rfl | exact SEq.mk rfl | (exact SEq.mk (by first | assumption | (symm; assumption))) | (simp only [I.val]; done) | (simp only [I.val]; omega) | omega | assumption | (refine And.intro ?_ ?_) | exact Or.inl rfl | exact Or.inr (by assumption) | exact List.Mem.head _ | exact List.Mem.tail _ (List.Mem.head _) | exact ⟨_, rfl⟩ | exact ⟨_, rfl, Or.inl rfl⟩ | (refine ⟨_, rfl, Or.inr ?_⟩; (try (conv => cbv))) | (simp only [I.val] at *; first | omega | (subst_vars; rfl) | simp_all) | (refine Or.inr ?_; (try (conv => cbv))))))) rfl ⟨.hid s1 true (.inl g3) ?_ ⟨fun _ => g3, fun _ => rfl⟩, rfl, rfl⟩
            rw [hs1, hy]
            apply ByteArray.ext
            apply Array.ext'
            simp [ByteArray.data_append, line, g3]
          · have g3 : ¬ k = 3 := g3
            conv => cbv
            refine Br.mk (fun g4 => ?_) (fun g4 => ?_)
            · have g4 : k = 4 := g4
              conv => cbv
              refine Need.mk (by first | omega | (show 6 + z.size ≤ 9223372036854775807; omega)) ?_
              refine Str.mk fun s1 hs1 => ?_
              have hs1 : s1 = ⟨#[102, 105, 110, 97, 108, 32]⟩ ++ z := hs1
              have zs1 : s1.size = 6 + z.size := by rw [hs1, ByteArray.size_append] <;> rfl
              conv => cbv
              refine RetF.mk [.iface 35 (.agg [.p (.str fun _ => s1), .p (.bool false)])] [(0, .fix 0 o)] 1 (Re.of [(0, 0)] [] (by first | exact Nat.zero_le _ | exact Nat.le_refl _ | decide | (dsimp only; decide)) rfl rfl (by (try (conv => cbv)); (repeat' (first | exact trivial | rfl | exact SEq.mk rfl | (exact SEq.mk (by first | assumption | (symm; assumption))) | (simp only [I.val]; done) | (simp only [I.val]; omega) | omega | assumption | (refine And.intro ?_ ?_) | exact Or.inl rfl | exact Or.inr (by assumption) | exact List.Mem.head _ | exact List.Mem.tail _ (List.Mem.head _) | exact ⟨_, rfl⟩ | exact ⟨_, rfl, Or.inl rfl⟩ | (refine ⟨_, rfl, Or.inr ?_⟩; (try (conv => cbv))) | (simp only [I.val] at *; first | omega | (subst_vars; rfl) | simp_all) | (refine Or.inr ?_; (try (conv => cbv)))))) (by (try (conv => cbv)); (repeat' (first | exact trivial | rfl | exact SEq.mk rfl | (exact SEq.mk (by first | assumption | (symm; assumption))) | (simp only [I.val]; done) | (simp only [I.val]; omega) | omega | assumption | (refine And.intro ?_ ?_) | exact Or.inl rfl | exact Or.inr (by assumption) | exact List.Mem.head _ | exact List.Mem.tail _ (List.Mem.head _) | exact ⟨_, rfl⟩ | exact ⟨_, rfl, Or.inl rfl⟩ | (refine ⟨_, rfl, Or.inr ?_⟩; (try (conv => cbv))) | (simp only [I.val] at *; first | omega | (subst_vars; rfl) | simp_all) | (refine Or.inr ?_; (try (conv => cbv))))))) rfl ⟨.hid s1 false (.inr g4) ?_ ⟨fun h => (by cases h), fun h => absurd h g3⟩, rfl, rfl⟩
              rw [hs1, hz]
              apply ByteArray.ext
              apply Array.ext'
              simp [ByteArray.data_append, line, g4]
            · have g4 : ¬ k = 4 := g4
              conv => cbv
              refine RetF.mk [.p .nilif] [(0, .fix 0 o)] 1 (Re.of [(0, 0)] [] (by first | exact Nat.zero_le _ | exact Nat.le_refl _ | decide | (dsimp only; decide)) rfl rfl (by (try (conv => cbv)); (repeat' (first | exact trivial | rfl | exact SEq.mk rfl | (exact SEq.mk (by first | assumption | (symm; assumption))) | (simp only [I.val]; done) | (simp only [I.val]; omega) | omega | assumption | (refine And.intro ?_ ?_) | exact Or.inl rfl | exact Or.inr (by assumption) | exact List.Mem.head _ | exact List.Mem.tail _ (List.Mem.head _) | exact ⟨_, rfl⟩ | exact ⟨_, rfl, Or.inl rfl⟩ | (refine ⟨_, rfl, Or.inr ?_⟩; (try (conv => cbv))) | (simp only [I.val] at *; first | omega | (subst_vars; rfl) | simp_all) | (refine Or.inr ?_; (try (conv => cbv)))))) (by (try (conv => cbv)); (repeat' (first | exact trivial | rfl | exact SEq.mk rfl | (exact SEq.mk (by first | assumption | (symm; assumption))) | (simp only [I.val]; done) | (simp only [I.val]; omega) | omega | assumption | (refine And.intro ?_ ?_) | exact Or.inl rfl | exact Or.inr (by assumption) | exact List.Mem.head _ | exact List.Mem.tail _ (List.Mem.head _) | exact ⟨_, rfl⟩ | exact ⟨_, rfl, Or.inl rfl⟩ | (refine ⟨_, rfl, Or.inr ?_⟩; (try (conv => cbv))) | (simp only [I.val] at *; first | omega | (subst_vars; rfl) | simp_all) | (refine Or.inr ?_; (try (conv => cbv))))))) rfl ⟨.nothing (fun h => ?_) (fun h => ?_), rfl, rfl⟩
              · rcases h with h | h | h
                · exact g1 h
                · exact g2 h
                · exact g5 h
              · rcases h with h | h
                · exact g3 h
                · exact g4 h
  | false =>
    refine callF_of_body tok Tryd.func11 (by kernel_rfl) rfl rfl rfl ?_; conv => cbv
    refine drawn_sound tok (by kernel_rfl) [(2, [4, 3]), (5, [])] [0, 1, 3, 4, 2, 5, 6, 7] (by kernel_rfl) ?_; conv => cbv
    refine callF_frame (itoa_lx g hg8.1 hg8.2 o ho) [(0, 0)] rfl (by simp [hmapOk, nget, hget, renB, okB]) rfl rfl (fun r h' n' ⟨⟨y, e1, hy⟩, e2, e3⟩ => ?_)
    subst e1 e2 e3
    conv => cbv
    refine callF_frame (itoa_lx v hv8.1 hv8.2 o ho) [(0, 0)] rfl (by simp [hmapOk, nget, hget, renB, okB]) rfl rfl (fun r h' n' ⟨⟨z, e1, hz⟩, e2, e3⟩ => ?_)
    subst e1 e2 e3
    have hys : y.size = (Lib.itoa g).length := by rw [hy, mk_size]
    have hzs : z.size = (Lib.itoa v).length := by rw [hz, mk_size]
    conv => cbv
    refine Br.mk (fun g1 => ?_) (fun g1 => ?_)
    · have g1 : k = 1 := g1
      conv => cbv
      refine Need.mk (by first | omega | (show 4 + y.size ≤ 9223372036854775807; omega)) ?_
      refine Str.mk fun s1 hs1 => ?_
      have hs1 : s1 = ⟨#[111, 117, 116, 32]⟩ ++ y := hs1
      have zs1 : s1.size = 4 + y.size := by rw [hs1, ByteArray.size_append] <;> rfl
      conv => cbv
      refine Need.mk (by first | omega | (show s1.size + 1 ≤ 9223372036854775807; omega)) ?_
      refine Str.mk fun s2 hs2 => ?_
      have hs2 : s2 = s1 ++ ⟨#[32]⟩ := hs2
      have zs2 : s2.size = s1.size + 1 := by rw [hs2, ByteArray.size_append] <;> rfl
      conv => cbv
      refine Need.mk (by first | omega | (show s2.size + z.size ≤ 9223372036854775807; omega)) ?_
      refine Str.mk fun s3 hs3 => ?_
      have hs3 : s3 = s2 ++ z := hs3
      have zs3 : s3.size = s2.size + z.size := by rw [hs3, ByteArray.size_append] <;> rfl
      conv => cbv
      refine RetF.mk [.iface 43 (.agg [.p (.str fun _ => s3)])] [(0, .fix 0 o)] 1 (Re.of [(0, 0)] [] (by first | exact Nat.zero_le _ | exact Nat.le_refl _ | decide | (dsimp only; decide)) rfl rfl (by (try (conv => cbv)); (repeat' (first | exact trivial | rfl | exact SEq.mk rfl | (exact SEq.mk (by first | assumption | (symm; assumption))) | (simp only [I.val]; done) | (simp only [I.val]; omega) | omega | assumption | (refine And.intro ?_ ?_) | exact Or.inl rfl | exact Or.inr (by assumption) | exact List.Mem.head _ | exact List.Mem.tail _ (List.Mem.head _) | exact ⟨_, rfl⟩ | exact ⟨_, rfl, Or.inl rfl⟩ | (refine ⟨_, rfl, Or.inr ?_⟩; (try (conv => cbv))) | (simp only [I.val] at *; first | omega | (subst_vars; rfl) | simp_all) | (refine Or.inr ?_; (try (conv => cbv)))))) (by (try (conv => cbv)); (repeat' (first | exact trivial | rfl | exact SEq.mk rfl | (exact SEq.mk (by first | assumption | (symm; assumption))) | (simp only [I.val]; done) | (simp only [I.val]; omega) | omega | assumption | (refine And.intro ?_ ?_) | exact Or.inl rfl | exact Or.inr (by assumption) | exact List.Mem.head _ | exact List.Mem.tail _ (List.Mem.head _) | exact ⟨_, rfl⟩ | exact ⟨_, rfl, Or.inl rfl⟩ | (refine ⟨_, rfl, Or.inr ?_⟩; (try (conv => cbv))) | (simp only [I.val] at *; first | omega | (subst_vars; rfl) | simp_all) | (refine Or.inr ?_; (try (conv => cbv))))))) rfl ⟨.shown s3 (.inl g1) ?_, rfl, rfl⟩
      rw [hs3, hs2, hs1, hy, hz]
      apply ByteArray.ext
      apply Array.ext'
      simp [ByteArray.data_append, line, g1]
    · have g1 : ¬ k = 1 := g1
      conv => cbv
      refine Br.mk (fun g2 => ?_) (fun g2 => ?_)
      · have g2 : k = 2 := g2
        conv => cbv
        refine Need.mk (by first | omega | (show 5 + y.size ≤ 9223372036854775807; omega)) ?_
        refine Str.mk fun s1 hs1 => ?_
        have hs1 : s1 = ⟨#[101, 120, 105, 116, 32]⟩ ++ y := hs1
        have zs1 : s1.size = 5 + y.size := by rw [hs1, ByteArray.size_append] <;> rfl
        conv => cbv
        refine RetF.mk [.iface 43 (.agg [.p (.str fun _ => s1)])] [(0, .fix 0 o)] 1 (Re.of [(0, 0)] [] (by first | exact Nat.zero_le _ | exact Nat.le_refl _ | decide | (dsimp only; decide)) rfl rfl (by (try (conv => cbv)); (repeat' (first | exact trivial | rfl | exact SEq.mk rfl | (exact SEq.mk (by first | assumption | (symm; assumption))) | (simp only [I.val]; done) | (simp only [I.val]; omega) | omega | assumption | (refine And.intro ?_ ?_) | exact Or.inl rfl | exact Or.inr (by assumption) | exact List.Mem.head _ | exact List.Mem.tail _ (List.Mem.head _) | exact ⟨_, rfl⟩ | exact ⟨_, rfl, Or.inl rfl⟩ | (refine ⟨_, rfl, Or.inr ?_⟩; (try (conv => cbv))) | (simp only [I.val] at *; first | omega | (subst_vars; rfl) | simp_all) | (refine Or.inr ?_; (try (conv => cbv)))))) (by (try (conv => cbv)); (repeat' (first | exact trivial | rfl | exact SEq.mk rfl | (exact SEq.mk (by first | assumption | (symm; assumption))) | (simp only [I.val]; done) | (simp only [I.val]; omega) | omega | assumption | (refine And.intro ?_ ?_) | exact Or.inl rfl | exact Or.inr (by assumption) | exact List.Mem.head _ | exact List.Mem.tail _ (List.Mem.head _) | exact ⟨_, rfl⟩ | exact ⟨_, rfl, Or.inl rfl⟩ | (refine ⟨_, rfl, Or.inr ?_⟩; (try (conv => cbv))) | (simp only [I.val] at *; first | omega | (subst_vars; rfl) | simp_all) | (refine Or.inr ?_; (try (conv => cbv))))))) rfl ⟨.shown s1 (.inr (.inl g2)) ?_, rfl, rfl⟩
        rw [hs1, hy]
        apply ByteArray.ext
        apply Array.ext'
        simp [ByteArray.data_append, line, g2]
      · have g2 : ¬ k = 2 := g2
        conv => cbv
        refine Br.mk (fun g5 => ?_) (fun g5 => ?_)
        · have g5 : k = 5 := g5
          conv => cbv
          refine Need.mk (by first | omega | (show 4 + z.size ≤ 9223372036854775807; omega)) ?_
          refine Str.mk fun s1 hs1 => ?_
          have hs1 : s1 = ⟨#[101, 110, 100, 32]⟩ ++ z := hs1
          have zs1 : s1.size = 4 + z.size := by rw [hs1, ByteArray.size_append] <;> rfl
          conv => cbv
          refine Need.mk (by first | omega | (show s1.size + 1 ≤ 9223372036854775807; omega)) ?_
          refine Str.mk fun s2 hs2 => ?_
          have hs2 : s2 = s1 ++ ⟨#[32]⟩ := hs2
          have zs2 : s2.size = s1.size + 1 := by rw [hs2, ByteArray.size_append] <;> rfl
          conv => cbv
          refine Need.mk (by first | omega | (show s2.size + y.size ≤ 9223372036854775807; omega)) ?_
          refine Str.mk fun s3 hs3 => ?_
          have hs3 : s3 = s2 ++ y := hs3
          have zs3 : s3.size = s2.size + y.size := by rw [hs3, ByteArray.size_append] <;> rfl
          conv => cbv
          refine RetF.mk [.iface 43 (.agg [.p (.str fun _ => s3)])] [(0, .fix 0 o)] 1 (Re.of [(0, 0)] [] (by first | exact Nat.zero_le _ | exact Nat.le_refl _ | decide | (dsimp only; decide)) rfl rfl (by (try (conv => cbv)); (repeat' (first | exact trivial | rfl | exact SEq.mk rfl | (exact SEq.mk (by first | assumption | (symm; assumption))) | (simp only [I.val]; done) | (simp only [I.val]; omega) | omega | assumption | (refine And.intro ?_ ?_) | exact Or.inl rfl | exact Or.inr (by assumption) | exact List.Mem.head _ | exact List.Mem.tail _ (List.Mem.head _) | exact ⟨_, rfl⟩ | exact ⟨_, rfl, Or.inl rfl⟩ | (refine ⟨_, rfl, Or.inr ?_⟩; (try (conv => cbv))) | (simp only [I.val] at *; first | omega | (subst_vars; rfl) | simp_all) | (refine Or.inr ?_; (try (conv => cbv)))))) (by (try (conv => cbv)); (repeat' (first | exact trivial | rfl | exact SEq.mk rfl | (exact SEq.mk (by first | assumption | (symm; assumption))) | (simp only [I.val]; done) | (simp only [I.val]; omega) | omega | assumption | (refine And.intro ?_ ?_) | exact Or.inl rfl | exact Or.inr (by assumption) | exact List.Mem.head _ | exact List.Mem.tail _ (List.Mem.head _) | exact ⟨_, rfl⟩ | exact ⟨_, rfl, Or.inl rfl⟩ | (refine ⟨_, rfl, Or.inr ?_⟩; (try (conv => cbv))) | (simp only [I.val] at *; first | omega | (subst_vars; rfl) | simp_all) | (refine Or.inr ?_; (try (conv => cbv))))))) rfl ⟨.shown s3 (.inr (.inr g5)) ?_, rfl, rfl⟩
          rw [hs3, hs2, hs1, hy, hz]
          apply ByteArray.ext
          apply Array.ext'
          simp [ByteArray.data_append, line, g5]
        · have g5 : ¬ k = 5 := g5
          conv => cbv
          refine Br.mk (fun g3 => ?_) (fun g3 => ?_)
          · have g3 : k = 3 := g3
            conv => cbv
            refine Need.mk (by first | omega | (show 8 + y.size ≤ 9223372036854775807; omega)) ?_
            refine Str.mk fun s1 hs1 => ?_
            have hs1 : s1 = ⟨#[114, 101, 99, 108, 97, 105, 109, 32]⟩ ++ y := hs1
            have zs1 : s1.size = 8 + y.size := by rw [hs1, ByteArray.size_append] <;> rfl
            conv => cbv
            refine RetF.mk [.iface 35 (.agg [.p (.str fun _ => s1), .p (.bool true)])] [(0, .fix 0 o)] 1 (Re.of [(0, 0)] [] (by first | exact Nat.zero_le _ | exact Nat.le_refl _ | decide | (dsimp only; decide)) rfl rfl (by (try (conv => cbv)); (repeat' (first | exact trivial | rfl | exact SEq.mk rfl | (exact SEq.mk (by first | assumption | (symm; assumption))) | (simp only [I.val]; done) | (simp only [I.val]; omega) | omega | assumption | (refine And.intro ?_ ?_) | exact Or.inl rfl | exact Or.inr (by assumption) | exact List.Mem.head _ | exact List.Mem.tail _ (List.Mem.head _) | exact ⟨_, rfl⟩ | exact ⟨_, rfl, Or.inl rfl⟩ | (refine ⟨_, rfl, Or.inr ?_⟩; (try (conv => cbv))) | (simp only [I.val] at *; first | omega | (subst_vars; rfl) | simp_all) | (refine Or.inr ?_; (try (conv => cbv)))))) (by (try (conv => cbv)); (repeat' (first | exact trivial | rfl | exact SEq.mk rfl | (exact SEq.mk (by first | assumption | (symm; assumption))) | (simp only [I.val]; done) | (simp only [I.val]; omega) | omega | assumption | (refine And.intro ?_ ?_) | exact Or.inl rfl | exact Or.inr (by assumption) | exact List.Mem.head _ | exact List.Mem.tail _ (List.Mem.head _) | exact ⟨_, rfl⟩ | exact ⟨_, rfl, Or.inl rfl⟩ | (refine ⟨_, rfl, Or.inr ?_⟩; (try (conv => cbv))) | (simp only [I.val] at *; first | omega | (subst_vars; rfl) | simp_all) | (refine Or.inr ?_; (try (conv => cbv))))))) rfl ⟨.hid s1 true (.inl g3) ?_ ⟨fun _ => g3, fun _ => rfl⟩, rfl, rfl⟩
            rw [hs1, hy]
            apply ByteArray.ext
            apply Array.ext'
            simp [ByteArray.data_append, line, g3]
          · have g3 : ¬ k = 3 := g3
            conv => cbv
            refine Br.mk (fun g4 => ?_) (fun g4 => ?_)
            · have g4 : k = 4 := g4
              conv => cbv
              refine Need.mk (by first | omega | (show 6 + z.size ≤ 9223372036854775807; omega)) ?_
              refine Str.mk fun s1 hs1 => ?_
              have hs1 : s1 = ⟨#[102, 105, 110, 97, 108, 32]⟩ ++ z := hs1
              have zs1 : s1.size = 6 + z.size := by rw [hs1, ByteArray.size_append] <;> rfl
              conv => cbv
              refine RetF.mk [.iface 35 (.agg [.p (.str fun _ => s1), .p (.bool false)])] [(0, .fix 0 o)] 1 (Re.of [(0, 0)] [] (by first | exact Nat.zero_le _ | exact Nat.le_refl _ | decide | (dsimp only; decide)) rfl rfl (by (try (conv => cbv)); (repeat' (first | exact trivial | rfl | exact SEq.mk rfl | (exact SEq.mk (by first | assumption | (symm; assumption))) | (simp only [I.val]; done) | (simp only [I.val]; omega) | omega | assumption | (refine And.intro ?_ ?_) | exact Or.inl rfl | exact Or.inr (by assumption) | exact List.Mem.head _ | exact List.Mem.tail _ (List.Mem.head _) | exact ⟨_, rfl⟩ | exact ⟨_, rfl, Or.inl rfl⟩ | (refine ⟨_, rfl, Or.inr ?_⟩; (try (conv => cbv))) | (simp only [I.val] at *; first | omega | (subst_vars; rfl) | simp_all) | (refine Or.inr ?_; (try (conv => cbv)))))) (by (try (conv => cbv)); (repeat' (first | exact trivial | rfl | exact SEq.mk rfl | (exact SEq.mk (by first | assumption | (symm; assumption))) | (simp only [I.val]; done) | (simp only [I.val]; omega) | omega | assumption | (refine And.intro ?_ ?_) | exact Or.inl rfl | exact Or.inr (by assumption) | exact List.Mem.head _ | exact List.Mem.tail _ (List.Mem.head _) | exact ⟨_, rfl⟩ | exact ⟨_, rfl, Or.inl rfl⟩ | (refine ⟨_, rfl, Or.inr ?_⟩; (try (conv => cbv))) | (simp only [I.val] at *; first | omega | (subst_vars; rfl) | simp_all) | (refine Or.inr ?_; (try (conv => cbv))))))) rfl ⟨.hid s1 false (.inr g4) ?_ ⟨fun h => (by cases h), fun h => absurd h g3⟩, rfl, rfl⟩
              rw [hs1, hz]
              apply ByteArray.ext
              apply Array.ext'
              simp [ByteArray.data_append, line, g4]
            · have g4 : ¬ k = 4 := g4
              conv => cbv
              refine RetF.mk [.p .nilif] [(0, .fix 0 o)] 1 (Re.of [(0, 0)] [] (by first | exact Nat.zero_le _ | exact Nat.le_refl _ | decide | (dsimp only; decide)) rfl rfl (by (try (conv => cbv)); (repeat' (first | exact trivial | rfl | exact SEq.mk rfl | (exact SEq.mk (by first | assumption | (symm; assumption))) | (simp only [I.val]; done) | (simp only [I.val]; omega) | omega | assumption | (refine And.intro ?_ ?_) | exact Or.inl rfl | exact Or.inr (by assumption) | exact List.Mem.head _ | exact List.Mem.tail _ (List.Mem.head _) | exact ⟨_, rfl⟩ | exact ⟨_, rfl, Or.inl rfl⟩ | (refine ⟨_, rfl, Or.inr ?_⟩; (try (conv => cbv))) | (simp only [I.val] at *; first | omega | (subst_vars; rfl) | simp_all) | (refine Or.inr ?_; (try (conv => cbv)))))) (by (try (conv => cbv)); (repeat' (first | exact trivial | rfl | exact SEq.mk rfl | (exact SEq.mk (by first | assumption | (symm; assumption))) | (simp only [I.val]; done) | (simp only [I.val]; omega) | omega | assumption | (refine And.intro ?_ ?_) | exact Or.inl rfl | exact Or.inr (by assumption) | exact List.Mem.head _ | exact List.Mem.tail _ (List.Mem.head _) | exact ⟨_, rfl⟩ | exact ⟨_, rfl, Or.inl rfl⟩ | (refine ⟨_, rfl, Or.inr ?_⟩; (try (conv => cbv))) | (simp only [I.val] at *; first | omega | (subst_vars; rfl) | simp_all) | (refine Or.inr ?_; (try (conv => cbv))))))) rfl ⟨.nothing (fun h => ?_) (fun h => ?_), rfl, rfl⟩
              · rcases h with h | h | h
                · exact g1 h
                · exact g2 h
                · exact g5 h
              · rcases h with h | h
                · exact g3 h
                · exact g4 h
end Go.Proofs.YtongaoioaafjnaaDoor
