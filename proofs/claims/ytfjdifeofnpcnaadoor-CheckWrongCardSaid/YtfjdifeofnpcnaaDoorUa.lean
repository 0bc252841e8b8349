/-
  Layer 3: plain facts of programs that may be: what play.Code makes of any instructions, and what is read from a text.
-/
import Derived.Test.YtfjdifeofnpcnaaDoorKw

namespace Go.Proofs.YtfjdifeofnpcnaaDoor

open Go

def modV (v n : Int) : Int := IntKind.u64.wrap v % n
theorem modV_in {v n : Int} (h : 0 < n) : 0 ≤ modV v n ∧ modV v n < n := ⟨Int.emod_nonneg _ (by omega), Int.emod_lt_of_pos _ h⟩
def cas1 (c : Cs) (n : Int) : Cs := ⟨1 + modV (IntKind.i64.wrap (c.k - 1)) 3, modV c.ch 6, modV c.reg 6, modV c.to n⟩
def casesG : List Cs → Nat → Int → List Cs
  | [], _, _ => []
  | _ :: _, 0, _ => []
  | c :: l, k + 1, n => if (cas1 c n).k = 3 then [⟨3, 0, 0, (cas1 c n).to⟩] else cas1 c n :: casesG l k n
def orElse0 (r : List Cs) : List Cs := if r = [] then [⟨3, 0, 0, 0⟩] else r
def casesV (l : List Cs) (n : Int) : List Cs := orElse0 (casesG l 3 n)
def mkI (op a b : Int) (x : Is) (n : Int) : Is :=
  if op = 22 then ⟨op, 0, 0, 0, []⟩ else if op = 21 then ⟨op, 0, 0, 0, casesV x.cs n⟩ else if op = 10 ∨ op = 11 then ⟨op, 0, 0, modV x.n n, []⟩
  else if op = 12 then ⟨op, a, 0, modV x.n n, []⟩ else if op = 1 then ⟨op, a, 0, modV x.n 10000, []⟩ else if op = 4 then ⟨op, a, 0, modV x.n 4, []⟩
  else if op = 14 then ⟨op, a, 0, modV x.n 20, []⟩ else if op = 18 ∨ op = 19 then ⟨op, a, 0, modV x.n 4, []⟩ else if op = 20 then ⟨op, a, 0, modV x.n 10, []⟩
  else if op = 7 ∨ op = 13 then ⟨op, a, 0, 0, []⟩ else ⟨op, a, b, 0, []⟩
def instrV (x : Is) (n : Int) : Is := mkI (1 + modV (IntKind.i64.wrap (x.op - 1)) 22) (modV x.a 6) (modV x.b 6) x n
def firstV (l : List Is) : List Is := if l.take 40 = [] then [⟨22, 0, 0, 0, []⟩] else l.take 40
/-- What play.Code makes of any instructions. -/
def codeV (l : List Is) : List Is := (firstV l).map fun x => instrV x (firstV l).length

theorem fld_in (k : UInt8) : fld k = 0 ∨ fld k = 1 ∨ fld k = 2 := by
  unfold fld
  repeat' split
  all_goals simp
theorem shp3_abn {a b n : Int} (ha : 0 ≤ a ∧ a ≤ 5) (hb : 0 ≤ b ∧ b ≤ 5) (hn : 0 ≤ n ∧ n ≤ 9999) : Shp3 [97, 98, 110] ⟨a, b, n⟩ := by
  refine ⟨fun k hk => ?_, fun k hk => ?_⟩
  · simp at hk
    rcases hk with rfl | rfl | rfl
    · exact ha
    · exact hb
    · exact hn
  · exfalso
    have h1 := hk 97 (by simp)
    have h2 := hk 98 (by simp)
    have h3 := hk 110 (by simp)
    have e1 : fld 97 = 0 := rfl
    have e2 : fld 98 = 1 := rfl
    have e3 : fld 110 = 2 := rfl
    have := fld_in k
    omega
theorem shp3_n {n : Int} (hn : 0 ≤ n ∧ n ≤ 9999) : Shp3 [110] ⟨0, 0, n⟩ := by
  refine ⟨fun k hk => ?_, fun k hk => ?_⟩
  · simp at hk
    subst hk
    exact hn
  · have h3 := hk 110 (by simp)
    have e3 : fld 110 = 2 := rfl
    unfold F3.get
    unfold fld at h3 e3
    repeat' split at h3
    all_goals simp_all
theorem cas1_in (c : Cs) {n : Int} (hn : 0 < n) : (1 ≤ (cas1 c n).k ∧ (cas1 c n).k ≤ 3) ∧ (0 ≤ (cas1 c n).ch ∧ (cas1 c n).ch ≤ 5) ∧ (0 ≤ (cas1 c n).reg ∧ (cas1 c n).reg ≤ 5) ∧ (0 ≤ (cas1 c n).to ∧ (cas1 c n).to < n) := by
  have h1 := modV_in (v := IntKind.i64.wrap (c.k - 1)) (n := 3) (by decide)
  have h2 := modV_in (v := c.ch) (n := 6) (by decide)
  have h3 := modV_in (v := c.reg) (n := 6) (by decide)
  have h4 := modV_in (v := c.to) hn
  unfold cas1
  refine ⟨⟨?_, ?_⟩, ⟨?_, ?_⟩, ⟨?_, ?_⟩, ?_, ?_⟩ <;> dsimp only <;> omega
theorem itoa_two {v : Int} (h : 0 ≤ v ∧ v < 40) : (Lib.itoa v).length ≤ 2 := itoa_len h.1 1 (by show v < ((100 : Nat) : Int); omega)
theorem itoa_four {v : Int} (h : 0 ≤ v ∧ v ≤ 9999) : (Lib.itoa v).length ≤ 4 := itoa_len h.1 3 (by show v < ((10000 : Nat) : Int); omega)
theorem fl_abn (a b n : Int) : fieldsL [97, 98, 110] ⟨a, b, n⟩ = regB a :: regB b :: Lib.itoa n := by
  show partL 97 a ++ (partL 98 b ++ (partL 110 n ++ [])) = _
  unfold partL
  simp
theorem fl_n (a b n : Int) : fieldsL [110] ⟨a, b, n⟩ = Lib.itoa n := by
  show partL 110 n ++ [] = _
  unfold partL
  simp
structure CasG (r : List Cs) (n : Int) (k : Nat) : Prop where
  shp : CShpL r
  to : ∀ c ∈ r, 0 ≤ c.to ∧ c.to < n
  len : r.length ≤ k
  line : (r.flatMap caseL).length ≤ 5 * k
theorem else_good {t n : Int} (ht : 0 ≤ t ∧ t < n) (hn : n ≤ 40) (k : Nat) : CasG [⟨3, 0, 0, t⟩] n (k + 1) := by
  refine ⟨⟨⟨.inr (.inr rfl), shp3_n (n := t) ⟨ht.1, by omega⟩, fun _ => rfl⟩, trivial⟩, ?_, by simp, ?_⟩
  · intro c hc
    rw [List.mem_singleton] at hc
    subst hc
    exact ⟨ht.1, ht.2⟩
  · show ((_ :: fieldsL [110] ⟨0, 0, t⟩) ++ []).length ≤ _
    rw [fl_n]
    have := itoa_two (v := t) (by omega)
    simp; omega
theorem casesG_good (n : Int) (h0 : 0 < n) (hn : n ≤ 40) : ∀ (k : Nat) (l : List Cs), CasG (casesG l k n) n k
  | k, [] => ⟨by rw [casesG]; exact trivial, by simp [casesG], by simp [casesG], by simp [casesG]⟩
  | 0, _ :: _ => ⟨by rw [casesG]; exact trivial, by simp [casesG], by simp [casesG], by simp [casesG]⟩
  | k + 1, c :: l => by
    have hc := cas1_in c h0
    rw [casesG]
    split
    · exact else_good hc.2.2.2 hn k
    · rename_i h3
      have ih := casesG_good n h0 hn k l
      have hk : (cas1 c n).k = 1 ∨ (cas1 c n).k = 2 := by omega
      have hsh : cshape (cas1 c n).k = [97, 98, 110] := by unfold cshape; rw [if_neg h3]
      refine ⟨⟨⟨by omega, ?_, fun h => absurd h h3⟩, ih.shp⟩, ?_, ?_, ?_⟩
      · rw [hsh]; exact shp3_abn hc.2.1 hc.2.2.1 (by omega)
      · intro d hd
        rcases List.mem_cons.1 hd with rfl | hd
        · exact hc.2.2.2
        · exact ih.to d hd
      · have := ih.len; rw [List.length_cons]; omega
      · rw [List.flatMap_cons, List.length_append]
        have e : caseL (cas1 c n) = caseB (cas1 c n).k :: fieldsL [97, 98, 110] ⟨(cas1 c n).ch, (cas1 c n).reg, (cas1 c n).to⟩ := by unfold caseL; rw [hsh]; rfl
        rw [e, fl_abn]
        have h1 := itoa_two (v := (cas1 c n).to) (by omega)
        have h2 := ih.line
        simp only [List.length_cons]; omega
theorem casesV_good (l : List Cs) {n : Int} (h0 : 0 < n) (hn : n ≤ 40) : CasG (casesV l n) n 3 ∧ casesV l n ≠ [] := by
  unfold casesV orElse0
  split
  · exact ⟨else_good ⟨by omega, h0⟩ hn 2, by simp⟩
  · rename_i h; exact ⟨casesG_good n h0 hn 3 l, h⟩
/-- What an instruction is that may be in a program of n, by itself. -/
structure InsG (y : Is) (n : Int) : Prop where
  shp : Shp y
  op : 1 ≤ y.op ∧ y.op ≤ 22
  cs : y.cs.length ≤ 3
  num : 0 ≤ y.n ∧ y.n ≤ 9999
  most : (y.op = 4 → y.n ≤ 3) ∧ (y.op = 14 → y.n ≤ 1000) ∧ (y.op = 20 → y.n ≤ 9) ∧ (y.op = 18 ∨ y.op = 19 → y.n ≤ 3)
  jump : y.op = 10 ∨ y.op = 11 ∨ y.op = 12 → y.n < n
  to : ∀ c ∈ y.cs, 0 ≤ c.to ∧ c.to < n
  line : (lineOf y).length ≤ 16
theorem line_plain (op a b n : Int) (h21 : op ≠ 21) (hn : 0 ≤ n ∧ n ≤ 9999) : (lineOf ⟨op, a, b, n, []⟩).length ≤ 16 := by
  rw [lineOf_eq _ _ _ _ h21]
  have h1 := itoa_four hn
  have e1 : ∀ v, partL 97 v = [regB v] := fun v => by unfold partL; rw [if_pos (.inl rfl)]
  have e2 : ∀ v, partL 98 v = [regB v] := fun v => by unfold partL; rw [if_pos (.inr rfl)]
  have e3 : ∀ v, partL 110 v = Lib.itoa v := fun v => by unfold partL; rw [if_neg (by decide)]
  have e4 : ∀ v, partL 100 v = Lib.itoa v := fun v => by unfold partL; rw [if_neg (by decide)]
  have g : ∀ k, F3.get ⟨a, b, n⟩ k = if k = 97 then a else if k = 98 then b else n := fun k => rfl
  rcases shape_cases op with e | e | e | e | e | e <;> rw [e] <;> simp [fieldsL, g, e1, e2, e3, e4] <;> omega
theorem mkI_good (op a b : Int) (x : Is) (n : Int) (hop : 1 ≤ op ∧ op ≤ 22) (ha : 0 ≤ a ∧ a ≤ 5) (hb : 0 ≤ b ∧ b ≤ 5) (h0 : 0 < n) (hn : n ≤ 40) : InsG (mkI op a b x n) n := by
  have key : ∀ (a' b' m : Int), op ≠ 21 → (if (97 : UInt8) ∈ shapeV op then 0 ≤ a' ∧ a' ≤ 5 else a' = 0) → (if (98 : UInt8) ∈ shapeV op then 0 ≤ b' ∧ b' ≤ 5 else b' = 0) →
      (if (110 : UInt8) ∈ shapeV op then 0 ≤ m ∧ m ≤ 9999 else if (100 : UInt8) ∈ shapeV op then 0 ≤ m ∧ m ≤ 9 else m = 0) → (0 ≤ m ∧ m ≤ 9999) → ((op = 4 → m ≤ 3) ∧ (op = 14 → m ≤ 1000) ∧ (op = 20 → m ≤ 9) ∧ (op = 18 ∨ op = 19 → m ≤ 3)) → (op = 10 ∨ op = 11 ∨ op = 12 → m < n) → InsG ⟨op, a', b', m, []⟩ n :=
    fun a' b' m h21 h1 h2 h3 h4 h5 h6 => ⟨shp_mk op a' b' m hop h21 h1 h2 h3, hop, by simp, h4, h5, h6, by simp, line_plain _ _ _ _ h21 h4⟩
  have m1 := modV_in (v := x.n) h0
  have m2 := modV_in (v := x.n) (n := 10000) (by decide)
  have m3 := modV_in (v := x.n) (n := 4) (by decide)
  have m4 := modV_in (v := x.n) (n := 20) (by decide)
  have m5 := modV_in (v := x.n) (n := 10) (by decide)
  unfold mkI
  split
  · rename_i h; subst h; exact key 0 0 0 (by decide) (by simp [shapeV]) (by simp [shapeV]) (by simp [shapeV]) (by omega) (by omega) (by omega)
  split
  · rename_i h; subst h
    obtain ⟨g, g0⟩ := casesV_good x.cs h0 hn
    refine ⟨?_, hop, g.len, by show (0 : Int) ≤ 0 ∧ (0 : Int) ≤ 9999; omega, by simp, by simp, g.to, ?_⟩
    · unfold Shp; rw [if_pos rfl]; exact ⟨rfl, rfl, rfl, g0, g.shp⟩
    · unfold lineOf
      rw [if_pos rfl, List.length_cons]
      have := g.line
      show (List.flatMap caseL (casesV x.cs n)).length + 1 ≤ 16
      omega
  split
  · rename_i h; rcases h with h | h <;> subst h <;> exact key 0 0 _ (by decide) (by simp [shapeV]) (by simp [shapeV]) (by simp [shapeV]; omega) (by omega) (by omega) (by omega)
  split
  · rename_i h; subst h; exact key a 0 _ (by decide) (by simp [shapeV]; omega) (by simp [shapeV]) (by simp [shapeV]; omega) (by omega) (by omega) (by omega)
  split
  · rename_i h; subst h; exact key a 0 _ (by decide) (by simp [shapeV]; omega) (by simp [shapeV]) (by simp [shapeV]; omega) (by omega) (by omega) (by omega)
  split
  · rename_i h; subst h; exact key a 0 _ (by decide) (by simp [shapeV]; omega) (by simp [shapeV]) (by simp [shapeV]; omega) (by omega) (by omega) (by omega)
  split
  · rename_i h; subst h; exact key a 0 _ (by decide) (by simp [shapeV]; omega) (by simp [shapeV]) (by simp [shapeV]; omega) (by omega) (by omega) (by omega)
  split
  · rename_i h; rcases h with h | h <;> subst h <;> exact key a 0 _ (by decide) (by simp [shapeV]; omega) (by simp [shapeV]) (by simp [shapeV]; omega) (by omega) (by omega) (by omega)
  split
  · rename_i h; subst h; exact key a 0 _ (by decide) (by simp [shapeV]; omega) (by simp [shapeV]) (by simp [shapeV]; omega) (by omega) (by omega) (by omega)
  split
  · rename_i h; rcases h with h | h <;> subst h <;> exact key a 0 0 (by decide) (by simp [shapeV]; omega) (by simp [shapeV]) (by simp [shapeV]) (by omega) (by omega) (by omega)
  · have hs : shapeV op = [97, 98] := by unfold shapeV; rw [if_pos (by omega)]
    exact key a b 0 (by omega) (by rw [hs]; simp; omega) (by rw [hs]; simp; omega) (by rw [hs]; simp) (by omega) (by omega) (by omega)
theorem instrV_good (x : Is) {n : Int} (h0 : 0 < n) (hn : n ≤ 40) : InsG (instrV x n) n := by
  have h1 := modV_in (v := IntKind.i64.wrap (x.op - 1)) (n := 22) (by decide)
  have h2 := modV_in (v := x.a) (n := 6) (by decide)
  have h3 := modV_in (v := x.b) (n := 6) (by decide)
  exact mkI_good _ _ _ x n (by omega) (by omega) (by omega) h0 hn
theorem firstV_len (l : List Is) : 0 < (firstV l).length ∧ (firstV l).length ≤ 40 := by
  unfold firstV
  split
  · simp
  · rename_i h
    have := List.length_pos_iff.2 h
    rw [List.length_take] at this ⊢
    omega
theorem codeV_len (l : List Is) : (codeV l).length = (firstV l).length := by unfold codeV; simp
theorem codeV_good (l : List Is) : ∀ y ∈ codeV l, InsG y (codeV l).length := by
  intro y hy
  rw [codeV_len]
  obtain ⟨x, _, rfl⟩ := List.mem_map.1 hy
  have := firstV_len l
  exact instrV_good x (by omega) (by omega)
theorem join_le (A : List Is) (m : Nat) (h : ∀ x ∈ A, (lineOf x).length ≤ m) : (joinL (A.map lineOf)).length ≤ A.length * (m + 1) := by
  induction A with
  | nil => simp [joinL]
  | cons x A ih =>
    have h1 := ih (fun y hy => h y (by simp [hy]))
    have h2 := h x (by simp)
    have e : joinL ((x :: A).map lineOf) = (lineOf x ++ [10]) ++ joinL (A.map lineOf) := by simp [joinL]
    have e2 : (x :: A).length * (m + 1) = A.length * (m + 1) + (m + 1) := by rw [List.length_cons]; exact Nat.succ_mul _ _
    rw [e, e2, List.length_append, List.length_append]
    have : ([10] : List UInt8).length = 1 := rfl
    omega
theorem codeV_okay (l : List Is) : Okay (codeV l) := by
  have h1 := firstV_len l
  have h2 := codeV_len l
  refine ⟨List.length_pos_iff.1 (by omega), fun x hx => (codeV_good l x hx).shp, ?_, by omega⟩
  have := join_le (codeV l) 16 (fun x hx => (codeV_good l x hx).line)
  omega

/-! ### What is read from a text -/
theorem cshp_len : ∀ cs : List Cs, CShpL cs → 4 * cs.length ≤ (cs.flatMap caseL).length + 2
  | [], _ => by simp
  | c :: cs, h => by
    obtain ⟨⟨hk, _, h3⟩, hc⟩ := h
    have ih := cshp_len cs hc
    have hi : 0 < (Lib.itoa c.to).length := List.length_pos_iff.2 (itoa_ne _)
    rw [List.flatMap_cons, List.length_append, List.length_cons]
    by_cases hk3 : c.k = 3
    · rw [h3 hk3]
      have e : caseL c = caseB c.k :: fieldsL [110] ⟨c.ch, c.reg, c.to⟩ := by unfold caseL cshape; rw [if_pos hk3]; rfl
      rw [e, fl_n]
      simp only [List.length_cons, List.length_nil]; omega
    · have e : caseL c = caseB c.k :: fieldsL [97, 98, 110] ⟨c.ch, c.reg, c.to⟩ := by unfold caseL cshape; rw [if_neg hk3]; rfl
      rw [e, fl_abn]
      simp only [List.length_cons]; omega
theorem shp_cs {x : Is} (h : Shp x) : 4 * x.cs.length ≤ (lineOf x).length + 2 := by
  unfold Shp at h
  unfold lineOf
  split at h
  · rename_i h21
    rw [if_pos h21, List.length_cons]
    have := cshp_len _ h.2.2.2.2
    omega
  · rw [h.2.1]; simp
theorem parts_sum (l : List UInt8) : (joinL (partsOf l).1).length + (partsOf l).2.length ≤ l.length := by
  suffices h : ∀ (l : List UInt8) (st : List (List UInt8) × List UInt8), (joinL (l.foldl partStep st).1).length + (l.foldl partStep st).2.length ≤ (joinL st.1).length + st.2.length + l.length by
    simpa [partsOf, joinL] using h l ([], [])
  intro l
  induction l with
  | nil => intro st; simp
  | cons c l ih =>
    intro st
    simp only [List.foldl_cons, List.length_cons]
    refine Nat.le_trans (ih _) ?_
    unfold partStep
    split
    · split
      · rename_i h2; rw [h2]; simp only [List.length_nil]; omega
      · have : joinL (st.1 ++ [st.2]) = joinL st.1 ++ (st.2 ++ [10]) := by simp [joinL]
        rw [this, List.length_append, List.length_append]
        simp; omega
    · split
      · omega
      · simp; omega
theorem lines_sum {z : ByteArray} {ls : List (List UInt8)} (h : linesV z = (ls, 0)) : (joinL ls).length ≤ z.size + 1 ∧ ls ≠ [] ∧ ls.length ≤ 60 := by
  unfold linesV at h
  split at h
  · cases h
  split at h
  · cases h
  split at h
  · cases h
  split at h
  · cases h
  rename_i h1 h2 h3 h4
  cases h
  refine ⟨?_, fun hn => h3 (by rw [hn]; rfl), by omega⟩
  have hp := parts_sum z.data.toList
  have hz : z.data.toList.length = z.size := Array.length_toList
  unfold closed
  split
  · omega
  · rw [show joinL ((partsOf z.data.toList).1 ++ [(partsOf z.data.toList).2]) = joinL (partsOf z.data.toList).1 ++ ((partsOf z.data.toList).2 ++ [10]) by simp [joinL], List.length_append, List.length_append]
    simp; omega
theorem map_lines : ∀ (ls : List (List UInt8)) (l : List Is), ls.map decB = l.map some → (∀ x ∈ l, Shp x) ∧ (joinL (l.map lineOf)).length ≤ (joinL ls).length ∧ l.length = ls.length ∧ ∀ x ∈ l, ∃ t ∈ ls, (lineOf x).length ≤ t.length
  | [], [], _ => by simp [joinL]
  | [], _ :: _, h => by simp at h
  | _ :: _, [], h => by simp at h
  | t :: ls, x :: l, h => by
    simp only [List.map_cons, List.cons.injEq] at h
    obtain ⟨h1, h2, h3, h4⟩ := map_lines ls l h.2
    obtain ⟨d1, d2⟩ := dec_inv h.1
    refine ⟨fun y hy => ?_, ?_, by simp [h3], fun y hy => ?_⟩
    · rcases List.mem_cons.1 hy with rfl | hy
      · exact d1
      · exact h1 y hy
    · rw [List.map_cons, show joinL (lineOf x :: l.map lineOf) = (lineOf x ++ [10]) ++ joinL (l.map lineOf) by simp [joinL], show joinL (t :: ls) = (t ++ [10]) ++ joinL ls by simp [joinL]]
      simp; omega
    · rcases List.mem_cons.1 hy with rfl | hy
      · exact ⟨t, by simp, d2⟩
      · obtain ⟨u, hu, hu2⟩ := h4 y hy
        exact ⟨u, by simp [hu], hu2⟩
theorem read_good {z : ByteArray} {l : List Is} {a : Int} (h : decodeV z = (l, a, 0)) : a = 0 ∧ l ≠ [] ∧ l.length ≤ 60 ∧ (∀ x ∈ l, Shp x) ∧ (joinL (l.map lineOf)).length ≤ z.size + 1 := by
  obtain ⟨⟨ls, v⟩, hlv⟩ : ∃ x, linesV z = x := ⟨_, rfl⟩
  rw [decodeV, hlv] at h
  split at h
  · rename_i hv
    have hv : v = 0 := hv
    subst hv
    have h : decsV ls 0 [] = (l, a, 0) := h
    obtain ⟨l', e1, e2, e3⟩ := decs_inv _ _ _ _ _ h
    rw [List.nil_append] at e1
    subst e1
    obtain ⟨h1, h2, h3, _⟩ := map_lines _ _ e2
    obtain ⟨g1, g2, g3⟩ := lines_sum hlv
    refine ⟨e3, ?_, by omega, h1, by omega⟩
    intro hn
    rw [hn] at h3
    exact g2 (List.eq_nil_of_length_eq_zero h3.symm)
  · rename_i hv
    obtain ⟨_, h2⟩ := Prod.mk.inj h
    exact absurd (Prod.mk.inj h2).2 hv
theorem read_bad {z : ByteArray} {l : List Is} {a e : Int} (h : decodeV z = (l, a, e)) (he : e ≠ 0) : l = [] := by
  obtain ⟨⟨ls, v⟩, hlv⟩ : ∃ x, linesV z = x := ⟨_, rfl⟩
  rw [decodeV, hlv] at h
  split at h
  · suffices hs : ∀ (ls : List (List UInt8)) (i : Int) (acc r : List Is) (a e : Int), decsV ls i acc = (r, a, e) → e ≠ 0 → r = [] from hs _ _ _ _ _ _ h he
    intro ls
    induction ls with
    | nil => intro i acc r a e h he; rw [decsV] at h; cases h; exact absurd rfl he
    | cons x ls ih =>
      intro i acc r a e h he
      rw [decsV] at h
      cases e2 : decB x with
      | none => rw [e2] at h; cases h; rfl
      | some y => rw [e2] at h; exact ih _ _ r a e h he
  · exact (Prod.mk.inj h).1.symm
theorem read_okay {z : ByteArray} {l : List Is} {a : Int} (h : decodeV z = (l, a, 0)) (hz : z.size ≤ 1999) : Okay l ∧ ∀ x ∈ l, x.cs.length ≤ 500 := by
  obtain ⟨_, h1, h2, h3, h4⟩ := read_good h
  refine ⟨⟨h1, h3, by omega, h2⟩, fun x hx => ?_⟩
  have h5 := shp_cs (h3 x hx)
  have : (lineOf x).length + 1 ≤ (joinL (l.map lineOf)).length := by
    clear h1 h2 h3 h4 h5 h
    induction l with
    | nil => cases hx
    | cons y l ih =>
      rw [List.map_cons, show joinL (lineOf y :: l.map lineOf) = (lineOf y ++ [10]) ++ joinL (l.map lineOf) by simp [joinL]]
      rcases List.mem_cons.1 hx with rfl | hx
      · simp
      · have := ih hx; simp; omega
  omega
end Go.Proofs.YtfjdifeofnpcnaaDoor
