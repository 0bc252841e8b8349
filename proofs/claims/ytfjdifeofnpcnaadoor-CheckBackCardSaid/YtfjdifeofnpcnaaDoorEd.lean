/-
  Layer 2: the reference's Write.
-/
import Derived.Test.YtfjdifeofnpcnaaDoorEc

namespace Go.Proofs.YtfjdifeofnpcnaaDoor

open Go Go.LX
set_option maxRecDepth 100000
set_option linter.unusedVariables false
set_option linter.unusedSimpArgs false
theorem choice_len : ∀ (n : Nat) (s : List UInt8) (acc r : List Cs), choiceB n s acc = some r → r.length ≤ acc.length + n
  | 0, s, acc, r, h => by simp [choiceB] at h
  | n + 1, [], acc, r, h => by
    rw [choiceB] at h
    split at h
    · cases h
    · cases h; omega
  | n + 1, c :: s, acc, r, h => by
    rw [choiceB] at h
    split at h
    · cases h
    split at h
    · cases h
    split at h
    · cases h
    have := choice_len n _ _ _ h
    rw [List.length_append] at this
    simp at this
    omega
theorem dec_cs {l : List UInt8} {x : Is} (h : decB l = some x) : x.cs.length ≤ l.length + 1 := by
  cases l with
  | nil => simp [decB] at h
  | cons c s =>
    rw [decB] at h
    split at h
    · cases h
    split at h
    · obtain ⟨cs, h1, rfl⟩ := Option.map_eq_some_iff.1 h
      have := choice_len _ _ _ _ h1
      simp at this ⊢
      omega
    · obtain ⟨f, h1, rfl⟩ := Option.map_eq_some_iff.1 h
      simp
theorem decs_bound : ∀ (ls : List (List UInt8)) (i : Int) (acc l : List Is) (a e : Int), decsV ls i acc = (l, a, e) → (∀ x ∈ acc, x.cs.length ≤ 2001) → (∀ y ∈ ls, y.length ≤ 2000) → l.length ≤ acc.length + ls.length ∧ ∀ x ∈ l, x.cs.length ≤ 2001
  | [], i, acc, l, a, e, h, h1, h2 => by
    rw [decsV] at h
    obtain ⟨rfl, _⟩ := Prod.mk.inj h
    exact ⟨by simp, h1⟩
  | y :: ls, i, acc, l, a, e, h, h1, h2 => by
    rw [decsV] at h
    split at h
    · obtain ⟨rfl, _⟩ := Prod.mk.inj h
      exact ⟨by simp, by simp⟩
    · rename_i x hx
      have h3 := decs_bound ls _ _ _ _ _ h (fun z hz => by
        rcases List.mem_append.1 hz with hz | hz
        · exact h1 z hz
        · obtain rfl : z = x := by simpa using hz
          have := dec_cs hx
          have := h2 y (by simp)
          omega) (fun z hz => h2 z (by simp [hz]))
      refine ⟨?_, h3.2⟩
      have := h3.1
      simp at this ⊢
      omega
theorem decode_bound {z : ByteArray} {l : List Is} {a e : Int} (h : decodeV z = (l, a, e)) : l.length ≤ 60 ∧ ∀ x ∈ l, x.cs.length ≤ 2001 := by
  obtain ⟨⟨ls, v⟩, hlv⟩ : ∃ x, linesV z = x := ⟨_, rfl⟩
  rw [decodeV, hlv] at h
  split at h
  · rename_i hv
    have hv : v = 0 := hv
    subst hv
    have := decs_bound _ _ _ _ _ _ h (by simp) (fun y hy => (lines_ok hlv y hy).2.1)
    have h60 := lines_60 hlv
    exact ⟨by have := this.1; simp at this; omega, this.2⟩
  · obtain ⟨rfl, _⟩ := Prod.mk.inj h
    exact ⟨by simp, by simp⟩
theorem joinL_app (a b : List (List UInt8)) : joinL (a ++ b) = joinL a ++ joinL b := by simp [joinL]
theorem wr_okay {A : List Is} (h : Okay A) : A.map wrR = A.map lineOf := List.map_congr_left fun x hx => wr_shp (h.2.1 x hx)
/-- What the reference's Write tells: a text of some lines was read again. -/
theorem wrote_of {A m : List Is} {j : Nat} {y : ByteArray} {a e : Int} (h0 : A ≠ []) (hj : j ≤ A.length) (hy : y = bytesOfL (joinL ((A.take j).map wrR))) (hcut : j < A.length → 4000 < (joinL ((A.take j).map wrR)).length) (hd : decodeV y = (m, a, e)) :
    (¬ (e = 0 ∧ A = m) → WroteP A (bytesOfL []) 5) ∧ (e = 0 ∧ A = m → WroteP A y 0) := by
  have hcl : ∀ x ∈ (A.take j).map wrR, Clean x ∧ x ≠ [] := by
    intro x hx
    obtain ⟨z, _, rfl⟩ := List.mem_map.1 hx
    exact wr_clean z
  constructor
  · intro hne
    refine .inr (.inr ⟨h0, fun hok => hne ?_, rfl, rfl⟩)
    have hw := wr_okay hok
    have hle : (joinL ((A.take j).map wrR)).length ≤ (joinL (A.map wrR)).length := by
      have : joinL (A.map wrR) = joinL ((A.take j).map wrR) ++ joinL ((A.drop j).map wrR) := by rw [← joinL_app, ← List.map_append, List.take_append_drop]
      rw [this, List.length_append]; omega
    have h3 := hok.2.2.1
    rw [hw] at hle
    obtain rfl : j = A.length := by
      rcases Nat.lt_or_ge j A.length with h | h
      · have := hcut h; omega
      · omega
    rw [List.take_length, hw] at hy
    rw [hy] at hd
    have := okay_dec hok
    rw [this] at hd
    cases hd
    exact ⟨rfl, rfl⟩
  · rintro ⟨rfl, rfl⟩
    rw [hy] at hd
    obtain ⟨d1, d2, d3, d4⟩ := dec_okay h0 hcl hd
    have hlen := congrArg List.length d2
    simp only [List.length_map, List.length_take] at hlen
    obtain rfl : j = A.length := by omega
    rw [List.take_length] at hy d3
    have hw : A.map wrR = A.map lineOf := List.map_congr_left fun x hx => wr_shp (d1 x hx)
    rw [hw] at hy d3
    exact .inl ⟨⟨h0, d1, d3, d4⟩, hy, rfl⟩
theorem take_len (A : List Is) (m : Nat) (hX : ∀ x ∈ A, XI64 x ∧ x.cs.length ≤ m) (j : Nat) : (joinL ((A.take j).map wrR)).length ≤ A.length * (24 * m + 107) := by
  have : ∀ l : List Is, (∀ x ∈ l, XI64 x ∧ x.cs.length ≤ m) → (joinL (l.map wrR)).length ≤ l.length * (24 * m + 107) := by
    intro l
    induction l with
    | nil => intro _; simp [joinL]
    | cons x l ih =>
      intro h
      have h1 := ih (fun y hy => h y (by simp [hy]))
      have hx := h x (by simp)
      have h2 := wr_len x hx.1.2.1 hx.1.2.2.2
      have h3 := hx.2
      have e : joinL ((x :: l).map wrR) = (wrR x ++ [10]) ++ joinL (l.map wrR) := by simp [joinL]
      have e2 : (x :: l).length * (24 * m + 107) = l.length * (24 * m + 107) + (24 * m + 107) := by rw [List.length_cons]; exact Nat.succ_mul _ _
      rw [e, e2, List.length_append, List.length_append]
      have : 24 * x.cs.length ≤ 24 * m := Nat.mul_le_mul_left _ h3
      have e1 : ([10] : List UInt8).length = 1 := rfl
      omega
  refine Nat.le_trans (this _ fun x hx => hX x (List.mem_of_mem_take hx)) (Nat.mul_le_mul_right _ ?_)
  rw [List.length_take]; omega
set_option maxHeartbeats 4000000 in
theorem rWrite_lx (A : List Is) (m : Nat) (k : Int) (L : List PV) (hk : k = A.length) (hL : L = isV A) (hlen : A.length * (64 * m + 65) ≤ 3000000) (hm : m ≤ 20) (hA : A.length ≤ 100) (hX : ∀ x ∈ A, XI64 x ∧ x.cs.length ≤ m) : CallF (fun _ => Tryd.prog) 15 [.p (.vsl (.sym k) true L)] [] 0
    (fun r h n => (∃ y e, r = .tup [.p (.str fun _ => y), .p (.int .i64 (.sym e))] ∧ WroteP A y e) ∧ h = [] ∧ n = 0) := by
  refine callF_of_body tok Tryd.func15 (by kernel_rfl) rfl rfl rfl ?_; conv => cbv
  refine Br.mk (fun g => ?_) (fun g => ?_)
  · have g : k = 0 := g
    conv => cbv
    refine RetF.mk [.p (.str fun _ => ⟨⟨[]⟩⟩), .p (.int .i64 (.sym 7))] [] 0 (Re.at [] []) rfl ⟨⟨_, 7, rfl, .inr (.inl ⟨List.eq_nil_of_length_eq_zero (by omega), rfl, rfl⟩)⟩, rfl, rfl⟩
  have g : ¬ k = 0 := g
  have hne : A ≠ [] := by intro h; rw [h] at hk; exact g hk
  have hb : A.length * (24 * m + 107) ≤ 58700 := Nat.le_trans (Nat.mul_le_mul hA (show 24 * m + 107 ≤ 587 by omega)) (by decide)
  conv => cbv
  refine LoopF.mk (fun kk s => ∃ (i : Int) (y : ByteArray), s = ⟨.p (.vsl (.sym k) true L) :: (undefs 3 ++ .p (.str fun _ => y) :: .p (.int .i64 (.sym i)) :: undefs 40), [], 0⟩ ∧ 0 ≤ i ∧ i ≤ k ∧ y = bytesOfL (joinL ((A.take i.toNat).map wrR)) ∧ kk = (k - i).toNat) k.toNat _
    (Re.at [] []) ⟨0, ⟨⟨[]⟩⟩, rfl, by omega, by omega, rfl, by omega⟩ ?_
  rintro kk s ⟨i, y, rfl, h0, hik, hy, hkk⟩
  have hys : y.size ≤ 58700 := by
    have := take_len A m hX i.toNat
    rw [hy, bol_size]; omega
  conv => cbv
  refine Br.mk (fun g3 => ?_) (fun g3 => ?_)
  case refine_2 =>
    have g3 : ¬ i < k := g3
    have hWo := fun mm a e => wrote_of (m := mm) (a := a) (e := e) hne (by omega : i.toNat ≤ A.length) hy (by omega)
    conv => cbv
    refine callF_frame (rDecode_lx y (by omega)) [] rfl trivial rfl rfl (fun r2 h' n' hrr => ?_)
    obtain ⟨d1, d2, d3⟩ := hrr
    subst d2 d3
    obtain ⟨D, hD⟩ : ∃ D, D = decodeV y := ⟨_, rfl⟩
    rw [← hD] at d1
    cases d1 with
    | mk k2 a2 e2 L2 x2 hx2 hk2 hL2 =>
    have hdy : decodeV y = (x2, a2, e2) := hD.symm.trans hx2
    have hWo := hWo x2 a2 e2 hdy
    have hbd := decode_bound hdy
    conv => cbv
    refine Br.mk (fun g8 => ?_) (fun g8 => ?_)
    · have g8 : ¬ e2 = 0 := g8
      conv => cbv
      refine RetF.mk [.p (.str fun _ => ⟨⟨[]⟩⟩), .p (.int .i64 (.sym 5))] [] 0 (Re.at [] []) rfl ⟨⟨_, 5, rfl, hWo.1 (fun h => g8 h.1)⟩, rfl, rfl⟩
    have g8 : e2 = 0 := Classical.byContradiction g8
    conv => cbv
    refine callF_frame (instrs_lx A x2 k k2 L L2 hk hk2 hL hL2 (by omega) (fun x hx => by have := (hX x hx).2; omega)) [] rfl trivial rfl rfl (fun r2 h' n' hrr => ?_)
    obtain ⟨⟨b, d1, hb2⟩, d2, d3⟩ := hrr
    subst d1 d2 d3
    cases b with
    | false =>
      conv => cbv
      refine RetF.mk [.p (.str fun _ => ⟨⟨[]⟩⟩), .p (.int .i64 (.sym 5))] [] 0 (Re.at [] []) rfl ⟨⟨_, 5, rfl, hWo.1 (fun h => by have := hb2.2 h.2; cases this)⟩, rfl, rfl⟩
    | true =>
      conv => cbv
      refine RetF.mk [.p (.str fun _ => y), .p (.int .i64 (.sym 0))] [] 0 (Re.at [] []) rfl ⟨⟨y, 0, rfl, hWo.2 ⟨g8, hb2.1 rfl⟩⟩, rfl, rfl⟩
  have g3 : i < k := g3
  conv => cbv
  refine Sum.mk fun yz hyz => ?_
  have hyz : yz = (y.size : Int) := hyz
  conv => cbv
  refine Br.mk (fun g4 => ?_) (fun g4 => ?_)
  case refine_2 =>
    have g4 : ¬ yz ≤ 4000 := g4
    have hWo := fun mm a e => wrote_of (m := mm) (a := a) (e := e) hne (by omega : i.toNat ≤ A.length) hy (by intro _; rw [hy, bol_size] at hyz; omega)
    conv => cbv
    refine callF_frame (rDecode_lx y (by omega)) [] rfl trivial rfl rfl (fun r2 h' n' hrr => ?_)
    obtain ⟨d1, d2, d3⟩ := hrr
    subst d2 d3
    obtain ⟨D, hD⟩ : ∃ D, D = decodeV y := ⟨_, rfl⟩
    rw [← hD] at d1
    cases d1 with
    | mk k2 a2 e2 L2 x2 hx2 hk2 hL2 =>
    have hdy : decodeV y = (x2, a2, e2) := hD.symm.trans hx2
    have hWo := hWo x2 a2 e2 hdy
    have hbd := decode_bound hdy
    conv => cbv
    refine Br.mk (fun g8 => ?_) (fun g8 => ?_)
    · have g8 : ¬ e2 = 0 := g8
      conv => cbv
      refine RetF.mk [.p (.str fun _ => ⟨⟨[]⟩⟩), .p (.int .i64 (.sym 5))] [] 0 (Re.at [] []) rfl ⟨⟨_, 5, rfl, hWo.1 (fun h => g8 h.1)⟩, rfl, rfl⟩
    have g8 : e2 = 0 := Classical.byContradiction g8
    conv => cbv
    refine callF_frame (instrs_lx A x2 k k2 L L2 hk hk2 hL hL2 (by omega) (fun x hx => by have := (hX x hx).2; omega)) [] rfl trivial rfl rfl (fun r2 h' n' hrr => ?_)
    obtain ⟨⟨b, d1, hb2⟩, d2, d3⟩ := hrr
    subst d1 d2 d3
    cases b with
    | false =>
      conv => cbv
      refine RetF.mk [.p (.str fun _ => ⟨⟨[]⟩⟩), .p (.int .i64 (.sym 5))] [] 0 (Re.at [] []) rfl ⟨⟨_, 5, rfl, hWo.1 (fun h => by have := hb2.2 h.2; cases this)⟩, rfl, rfl⟩
    | true =>
      conv => cbv
      refine RetF.mk [.p (.str fun _ => y), .p (.int .i64 (.sym 0))] [] 0 (Re.at [] []) rfl ⟨⟨y, 0, rfl, hWo.2 ⟨g8, hb2.1 rfl⟩⟩, rfl, rfl⟩
  have g4 : yz ≤ 4000 := g4
  obtain ⟨X, hx⟩ : ∃ x, A[i.toNat]? = some x := ⟨_, List.getElem?_eq_getElem (by omega)⟩
  have hXx := hX X (List.mem_of_getElem? hx)
  have hxg := isV_get hx
  rw [← hL] at hxg
  obtain ⟨xo, hxo⟩ : ∃ q, q = X.op := ⟨_, rfl⟩
  obtain ⟨xa, hxa⟩ : ∃ q, q = X.a := ⟨_, rfl⟩
  obtain ⟨xb, hxb⟩ : ∃ q, q = X.b := ⟨_, rfl⟩
  obtain ⟨xn, hxn⟩ : ∃ q, q = X.n := ⟨_, rfl⟩
  obtain ⟨xk, hxk⟩ : ∃ q, q = ((X.cs.length : Nat) : Int) := ⟨_, rfl⟩
  obtain ⟨xl, hxl⟩ : ∃ q, q = csV X.cs := ⟨_, rfl⟩
  rw [← hxo, ← hxa, ← hxb, ← hxn, ← hxk, ← hxl] at hxg
  obtain ⟨k', rfl⟩ : ∃ k', kk = k' + 1 := ⟨kk - 1, by omega⟩
  conv => cbv
  refine Need.mk ⟨by show (0 : Int) ≤ i; omega, by show i < k; omega⟩ ?_
  conv => cbv
  refine Sum.mk fun w hw => ?_
  have hw : w = i * 5 := hw
  conv => cbv
  refine Cell.at w (i.toNat * 5) hxg.1 (by simp [I.val]) (by omega) ?_
  conv => cbv
  refine Cell.at (w + 1) (i.toNat * 5 + 1) hxg.2.1 (by simp [I.val]) (by omega) ?_
  conv => cbv
  refine Cell.at (w + 2) (i.toNat * 5 + 2) hxg.2.2.1 (by simp [I.val]) (by omega) ?_
  conv => cbv
  refine Cell.at (w + 3) (i.toNat * 5 + 3) hxg.2.2.2.1 (by simp [I.val]) (by omega) ?_
  conv => cbv
  refine Cell.at (w + 4) (i.toNat * 5 + 4) hxg.2.2.2.2 (by simp [I.val]) (by omega) ?_
  conv => cbv
  refine callF_frame (written_lx X xo xa xb xn xk xl hxo hxa hxb hxn hxk hxl hXx.1.2.1 hXx.1.2.2.2 hXx.1.2.2.1) [] rfl trivial rfl rfl (fun r2 h' n' hrr => ?_)
  obtain ⟨⟨yd, d1, hyd⟩, d2, d3⟩ := hrr
  subst d1 d2 d3
  have hyds : yd.size ≤ 1000 := by
    have := wr_len X hXx.1.2.1 hXx.1.2.2.2
    rw [hyd, bol_size]; omega
  conv => cbv
  refine Need.mk (by show y.size + yd.size ≤ 9223372036854775807; omega) ?_
  conv => cbv
  refine Str.mk fun z1 hz1 => ?_
  have hz1q : z1 = y ++ yd := hz1
  have hz1s : z1.size ≤ 70000 := by rw [hz1q, ByteArray.size_append]; omega
  conv => cbv
  refine Need.mk (by show z1.size + 1 ≤ 9223372036854775807; omega) ?_
  conv => cbv
  refine Str.mk fun z2 hz2 => ?_
  have hz2q : z2 = z1 ++ bytesOfL [10] := hz2
  conv => cbv
  refine Fit.mk (by show (-9223372036854775808 : Int) ≤ i + 1; omega) (by show i + 1 ≤ 9223372036854775807; omega) fun i1 hi1 => ?_
  have hi1 : i1 = i + 1 := hi1
  conv => cbv
  refine Again.mk k' _ (Nat.lt_succ_self _) (Re.at [] []) ⟨i1, z2, rfl, by omega, by omega, ?_, by omega⟩
  rw [hz2q, hz1q, hy, hyd, bol_add, bol_add, show i1.toNat = i.toNat + 1 by omega, List.take_add_one, hx, Option.toList_some, List.map_append, joinL_app]
  simp [joinL]
end Go.Proofs.YtfjdifeofnpcnaaDoor
