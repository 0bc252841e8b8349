/-
  Layer 2: the reference's lines.
-/
import Derived.Test.YtfjdifeofnpcnaaDoorEb

namespace Go.Proofs.YtfjdifeofnpcnaaDoor

open Go Go.LX
set_option maxRecDepth 100000
set_option linter.unusedVariables false
set_option linter.unusedSimpArgs false
theorem wCs_len : ∀ l : List Cs, (∀ c ∈ l, I64 c.to) → (l.flatMap wC).length ≤ 24 * l.length
  | [], _ => by simp
  | c :: l, h => by
    have h1 := wCs_len l (fun d hd => h d (by simp [hd]))
    have h2 := itoa_len21 c.to (h c (by simp))
    have h3 := (letL_clean c.ch).2
    have h4 := (letL_clean c.reg).2
    rw [List.flatMap_cons, List.length_append, List.length_cons]
    have : (wC c).length ≤ 24 := by
      unfold wC
      rw [List.length_append]
      split
      · simp [h3, h4]; omega
      split
      · simp [h3, h4]; omega
      · simp; omega
    omega
theorem find_form {i : Nat} {f : Fm} {op : Int} (hf : formsL[i]? = some f) (h : op = f.op) : formsL.find? (fun f => decide (f.op = op)) = some f := by
  have key : ∀ f ∈ formsL, ∀ g ∈ formsL, g.op = f.op → g.letter = f.letter ∧ g.args = f.args := by decide +kernel
  cases hfd : formsL.find? (fun f => decide (f.op = op)) with
  | none =>
    have := List.find?_eq_none.1 hfd f (List.mem_of_getElem? hf)
    simp [h] at this
  | some f2 =>
    have h1 := List.mem_of_find?_eq_some hfd
    have h2 : f2.op = op := by simpa using List.find?_some hfd
    obtain ⟨k1, k2⟩ := key f (List.mem_of_getElem? hf) f2 h1 (by omega)
    have k3 : f2.op = f.op := by omega
    cases f; cases f2; simp_all
theorem wF_len (l : List UInt8) (x : Is) (hn : I64 x.n) : (wF l x).length ≤ 21 * l.length := by
  induction l with
  | nil => simp [wF]
  | cons c l ih =>
    have h2 := itoa_len21 x.n hn
    have h3 := (letL_clean x.a).2
    have h4 := (letL_clean x.b).2
    unfold wF at ih ⊢
    rw [List.flatMap_cons, List.length_append, List.length_cons]
    have : (if c = 97 then letL x.a else if c = 98 then letL x.b else Lib.itoa x.n).length ≤ 21 := by
      split
      · omega
      split
      · omega
      · exact h2
    omega
set_option maxHeartbeats 4000000 in
theorem written_lx (X : Is) (op a b n k : Int) (L : List PV) (h1 : op = X.op) (h2 : a = X.a) (h3 : b = X.b) (h4 : n = X.n) (h5 : k = X.cs.length) (h6 : L = csV X.cs) (hn : I64 X.n) (hc : ∀ c ∈ X.cs, I64 c.to) (hl : X.cs.length ≤ 520) :
    CallF (fun _ => Tryd.prog) 35 [.agg [.p (.int .i64 (.sym op)), .p (.int .i64 (.sym a)), .p (.int .i64 (.sym b)), .p (.int .i64 (.sym n)), .p (.vsl (.sym k) true L)]] [] 0 (fun r h n' => (∃ y : ByteArray, r = .p (.str fun _ => y) ∧ y = bytesOfL (wrR X)) ∧ h = [] ∧ n' = 0) := by
  refine callF_of_body tok Tryd.func35 (by kernel_rfl) rfl rfl rfl ?_; conv => cbv
  refine Br.mk (fun g => ?_) (fun g => ?_)
  · have g : op = 21 := g
    conv => cbv
    refine LoopF.mk (fun kk s => ∃ (i : Int) (y : ByteArray), s = ⟨.agg [.p (.int .i64 (.sym op)), .p (.int .i64 (.sym a)), .p (.int .i64 (.sym b)), .p (.int .i64 (.sym n)), .p (.vsl (.sym k) true L)] :: .ptr 0 (.lit 0) :: .undef :: .p (.str fun _ => y) :: .p (.int .i64 (.sym i)) :: undefs 113,[(0, .pure false [.int .i64 (.sym op), .int .i64 (.sym a), .int .i64 (.sym b), .int .i64 (.sym n), .vsl (.sym k) true L])], 1⟩ ∧ 0 ≤ i ∧ i ≤ k ∧ y = bytesOfL (83 :: (X.cs.take i.toNat).flatMap wC) ∧ kk = (k - i).toNat) k.toNat _
      (Re.at [(0, 0)] []) ⟨0, ⟨⟨[83]⟩⟩, rfl, by omega, by omega, rfl, by omega⟩ ?_
    rintro kk s ⟨i, y, rfl, h0, hik, hy, hkk⟩
    have hys : y.size ≤ 100000 := by
      have := wCs_len (X.cs.take i.toNat) (fun c hcm => hc c (List.mem_of_mem_take hcm))
      rw [List.length_take] at this
      rw [hy, bol_size, List.length_cons]
      omega
    conv => cbv
    refine Br.mk (fun g3 => ?_) (fun g3 => ?_)
    · have g3 : i < k := g3
      obtain ⟨c, hcx⟩ : ∃ c, X.cs[i.toNat]? = some c := ⟨_, List.getElem?_eq_getElem (by omega)⟩
      have hcg := csV_get hcx
      rw [← h6] at hcg
      obtain ⟨ck, hck⟩ : ∃ q, q = c.k := ⟨_, rfl⟩
      obtain ⟨ch, hch⟩ : ∃ q, q = c.ch := ⟨_, rfl⟩
      obtain ⟨cr, hcr⟩ : ∃ q, q = c.reg := ⟨_, rfl⟩
      obtain ⟨ct, hct⟩ : ∃ q, q = c.to := ⟨_, rfl⟩
      rw [← hck, ← hch, ← hcr, ← hct] at hcg
      obtain ⟨k', rfl⟩ : ∃ k', kk = k' + 1 := ⟨kk - 1, by omega⟩
      conv => cbv
      refine Need.mk ⟨by show (0 : Int) ≤ i; omega, by show i < k; omega⟩ ?_
      conv => cbv
      refine Sum.mk fun w hw => ?_
      have hw : w = i * 4 := hw
      conv => cbv
      refine Cell.at w (i.toNat * 4) hcg.1 (by simp [I.val]) (by omega) ?_
      conv => cbv
      refine Cell.at (w + 1) (i.toNat * 4 + 1) hcg.2.1 (by simp [I.val]) (by omega) ?_
      conv => cbv
      refine Cell.at (w + 2) (i.toNat * 4 + 2) hcg.2.2.1 (by simp [I.val]) (by omega) ?_
      conv => cbv
      refine Cell.at (w + 3) (i.toNat * 4 + 3) hcg.2.2.2 (by simp [I.val]) (by omega) ?_
      conv => cbv
      obtain ⟨Y1, hY1⟩ : ∃ Y, Y = bytesOfL (letL ch) := ⟨_, rfl⟩
      obtain ⟨Y2, hY2⟩ : ∃ Y, Y = bytesOfL (letL cr) := ⟨_, rfl⟩
      have hY1s : Y1.size = 1 := by rw [hY1, bol_size, (letL_clean _).2]
      have hY2s : Y2.size = 1 := by rw [hY2, bol_size, (letL_clean _).2]
      have hD1 := (letter_lx ch).mono (fun r h n (hrr : (∃ y : ByteArray, r = .p (.str fun _ => y) ∧ y = bytesOfL (letL ch)) ∧ h = [] ∧ n = 0) => (by
        obtain ⟨⟨y, e1, hy⟩, e2, e3⟩ := hrr
        exact ⟨by rw [e1, hy, hY1], e2, e3⟩ : r = .p (.str fun _ => Y1) ∧ h = [] ∧ n = 0))
      have hD2 := (letter_lx cr).mono (fun r h n (hrr : (∃ y : ByteArray, r = .p (.str fun _ => y) ∧ y = bytesOfL (letL cr)) ∧ h = [] ∧ n = 0) => (by
        obtain ⟨⟨y, e1, hy⟩, e2, e3⟩ := hrr
        exact ⟨by rw [e1, hy, hY2], e2, e3⟩ : r = .p (.str fun _ => Y2) ∧ h = [] ∧ n = 0))
      refine Br.mk (fun g4 => ?_) (fun g4 => ?_)
      · have g4 : ck = 1 := g4
        conv => cbv
        refine read_sound tok (by kernel_rfl) [] [4, 8] [] [0, 1, 2, 3, 4, 5, 6, 7, 8, 9, 10] (by kernel_rfl) ?_
        conv => cbv
        refine Need.mk (by show y.size + 1 ≤ 9223372036854775807; omega) ?_
        conv => cbv
        refine Str.mk fun y1 hy1 => ?_
        have hy1q : y1 = y ++ bytesOfL [115] := hy1
        have hy1s : y1.size ≤ 100010 := by rw [hy1q, ByteArray.size_append, show (bytesOfL [115]).size = 1 from rfl]; omega
        conv => cbv
        refine ReadF.mk (.p (.str fun _ => Y1)) (fun h' n' hbR hnR => callF_read hD1 [] rfl trivial rfl rfl rfl rfl) ?_
        conv => cbv
        refine Need.mk (by show y1.size + Y1.size ≤ 9223372036854775807; omega) ?_
        conv => cbv
        refine Str.mk fun y2 hy2 => ?_
        have hy2q : y2 = y1 ++ Y1 := hy2
        have hy2s : y2.size ≤ 100020 := by rw [hy2q, ByteArray.size_append]; omega
        conv => cbv
        refine ReadF.mk (.p (.str fun _ => Y2)) (fun h' n' hbR hnR => callF_read hD2 [] rfl trivial rfl rfl rfl rfl) ?_
        conv => cbv
        refine Need.mk (by show y2.size + Y2.size ≤ 9223372036854775807; omega) ?_
        conv => cbv
        refine Str.mk fun y3 hy3 => ?_
        have hy3q : y3 = y2 ++ Y2 := hy3
        have hy3s : y3.size ≤ 100030 := by rw [hy3q, ByteArray.size_append]; omega
        conv => cbv
        refine callF_frame (digitsA_ok ct (by rw [hct]; exact hc _ (List.mem_of_getElem? hcx))) [] rfl trivial rfl rfl (fun r2 h' n' hrr => ?_)
        obtain ⟨⟨yd, d1, hyd⟩, d2, d3⟩ := hrr
        subst d1 d2 d3
        have hyds : yd.size ≤ 21 := by rw [hyd, bol_size]; exact itoa_len21 ct (by rw [hct]; exact hc _ (List.mem_of_getElem? hcx))
        conv => cbv
        refine Need.mk (by show y3.size + yd.size ≤ 9223372036854775807; omega) ?_
        conv => cbv
        refine Str.mk fun z hz => ?_
        have hzq : z = y3 ++ yd := hz
        have hzs : z.size ≤ 200000 := by rw [hzq, ByteArray.size_append]; omega
        conv => cbv
        refine Fit.mk (by show (-9223372036854775808 : Int) ≤ i + 1; omega) (by show i + 1 ≤ 9223372036854775807; omega) fun i1 hi1 => ?_
        have hi1 : i1 = i + 1 := hi1
        conv => cbv
        refine Again.mk k' _ (Nat.lt_succ_self _) (Re.at [(0, 0)] []) ⟨i1, z, rfl, by omega, by omega, ?_, by omega⟩
        rw [show i1.toNat = i.toNat + 1 by omega, List.take_add_one, hcx, Option.toList_some, List.flatMap_append, ← List.cons_append, ← bol_add, ← hy, show [c].flatMap wC = 115 :: (letL ch ++ letL cr) ++ Lib.itoa ct by simp [wC, ← hck, g4, ← hch, ← hcr, ← hct]]
        rw [hzq, hy3q, hy2q, hy1q, hY1, hY2, hyd]
        simp only [hy, bol_add]
        simp
      have g4 : ¬ ck = 1 := g4
      conv => cbv
      refine Br.mk (fun g5 => ?_) (fun g5 => ?_)
      · have g5 : ck = 2 := g5
        conv => cbv
        refine read_sound tok (by kernel_rfl) [] [4, 8] [] [0, 1, 2, 3, 4, 5, 6, 7, 8, 9, 10] (by kernel_rfl) ?_
        conv => cbv
        refine Need.mk (by show y.size + 1 ≤ 9223372036854775807; omega) ?_
        conv => cbv
        refine Str.mk fun y1 hy1 => ?_
        have hy1q : y1 = y ++ bytesOfL [114] := hy1
        have hy1s : y1.size ≤ 100010 := by rw [hy1q, ByteArray.size_append, show (bytesOfL [114]).size = 1 from rfl]; omega
        conv => cbv
        refine ReadF.mk (.p (.str fun _ => Y1)) (fun h' n' hbR hnR => callF_read hD1 [] rfl trivial rfl rfl rfl rfl) ?_
        conv => cbv
        refine Need.mk (by show y1.size + Y1.size ≤ 9223372036854775807; omega) ?_
        conv => cbv
        refine Str.mk fun y2 hy2 => ?_
        have hy2q : y2 = y1 ++ Y1 := hy2
        have hy2s : y2.size ≤ 100020 := by rw [hy2q, ByteArray.size_append]; omega
        conv => cbv
        refine ReadF.mk (.p (.str fun _ => Y2)) (fun h' n' hbR hnR => callF_read hD2 [] rfl trivial rfl rfl rfl rfl) ?_
        conv => cbv
        refine Need.mk (by show y2.size + Y2.size ≤ 9223372036854775807; omega) ?_
        conv => cbv
        refine Str.mk fun y3 hy3 => ?_
        have hy3q : y3 = y2 ++ Y2 := hy3
        have hy3s : y3.size ≤ 100030 := by rw [hy3q, ByteArray.size_append]; omega
        conv => cbv
        refine callF_frame (digitsA_ok ct (by rw [hct]; exact hc _ (List.mem_of_getElem? hcx))) [] rfl trivial rfl rfl (fun r2 h' n' hrr => ?_)
        obtain ⟨⟨yd, d1, hyd⟩, d2, d3⟩ := hrr
        subst d1 d2 d3
        have hyds : yd.size ≤ 21 := by rw [hyd, bol_size]; exact itoa_len21 ct (by rw [hct]; exact hc _ (List.mem_of_getElem? hcx))
        conv => cbv
        refine Need.mk (by show y3.size + yd.size ≤ 9223372036854775807; omega) ?_
        conv => cbv
        refine Str.mk fun z hz => ?_
        have hzq : z = y3 ++ yd := hz
        have hzs : z.size ≤ 200000 := by rw [hzq, ByteArray.size_append]; omega
        conv => cbv
        refine Fit.mk (by show (-9223372036854775808 : Int) ≤ i + 1; omega) (by show i + 1 ≤ 9223372036854775807; omega) fun i1 hi1 => ?_
        have hi1 : i1 = i + 1 := hi1
        conv => cbv
        refine Again.mk k' _ (Nat.lt_succ_self _) (Re.at [(0, 0)] []) ⟨i1, z, rfl, by omega, by omega, ?_, by omega⟩
        rw [show i1.toNat = i.toNat + 1 by omega, List.take_add_one, hcx, Option.toList_some, List.flatMap_append, ← List.cons_append, ← bol_add, ← hy, show [c].flatMap wC = 114 :: (letL ch ++ letL cr) ++ Lib.itoa ct by simp [wC, ← hck, g5, ← hch, ← hcr, ← hct]]
        rw [hzq, hy3q, hy2q, hy1q, hY1, hY2, hyd]
        simp only [hy, bol_add]
        simp
      have g5 : ¬ ck = 2 := g5
      conv => cbv
      refine Need.mk (by show y.size + 1 ≤ 9223372036854775807; omega) ?_
      conv => cbv
      refine Str.mk fun y1 hy1 => ?_
      have hy1q : y1 = y ++ bytesOfL [101] := hy1
      have hy1s : y1.size ≤ 100010 := by rw [hy1q, ByteArray.size_append, show (bytesOfL [101]).size = 1 from rfl]; omega
      conv => cbv
      refine callF_frame (digitsA_ok ct (by rw [hct]; exact hc _ (List.mem_of_getElem? hcx))) [] rfl trivial rfl rfl (fun r2 h' n' hrr => ?_)
      obtain ⟨⟨yd, d1, hyd⟩, d2, d3⟩ := hrr
      subst d1 d2 d3
      have hyds : yd.size ≤ 21 := by rw [hyd, bol_size]; exact itoa_len21 ct (by rw [hct]; exact hc _ (List.mem_of_getElem? hcx))
      conv => cbv
      refine Need.mk (by show y1.size + yd.size ≤ 9223372036854775807; omega) ?_
      conv => cbv
      refine Str.mk fun z hz => ?_
      have hzq : z = y1 ++ yd := hz
      have hzs : z.size ≤ 200000 := by rw [hzq, ByteArray.size_append]; omega
      conv => cbv
      refine Fit.mk (by show (-9223372036854775808 : Int) ≤ i + 1; omega) (by show i + 1 ≤ 9223372036854775807; omega) fun i1 hi1 => ?_
      have hi1 : i1 = i + 1 := hi1
      conv => cbv
      refine Again.mk k' _ (Nat.lt_succ_self _) (Re.at [(0, 0)] []) ⟨i1, z, rfl, by omega, by omega, ?_, by omega⟩
      rw [show i1.toNat = i.toNat + 1 by omega, List.take_add_one, hcx, Option.toList_some, List.flatMap_append, ← List.cons_append, ← bol_add, ← hy, show [c].flatMap wC = [101] ++ Lib.itoa ct by simp [wC, ← hck, g4, g5, ← hct]]
      rw [hzq, hy1q, hyd]
      simp only [hy, bol_add]
      simp
    have g3 : ¬ i < k := g3
    conv => cbv
    refine RetF.mk [.p (.str fun _ => y)] [] 0 (Re.at [] []) rfl ⟨⟨y, rfl, ?_⟩, rfl, rfl⟩
    rw [hy, List.take_of_length_le (by omega), wrR, if_pos (by omega)]
  have g : ¬ op = 21 := g
  conv => cbv
  refine callF_frame forms_lx [] rfl trivial rfl rfl (fun r2 h' n' ⟨e1, e2, e3⟩ => ?_)
  subst e1 e2 e3
  obtain ⟨FV, hFV⟩ : ∃ FV, FV = formsV := ⟨_, rfl⟩
  rw [← hFV]
  conv => cbv
  refine LoopF.mk (fun kk s => ∃ i : Int, s = ⟨.agg [.p (.int .i64 (.sym op)), .p (.int .i64 (.sym a)), .p (.int .i64 (.sym b)), .p (.int .i64 (.sym n)), .p (.vsl (.sym k) true L)] :: .ptr 0 (.lit 0) :: (undefs 4 ++ .p (.vsl (.sym 21) true FV) :: .p (.int .i64 (.sym i)) :: undefs 110), [(0, .pure false [.int .i64 (.sym op), .int .i64 (.sym a), .int .i64 (.sym b), .int .i64 (.sym n), .vsl (.sym k) true L])], 1⟩ ∧ 0 ≤ i ∧ i ≤ 21 ∧ (∀ (j : Nat) (f : Fm), (j : Int) < i → formsL[j]? = some f → f.op ≠ op) ∧ kk = (21 - i).toNat) 21 _
    (Re.at [(0, 0)] []) ⟨0, rfl, by omega, by omega, fun j f hj => by omega, by omega⟩ ?_
  rintro kk s ⟨i, rfl, h0, hik, hno, hkk⟩
  conv => cbv
  refine Br.mk (fun g3 => ?_) (fun g3 => ?_)
  · have g3 : i < 21 := g3
    obtain ⟨f, hf⟩ : ∃ f, formsL[i.toNat]? = some f := ⟨_, List.getElem?_eq_getElem (by show i.toNat < 21; omega)⟩
    have hfg := formsV_get _ _ hf
    have hff := forms_fact _ _ hf
    rw [← hFV] at hfg
    obtain ⟨fo, hfo⟩ : ∃ q, q = f.op := ⟨_, rfl⟩
    obtain ⟨fl, hfl⟩ : ∃ q, q = ((f.letter.toNat : Nat) : Int) := ⟨_, rfl⟩
    obtain ⟨fa, hfa⟩ : ∃ q, q = bytesOfL f.args := ⟨_, rfl⟩
    rw [← hfo, ← hfl, ← hfa] at hfg
    obtain ⟨k', rfl⟩ : ∃ k', kk = k' + 1 := ⟨kk - 1, by omega⟩
    conv => cbv
    refine draw_sound tok (by kernel_rfl) rfl (by kernel_rfl) ?_
    conv => cbv
    refine Need.mk ⟨by show (0 : Int) ≤ i; omega, by show i < 21; omega⟩ ?_
    conv => cbv
    refine Sum.mk fun w hw => ?_
    have hw : w = i * 3 := hw
    conv => cbv
    refine Cell.at w (i.toNat * 3) hfg.1 (by simp [I.val]) (by omega) ?_
    conv => cbv
    refine Br.mk (fun g4 => ?_) (fun g4 => ?_)
    case refine_2 =>
      have g4 : fo = op := Classical.byContradiction g4
      conv => cbv
      refine Need.mk ⟨by show (0 : Int) ≤ i; omega, by show i < 21; omega⟩ ?_
      conv => cbv
      refine Sum.mk fun w1 hw1 => ?_
      have hw1 : w1 = i * 3 := hw1
      conv => cbv
      refine Sum.mk fun w2 hw2 => ?_
      have hw2 : w2 = w1 + 1 := hw2
      conv => cbv
      refine Cell.at w2 (i.toNat * 3 + 1) hfg.2.1 (by simp [I.val]) (by omega) ?_
      conv => cbv
      refine Need.mk (by show (1 : Int) ≤ ((1 : Nat) : Int); omega) ?_
      conv => cbv
      refine Bytes.mk [f.letter] ⟨by show fl = ((f.letter.toNat : Nat) : Int); omega, trivial⟩ fun y0 hy0 => ?_
      have hy0 : y0 = bytesOfL [f.letter] := hy0
      conv => cbv
      obtain ⟨NA, hNA⟩ : ∃ N : Int, N = f.args.length := ⟨_, rfl⟩
      refine LoopF.mk (fun kk s => ∃ (q : Int) (y : ByteArray), s = ⟨.agg [.p (.int .i64 (.sym op)), .p (.int .i64 (.sym a)), .p (.int .i64 (.sym b)), .p (.int .i64 (.sym n)), .p (.vsl (.sym k) true L)] :: .ptr 0 (.lit 0) :: (undefs 4 ++ .p (.vsl (.sym 21) true FV) :: .p (.int .i64 (.sym i)) :: .p (.str fun _ => y) :: .p (.int .i64 (.sym q)) :: undefs 108), [(0, .pure false [.int .i64 (.sym op), .int .i64 (.sym a), .int .i64 (.sym b), .int .i64 (.sym n), .vsl (.sym k) true L])], 1⟩ ∧ 0 ≤ q ∧ q ≤ NA ∧ y = bytesOfL (f.letter :: wF (f.args.take q.toNat) X) ∧ kk = (NA - q).toNat) f.args.length _
        (Re.at [(0, 0)] []) ⟨0, y0, rfl, by omega, by omega, hy0, by omega⟩ ?_
      rintro kk s ⟨q, y, rfl, hq0, hq1, hy, hkk2⟩
      have hys : y.size ≤ 200 := by
        have := wF_len (f.args.take q.toNat) X hn
        rw [List.length_take] at this
        have h5 := hff.2.2.2.2
        rw [hy, bol_size, List.length_cons]
        omega
      have hfas : (fa.size : Int) = f.args.length := by rw [hfa, bol_size]
      conv => cbv
      refine Need.mk ⟨by show (0 : Int) ≤ i; omega, by show i < 21; omega⟩ ?_
      conv => cbv
      refine Sum.mk fun w1 hw1 => ?_
      have hw1 : w1 = i * 3 := hw1
      conv => cbv
      refine Sum.mk fun w2 hw2 => ?_
      have hw2 : w2 = w1 + 2 := hw2
      conv => cbv
      refine Cell.at w2 (i.toNat * 3 + 2) hfg.2.2 (by simp [I.val]) (by omega) ?_
      conv => cbv
      refine Sum.mk fun fz hfz => ?_
      have hfz : fz = (fa.size : Int) := hfz
      conv => cbv
      refine Br.mk (fun g5 => ?_) (fun g5 => ?_)
      case refine_2 =>
        have g5 : ¬ q < fz := g5
        conv => cbv
        refine RetF.mk [.p (.str fun _ => y)] [] 0 (Re.at [] []) rfl ⟨⟨y, rfl, ?_⟩, rfl, rfl⟩
        have hop : X.op = f.op := by omega
        rw [hy, List.take_of_length_le (by omega), wrR, if_neg (by omega), find_form hf hop]
      have g5 : q < fz := g5
      obtain ⟨c, hcq⟩ : ∃ c, f.args[q.toNat]? = some c := ⟨_, List.getElem?_eq_getElem (by omega)⟩
      obtain ⟨k2, rfl⟩ : ∃ k2, kk = k2 + 1 := ⟨kk - 1, by omega⟩
      conv => cbv
      refine Need.mk ⟨by show (0 : Int) ≤ i; omega, by show i < 21; omega⟩ ?_
      conv => cbv
      refine Sum.mk fun w3 hw3 => ?_
      have hw3 : w3 = i * 3 := hw3
      conv => cbv
      refine Sum.mk fun w4 hw4 => ?_
      have hw4 : w4 = w3 + 2 := hw4
      conv => cbv
      refine Cell.at w4 (i.toNat * 3 + 2) hfg.2.2 (by simp [I.val]) (by omega) ?_
      conv => cbv
      refine Need.mk ⟨by show (0 : Int) ≤ q; omega, by show q < (fa.size : Int); omega⟩ ?_
      conv => cbv
      refine Sum.mk fun cv hcv => ?_
      have hcv : cv = (c.toNat : Int) := by
        have : cv = ((fa.get! q.toNat).toNat : Int) := hcv
        rw [this, hfa, bol_get _ _ c hcq]
      conv => cbv
      refine Br.mk (fun g6 => ?_) (fun g6 => ?_)
      · have g6 : cv = 97 := g6
        conv => cbv
        refine callF_frame (letter_lx a) [] rfl trivial rfl rfl (fun r2 h' n' hrr => ?_)
        obtain ⟨⟨yd, d1, hyd⟩, d2, d3⟩ := hrr
        subst d1 d2 d3
        have hyds : yd.size ≤ 21 := by rw [hyd, bol_size]; rw [(letL_clean _).2]; omega
        conv => cbv
        refine Need.mk (by show y.size + yd.size ≤ 9223372036854775807; omega) ?_
        conv => cbv
        refine Str.mk fun z hz => ?_
        have hzq : z = y ++ yd := hz
        conv => cbv
        refine Fit.mk (by show (-9223372036854775808 : Int) ≤ q + 1; omega) (by show q + 1 ≤ 9223372036854775807; omega) fun q1 hq1b => ?_
        have hq1b : q1 = q + 1 := hq1b
        conv => cbv
        refine Again.mk k2 _ (Nat.lt_succ_self _) (Re.at [(0, 0)] []) ⟨q1, z, rfl, by omega, by omega, ?_, by omega⟩
        have hwc : wF [c] X = letL a := by
          rw [show c = 97 from UInt8.toNat_inj.1 (by show c.toNat = 97; omega)]; simp [wF, h2]
        rw [show q1.toNat = q.toNat + 1 by omega, List.take_add_one, hcq, Option.toList_some, show wF (f.args.take q.toNat ++ [c]) X = wF (f.args.take q.toNat) X ++ wF [c] X by simp [wF], ← List.cons_append, ← bol_add, ← hy, hwc, ← hyd, hzq]
      have g6 : ¬ cv = 97 := g6
      conv => cbv
      refine Br.mk (fun g7 => ?_) (fun g7 => ?_)
      · have g7 : cv = 98 := g7
        conv => cbv
        refine callF_frame (letter_lx b) [] rfl trivial rfl rfl (fun r2 h' n' hrr => ?_)
        obtain ⟨⟨yd, d1, hyd⟩, d2, d3⟩ := hrr
        subst d1 d2 d3
        have hyds : yd.size ≤ 21 := by rw [hyd, bol_size]; rw [(letL_clean _).2]; omega
        conv => cbv
        refine Need.mk (by show y.size + yd.size ≤ 9223372036854775807; omega) ?_
        conv => cbv
        refine Str.mk fun z hz => ?_
        have hzq : z = y ++ yd := hz
        conv => cbv
        refine Fit.mk (by show (-9223372036854775808 : Int) ≤ q + 1; omega) (by show q + 1 ≤ 9223372036854775807; omega) fun q1 hq1b => ?_
        have hq1b : q1 = q + 1 := hq1b
        conv => cbv
        refine Again.mk k2 _ (Nat.lt_succ_self _) (Re.at [(0, 0)] []) ⟨q1, z, rfl, by omega, by omega, ?_, by omega⟩
        have hwc : wF [c] X = letL b := by
          rw [show c = 98 from UInt8.toNat_inj.1 (by show c.toNat = 98; omega)]; simp [wF, h3]
        rw [show q1.toNat = q.toNat + 1 by omega, List.take_add_one, hcq, Option.toList_some, show wF (f.args.take q.toNat ++ [c]) X = wF (f.args.take q.toNat) X ++ wF [c] X by simp [wF], ← List.cons_append, ← bol_add, ← hy, hwc, ← hyd, hzq]
      have g7 : ¬ cv = 98 := g7
      conv => cbv
      refine callF_frame (digitsA_ok n (by rw [h4]; exact hn)) [] rfl trivial rfl rfl (fun r2 h' n' hrr => ?_)
      obtain ⟨⟨yd, d1, hyd⟩, d2, d3⟩ := hrr
      subst d1 d2 d3
      have hyds : yd.size ≤ 21 := by rw [hyd, bol_size]; exact itoa_len21 n (by rw [h4]; exact hn)
      conv => cbv
      refine Need.mk (by show y.size + yd.size ≤ 9223372036854775807; omega) ?_
      conv => cbv
      refine Str.mk fun z hz => ?_
      have hzq : z = y ++ yd := hz
      conv => cbv
      refine Fit.mk (by show (-9223372036854775808 : Int) ≤ q + 1; omega) (by show q + 1 ≤ 9223372036854775807; omega) fun q1 hq1b => ?_
      have hq1b : q1 = q + 1 := hq1b
      conv => cbv
      refine Again.mk k2 _ (Nat.lt_succ_self _) (Re.at [(0, 0)] []) ⟨q1, z, rfl, by omega, by omega, ?_, by omega⟩
      have hwc : wF [c] X = Lib.itoa n := by
        have e1 : ¬ c = 97 := by intro h; rw [h] at hcv; exact g6 hcv
        have e2 : ¬ c = 98 := by intro h; rw [h] at hcv; exact g7 hcv
        simp [wF, e1, e2, h4]
      rw [show q1.toNat = q.toNat + 1 by omega, List.take_add_one, hcq, Option.toList_some, show wF (f.args.take q.toNat ++ [c]) X = wF (f.args.take q.toNat) X ++ wF [c] X by simp [wF], ← List.cons_append, ← bol_add, ← hy, hwc, ← hyd, hzq]
    · have g4 : ¬ fo = op := g4
      conv => cbv
      refine Fit.mk (by show (-9223372036854775808 : Int) ≤ i + 1; omega) (by show i + 1 ≤ 9223372036854775807; omega) fun i1 hi1 => ?_
      have hi1 : i1 = i + 1 := hi1
      conv => cbv
      refine Again.mk k' _ (Nat.lt_succ_self _) (Re.at [(0, 0)] []) ⟨i1, rfl, by omega, by omega, fun j f2 hj hf2 => ?_, by omega⟩
      have hj : (j : Int) < i1 := hj
      by_cases hji : (j : Int) < i
      · exact hno j f2 hji hf2
      · obtain rfl : j = i.toNat := by omega
        rw [hf] at hf2
        cases hf2
        rw [← hfo]; exact g4
  have g3 : ¬ i < 21 := g3
  conv => cbv
  refine RetF.mk [.p (.str fun _ => ⟨⟨[63]⟩⟩)] [] 0 (Re.at [] []) rfl ⟨⟨_, rfl, ?_⟩, rfl, rfl⟩
  rw [wrR, if_neg (by omega)]
  cases hfd : formsL.find? (fun f => decide (f.op = X.op)) with
  | none => rfl
  | some f2 =>
    obtain ⟨j, hj⟩ := List.getElem?_of_mem (List.mem_of_find?_eq_some hfd)
    have hjl := (List.getElem?_eq_some_iff.1 hj).1
    have h21 : formsL.length = 21 := rfl
    have h2 : f2.op = X.op := by simpa using List.find?_some hfd
    exact absurd (h2.trans h1.symm) (hno j f2 (by omega) hj)
end Go.Proofs.YtfjdifeofnpcnaaDoor
