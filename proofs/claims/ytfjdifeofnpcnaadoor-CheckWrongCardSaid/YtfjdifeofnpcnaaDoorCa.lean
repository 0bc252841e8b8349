/-
  Layer 3: what an instruction may be, and where it leads.
-/
import Derived.Test.YtfjdifeofnpcnaaDoorBf

namespace Go.Proofs.YtfjdifeofnpcnaaDoor

open Go Go.LX
set_option maxRecDepth 100000
set_option linter.unusedVariables false
set_option linter.unusedSimpArgs false

def mostV (op : Int) : Int := if op = 4 then 3 else if op = 14 then 1000 else if op = 20 then 9 else if op = 18 ∨ op = 19 then 3 else 1099511627776
theorem mostOf_lx (op : Int) : CallF (fun _ => Tryd.prog) 80 [.p (.int .i64 (.sym op))] [] 0 (fun r h n => (∃ v : Int, r = .p (.int .i64 (.sym v)) ∧ v = mostV op) ∧ h = [] ∧ n = 0) := by
  obtain ⟨V, hV⟩ : ∃ V, V = mostV op := ⟨_, rfl⟩
  refine callF_of_body tok Tryd.func80 (by kernel_rfl) rfl rfl rfl ?_; conv => cbv
  iterate 5
    refine Br.mk (fun g => ?_) (fun g => ?_)
    case refine_1 =>
      simp only [I.val] at g
      have hV2 := hV
      rw [g] at hV2
      simp [mostV] at hV2
      conv => cbv
      refine RetF.mk [.p (.int .i64 (.sym V))] [] 0 (Re.at [] []) rfl ⟨⟨V, rfl, hV⟩, rfl, rfl⟩
    simp only [I.val] at g
    conv => cbv
  have hV2 : V = 1099511627776 := by rw [hV, mostV]; repeat rw [if_neg (by omega)]
  refine RetF.mk [.p (.int .i64 (.sym V))] [] 0 (Re.at [] []) rfl ⟨⟨V, rfl, hV⟩, rfl, rfl⟩
theorem mostE_lx (op v : Int) (hv : v = mostV op) : CallF (fun _ => Tryd.prog) 80 [.p (.int .i64 (.sym op))] [] 0 (fun r h n => r = .p (.int .i64 (.sym v)) ∧ h = [] ∧ n = 0) :=
  (mostOf_lx op).mono (fun r h n ⟨⟨v2, e1, hv2⟩, e2, e3⟩ => ⟨by rw [e1, hv2, hv], e2, e3⟩)
def MayP (x : Is) : Prop := x.cs.length ≤ 3 ∧ x.n ≤ mostV x.op ∧ Okay [x]
/-- Numbers that are in range, of however many cases. -/
def XW (x : Is) : Prop := I64 x.op ∧ I64 x.n ∧ ∀ c ∈ x.cs, I64 c.to
theorem XI64.w {x : Is} (h : XI64 x) : XW x := ⟨h.1, h.2.1, h.2.2.2⟩
set_option maxHeartbeats 2000000 in
theorem mayBe_lx (X : Is) (op a b n k : Int) (L : List PV) (o : Unit → Obj) (ho : IsPow o) (h1 : op = X.op) (h2 : a = X.a) (h3 : b = X.b) (h4 : n = X.n) (h5 : k = X.cs.length) (h6 : L = csV X.cs) (hX : XW X) : CallF (fun _ => Tryd.prog) 61 [.agg [.p (.int .i64 (.sym op)), .p (.int .i64 (.sym a)), .p (.int .i64 (.sym b)), .p (.int .i64 (.sym n)), .p (.vsl (.sym k) true L)]] [(0, .fix 0 o)] 1 (fun r h n' => (∃ q : Bool, r = .p (.bool q) ∧ (q = true ↔ MayP X)) ∧ h = [(0, .fix 0 o)] ∧ n' = 1) := by
  refine callF_of_body tok Tryd.func61 (by kernel_rfl) rfl rfl rfl ?_; conv => cbv
  obtain ⟨v, hv⟩ : ∃ v, v = mostV op := ⟨_, rfl⟩
  refine read_sound tok (by kernel_rfl) [] [9] [] [0, 1, 2, 3, 4, 5, 6, 7, 8, 9, 10, 11] (by kernel_rfl) ?_
  conv => cbv
  refine Br.mk (fun g => ?_) (fun g => ?_)
  · have g : 3 < k := g
    have hno : ¬ MayP X := fun h => by have := h.1; omega
    conv => cbv
    refine RetF.mk [.p (.bool false)] [(0, .fix 0 o)] 1 (Re.at [(0, 0)] []) rfl ⟨⟨false, rfl, by simp only [Bool.false_eq_true, false_iff]; exact hno⟩, rfl, rfl⟩
  have g : ¬ 3 < k := g
  conv => cbv
  refine ReadF.mk (.p (.int .i64 (.sym v))) (fun h' n' hbR hnR => callF_read (mostE_lx op v hv) [] rfl trivial rfl rfl rfl rfl) ?_
  conv => cbv
  refine Br.mk (fun g2 => ?_) (fun g2 => ?_)
  · have g2 : v < n := g2
    have hno : ¬ MayP X := fun h => by have := h.2.1; rw [← h1, ← hv, ← h4] at this; omega
    conv => cbv
    refine RetF.mk [.p (.bool false)] [(0, .fix 0 o)] 1 (Re.at [(0, 0)] []) rfl ⟨⟨false, rfl, by simp only [Bool.false_eq_true, false_iff]; exact hno⟩, rfl, rfl⟩
  have g2 : ¬ v < n := g2
  conv => cbv
  obtain ⟨LL, hLL⟩ : ∃ LL : List PV, LL = [.int .i64 (.sym op), .int .i64 (.sym a), .int .i64 (.sym b), .int .i64 (.sym n), .vsl (.sym k) true L] := ⟨_, rfl⟩
  have hLV : LL = isV [X] := by rw [hLL, h1, h2, h3, h4, h5, h6]; rfl
  refine CallF.re (args0 := [.p (.vsl (.sym 1) true [.int .i64 (.sym op), .int .i64 (.sym a), .int .i64 (.sym b), .int .i64 (.sym n), .vsl (.sym k) true L])]) (h' := [(0, .fix 0 o)]) (Re.at [(0, 0)] []) ?_
  rw [← hLL]
  refine callF_frame (write_lx [X] 520 1 LL o ho rfl hLV (by show 1 * (64 * 520 + 65) ≤ 3000000; decide) (fun x hx => by rw [List.mem_singleton] at hx; subst hx; exact ⟨⟨hX.1, hX.2.1, by omega, hX.2.2⟩, by omega⟩)) [(0, 0)] rfl (by simp [hmapOk, nget, hget, renB, okB, renV, renVs, rn, okVs, okV]) rfl rfl (fun r2 h' n' hrr => ?_)
  obtain ⟨⟨y, e, e1, hw⟩, e2, e3⟩ := hrr
  subst e1 e2 e3
  conv => cbv
  refine Br.mk (fun g3 => ?_) (fun g3 => ?_)
  · have g3 : e = 0 := g3
    have hyes : MayP X := by
      refine ⟨by omega, by rw [← h1, ← hv, ← h4]; omega, ?_⟩
      rcases hw with ⟨hok, _, _⟩ | ⟨_, _, he⟩ | ⟨_, _, _, he⟩
      · exact hok
      · omega
      · omega
    conv => cbv
    refine RetF.mk [.p (.bool true)] [(0, .fix 0 o)] 1 (Re.at [(0, 0)] []) rfl ⟨⟨true, rfl, by simp [hyes]⟩, rfl, rfl⟩
  · have g3 : ¬ e = 0 := g3
    have hno : ¬ MayP X := fun h => by
      rcases hw with ⟨_, _, he⟩ | ⟨hn, _, _⟩ | ⟨_, hn, _, _⟩
      · exact g3 he
      · cases hn
      · exact hn h.2.2
    conv => cbv
    refine RetF.mk [.p (.bool false)] [(0, .fix 0 o)] 1 (Re.at [(0, 0)] []) rfl ⟨⟨false, rfl, by simp only [Bool.false_eq_true, false_iff]; exact hno⟩, rfl, rfl⟩
def LeadP (x : Is) (m : Int) : Prop := if x.op = 10 ∨ x.op = 11 ∨ x.op = 12 then x.n < m else ∀ c ∈ x.cs, c.to < m
set_option maxHeartbeats 2000000 in
theorem leads_lx (X : Is) (op a b n k m : Int) (L : List PV) (h1 : op = X.op) (h4 : n = X.n) (h5 : k = X.cs.length) (h6 : L = csV X.cs) (h7 : X.cs.length ≤ 3000000) : CallF (fun _ => Tryd.prog) 62 [.agg [.p (.int .i64 (.sym op)), .p (.int .i64 (.sym a)), .p (.int .i64 (.sym b)), .p (.int .i64 (.sym n)), .p (.vsl (.sym k) true L)], .p (.int .i64 (.sym m))] [] 0 (fun r h n' => (∃ q : Bool, r = .p (.bool q) ∧ (q = true ↔ LeadP X m)) ∧ h = [] ∧ n' = 0) := by
  have hj : ∀ (g : op = 10 ∨ op = 11 ∨ op = 12), (LeadP X m ↔ n < m) := fun g => by unfold LeadP; rw [if_pos (by omega), h4]
  refine callF_of_body tok Tryd.func62 (by kernel_rfl) rfl rfl rfl ?_; conv => cbv
  iterate 3
    refine Br.mk (fun g => ?_) (fun g => ?_)
    case refine_1 =>
      simp only [I.val] at g
      conv => cbv
      refine Br.mk (fun g2 => ?_) (fun g2 => ?_)
      · simp only [I.val] at g2
        conv => cbv
        refine RetF.mk [.p (.bool true)] [] 0 (Re.at [] []) rfl ⟨⟨true, rfl, by rw [hj (by omega)]; simp [g2]⟩, rfl, rfl⟩
      · simp only [I.val] at g2
        conv => cbv
        refine RetF.mk [.p (.bool false)] [] 0 (Re.at [] []) rfl ⟨⟨false, rfl, by rw [hj (by omega)]; simp only [Bool.false_eq_true, false_iff]; exact g2⟩, rfl, rfl⟩
    simp only [I.val] at g
    conv => cbv
  have hnj : LeadP X m ↔ ∀ c ∈ X.cs, c.to < m := by unfold LeadP; rw [if_neg (by omega)]
  refine LoopF.mk (fun kk s => ∃ i : Int, s = ⟨.undef :: .p (.int .i64 (.sym m)) :: (undefs 16 ++ .p (.vsl (.sym k) true L) :: .p (.int .i64 (.sym k)) :: .p (.int .i64 (.sym i)) :: undefs 8), [], 1⟩ ∧ (∀ c ∈ X.cs.take i.toNat, c.to < m) ∧ 0 ≤ i ∧ i ≤ k ∧ kk = (k - i).toNat) k.toNat _
    (Re.at [] []) ⟨0, rfl, (fun c hc => by simp at hc), by omega, by omega, by omega⟩ ?_
  rintro kk s ⟨i, rfl, hall, h0, hik, hkk⟩
  conv => cbv
  refine Br.mk (fun g2 => ?_) (fun g2 => ?_)
  · have g2 : i < k := g2
    obtain ⟨c, hc⟩ : ∃ c, X.cs[i.toNat]? = some c := ⟨_, List.getElem?_eq_getElem (by omega)⟩
    have hcm := List.mem_of_getElem? hc
    have hcg := csV_get hc
    rw [← h6] at hcg
    obtain ⟨ck, hck⟩ : ∃ x, x = c.k := ⟨_, rfl⟩
    obtain ⟨cc, hcc⟩ : ∃ x, x = c.ch := ⟨_, rfl⟩
    obtain ⟨cr, hcr⟩ : ∃ x, x = c.reg := ⟨_, rfl⟩
    obtain ⟨ct, hct⟩ : ∃ x, x = c.to := ⟨_, rfl⟩
    rw [← hck, ← hcc, ← hcr, ← hct] at hcg
    obtain ⟨k', rfl⟩ : ∃ k', kk = k' + 1 := ⟨kk - 1, by omega⟩
    conv => cbv
    refine Need.mk ⟨by show (0 : Int) ≤ i; omega, by show i < k; omega⟩ ?_
    conv => cbv
    refine Sum.mk fun w hw => ?_
    have hw : w = i * 4 := hw
    conv => cbv
    refine Cell.at w (i.toNat * 4) hcg.1 (by simp [I.val]) (by omega) ?_
    conv => cbv
    refine Cell.at (w + 1) (i.toNat * 4 + 1) hcg.2.1 (by simp [I.val]) (by omega) ?_
    conv => cbv
    refine Cell.at (w + 2) (i.toNat * 4 + 2) hcg.2.2.1 (by simp [I.val]) (by omega) ?_
    conv => cbv
    refine Cell.at (w + 3) (i.toNat * 4 + 3) hcg.2.2.2 (by simp [I.val]) (by omega) ?_
    conv => cbv
    refine Br.mk (fun g3 => ?_) (fun g3 => ?_)
    · have g3 : m ≤ ct := g3
      have hno : ¬ LeadP X m := fun h => by have := hnj.1 h c hcm; omega
      conv => cbv
      refine RetF.mk [.p (.bool false)] [] 0 (Re.at [] []) rfl ⟨⟨false, rfl, by simp only [Bool.false_eq_true, false_iff]; exact hno⟩, rfl, rfl⟩
    · have g3 : ¬ m ≤ ct := g3
      conv => cbv
      refine Fit.mk (by show (-9223372036854775808 : Int) ≤ i + 1; omega) (by show i + 1 ≤ 9223372036854775807; omega) fun i2 hi2 => ?_
      have hi2 : i2 = i + 1 := hi2
      conv => cbv
      refine Again.mk k' _ (Nat.lt_succ_self _) (Re.at [] []) ⟨i2, rfl, ?_, by omega, by omega, by omega⟩
      rw [show i2.toNat = i.toNat + 1 by omega, List.take_add_one, hc]
      intro d hd
      rcases List.mem_append.1 hd with hd | hd
      · exact hall d hd
      · simp at hd; subst hd; omega
  · have g2 : ¬ i < k := g2
    rw [List.take_of_length_le (by omega)] at hall
    conv => cbv
    refine RetF.mk [.p (.bool true)] [] 0 (Re.at [] []) rfl ⟨⟨true, rfl, by rw [hnj]; simp; exact hall⟩, rfl, rfl⟩
/-- What Valid tells. -/
def ValidP (l : List Is) (a e : Int) : Prop := (l = [] ∧ a = 0 ∧ e = 7) ∨ (60 < l.length ∧ a = 0 ∧ e = 3) ∨ (l ≠ [] ∧ l.length ≤ 60 ∧ (∀ x ∈ l, MayP x ∧ LeadP x l.length) ∧ a = 0 ∧ e = 0) ∨
  (l ≠ [] ∧ l.length ≤ 60 ∧ ∃ (i : Nat) (x : Is), l[i]? = some x ∧ (∀ y ∈ l.take i, MayP y ∧ LeadP y l.length) ∧ a = (i : Int) + 1 ∧ ((¬ MayP x ∧ e = 5) ∨ (MayP x ∧ ¬ LeadP x l.length ∧ e = 6)))
inductive JudgeR (l : List Is) : LV → Prop
  | none (h : ValidP l 0 0) : JudgeR l (.p .nilif)
  | some (a e : Int) (h : ValidP l a e) : JudgeR l (.iface 92 (.agg [.p (.int .i64 (.sym a)), .p (.int .i64 (.sym e))]))
set_option maxHeartbeats 4000000 in
theorem judge_lx (l : List Is) (k : Int) (L : List PV) (o : Unit → Obj) (ho : IsPow o) (hk : k = l.length) (hL : L = isV l) (hX : ∀ x ∈ l, XW x) : CallF (fun _ => Tryd.prog) 39 [.p (.vsl (.sym k) true L)] [(0, .fix 0 o)] 1 (fun r h n' => JudgeR l r ∧ h = [(0, .fix 0 o)] ∧ n' = 1) := by
  refine callF_of_body tok Tryd.func39 (by kernel_rfl) rfl rfl rfl ?_; conv => cbv
  refine Br.mk (fun g => ?_) (fun g => ?_)
  · have g : k = 0 := g
    conv => cbv
    refine RetF.mk [.iface 92 (.agg [.p (.int .i64 (.sym 0)), .p (.int .i64 (.sym 7))])] [(0, .fix 0 o)] 1 (Re.at [(0, 0)] []) rfl ⟨.some 0 7 (.inl ⟨List.length_eq_zero_iff.1 (by omega), rfl, rfl⟩), rfl, rfl⟩
  have g : ¬ k = 0 := g
  have hl0 : l ≠ [] := by intro h; rw [h] at hk; exact g hk
  conv => cbv
  refine Br.mk (fun g2 => ?_) (fun g2 => ?_)
  · have g2 : 60 < k := g2
    conv => cbv
    refine RetF.mk [.iface 92 (.agg [.p (.int .i64 (.sym 0)), .p (.int .i64 (.sym 3))])] [(0, .fix 0 o)] 1 (Re.at [(0, 0)] []) rfl ⟨.some 0 3 (.inr (.inl ⟨by omega, rfl, rfl⟩)), rfl, rfl⟩
  have g2 : ¬ 60 < k := g2
  conv => cbv
  refine LoopF.mk (fun kk s => ∃ i : Int, s = ⟨.p (.vsl (.sym k) true L) :: (undefs 14 ++ .p (.vsl (.sym k) true L) :: .p (.int .i64 (.sym k)) :: .p (.int .i64 (.sym i)) :: undefs 21), [(0, .fix 0 o)], 1⟩ ∧ (∀ y ∈ l.take i.toNat, MayP y ∧ LeadP y l.length) ∧ 0 ≤ i ∧ i ≤ k ∧ kk = (k - i).toNat) k.toNat _
    (Re.at [(0, 0)] []) ⟨0, rfl, (fun c hc => by simp at hc), by omega, by omega, by omega⟩ ?_
  rintro kk s ⟨i, rfl, hall, h0, hik, hkk⟩
  conv => cbv
  refine Br.mk (fun g3 => ?_) (fun g3 => ?_)
  case refine_2 =>
    have g3 : ¬ i < k := g3
    rw [List.take_of_length_le (by omega)] at hall
    conv => cbv
    refine RetF.mk [.p .nilif] [(0, .fix 0 o)] 1 (Re.at [(0, 0)] []) rfl ⟨.none (.inr (.inr (.inl ⟨hl0, by omega, hall, rfl, rfl⟩))), rfl, rfl⟩
  have g3 : i < k := g3
  obtain ⟨x, hx⟩ : ∃ x, l[i.toNat]? = some x := ⟨_, List.getElem?_eq_getElem (by omega)⟩
  have hxm := List.mem_of_getElem? hx
  have hxg := isV_get hx
  rw [← hL] at hxg
  obtain ⟨xo, hxo⟩ : ∃ q, q = x.op := ⟨_, rfl⟩
  obtain ⟨xa, hxa⟩ : ∃ q, q = x.a := ⟨_, rfl⟩
  obtain ⟨xb, hxb⟩ : ∃ q, q = x.b := ⟨_, rfl⟩
  obtain ⟨xn, hxn⟩ : ∃ q, q = x.n := ⟨_, rfl⟩
  obtain ⟨xk, hxk⟩ : ∃ q, q = ((x.cs.length : Nat) : Int) := ⟨_, rfl⟩
  obtain ⟨xl, hxl⟩ : ∃ q, q = csV x.cs := ⟨_, rfl⟩
  rw [← hxo, ← hxa, ← hxb, ← hxn, ← hxk, ← hxl] at hxg
  obtain ⟨k', rfl⟩ : ∃ k', kk = k' + 1 := ⟨kk - 1, by omega⟩
  conv => cbv
  refine Need.mk ⟨by show (0 : Int) ≤ i; omega, by show i < k; omega⟩ ?_
  conv => cbv
  refine Sum.mk fun w hw => ?_
  have hw : w = i * 5 := hw
  conv => cbv
  refine Cell.at w (i.toNat * 5) hxg.1 (by simp [I.val]) (by omega) ?_
  conv => cbv
  refine Cell.at (w + 1) (i.toNat * 5 + 1) hxg.2.1 (by simp [I.val]) (by omega) ?_
  conv => cbv
  refine Cell.at (w + 2) (i.toNat * 5 + 2) hxg.2.2.1 (by simp [I.val]) (by omega) ?_
  conv => cbv
  refine Cell.at (w + 3) (i.toNat * 5 + 3) hxg.2.2.2.1 (by simp [I.val]) (by omega) ?_
  conv => cbv
  refine Cell.at (w + 4) (i.toNat * 5 + 4) hxg.2.2.2.2 (by simp [I.val]) (by omega) ?_
  conv => cbv
  refine callF_frame (mayBe_lx x xo xa xb xn xk xl o ho hxo hxa hxb hxn hxk hxl (hX x hxm)) [(0, 0)] rfl (by simp [hmapOk, nget, hget, renB, okB, renV, renVs, rn, okVs, okV]) rfl rfl (fun r2 h' n' hrr => ?_)
  obtain ⟨⟨q, e1, hq⟩, e2, e3⟩ := hrr
  subst e1 e2 e3
  have hfin : ∀ e : Int, ((¬ MayP x ∧ e = 5) ∨ (MayP x ∧ ¬ LeadP x l.length ∧ e = 6)) → ∀ a : Int, a = i + 1 → ValidP l a e := fun e he a ha => .inr (.inr (.inr ⟨hl0, by omega, i.toNat, x, hx, hall, by omega, he⟩))
  cases q with
  | false =>
    have hno : ¬ MayP x := fun h => by have := hq.2 h; cases this
    conv => cbv
    refine Fit.mk (by show (-9223372036854775808 : Int) ≤ i + 1; omega) (by show i + 1 ≤ 9223372036854775807; omega) fun t3 ht3 => ?_
    have ht3 : t3 = i + 1 := ht3
    conv => cbv
    refine RetF.mk [.iface 92 (.agg [.p (.int .i64 (.sym t3)), .p (.int .i64 (.sym 5))])] [(0, .fix 0 o)] 1 (Re.at [(0, 0)] []) rfl ⟨.some t3 5 (hfin 5 (.inl ⟨hno, rfl⟩) t3 ht3), rfl, rfl⟩
  | true =>
    have hyes : MayP x := hq.1 rfl
    conv => cbv
    refine callF_frame (leads_lx x xo xa xb xn xk k xl hxo hxn hxk hxl (by have := hyes.1; omega)) [] rfl trivial rfl rfl (fun r2 h' n' hrr => ?_)
    obtain ⟨⟨q, e1, hq2⟩, e2, e3⟩ := hrr
    subst e1 e2 e3
    rw [hk] at hq2
    cases q with
    | false =>
      have hno : ¬ LeadP x l.length := fun h => by have := hq2.2 h; cases this
      conv => cbv
      refine Fit.mk (by show (-9223372036854775808 : Int) ≤ i + 1; omega) (by show i + 1 ≤ 9223372036854775807; omega) fun t3 ht3 => ?_
      have ht3 : t3 = i + 1 := ht3
      conv => cbv
      refine RetF.mk [.iface 92 (.agg [.p (.int .i64 (.sym t3)), .p (.int .i64 (.sym 6))])] [(0, .fix 0 o)] 1 (Re.at [(0, 0)] []) rfl ⟨.some t3 6 (hfin 6 (.inr ⟨hyes, hno, rfl⟩) t3 ht3), rfl, rfl⟩
    | true =>
      have hyes2 : LeadP x l.length := hq2.1 rfl
      conv => cbv
      refine Fit.mk (by show (-9223372036854775808 : Int) ≤ i + 1; omega) (by show i + 1 ≤ 9223372036854775807; omega) fun i2 hi2 => ?_
      have hi2 : i2 = i + 1 := hi2
      conv => cbv
      refine Again.mk k' _ (Nat.lt_succ_self _) (Re.at [(0, 0)] []) ⟨i2, rfl, ?_, by omega, by omega, by omega⟩
      rw [show i2.toNat = i.toNat + 1 by omega, List.take_add_one, hx]
      intro d hd
      rcases List.mem_append.1 hd with hd | hd
      · exact hall d hd
      · simp at hd; subst hd; exact ⟨hyes, hyes2⟩
theorem told_none : CallF (fun _ => Tryd.prog) 38 [.p .nilif] [] 0 (fun r h n => r = .tup [.p (.int .i64 (.sym 0)), .p (.int .i64 (.sym 0))] ∧ h = [] ∧ n = 0) := by
  refine callF_of_body tok Tryd.func38 (by kernel_rfl) rfl rfl rfl ?_; conv => cbv
  refine RetF.mk [.p (.int .i64 (.sym 0)), .p (.int .i64 (.sym 0))] [] 0 (Re.at [] []) rfl ⟨rfl, rfl, rfl⟩
theorem told_some (a e : Int) : CallF (fun _ => Tryd.prog) 38 [.iface 92 (.agg [.p (.int .i64 (.sym a)), .p (.int .i64 (.sym e))])] [] 0 (fun r h n => r = .tup [.p (.int .i64 (.sym a)), .p (.int .i64 (.sym e))] ∧ h = [] ∧ n = 0) := by
  refine callF_of_body tok Tryd.func38 (by kernel_rfl) rfl rfl rfl ?_; conv => cbv
  refine draw_sound tok (by kernel_rfl) rfl (by kernel_rfl) ?_
  conv => cbv
  refine RetF.mk [.p (.int .i64 (.sym a)), .p (.int .i64 (.sym e))] [] 0 (Re.at [] []) rfl ⟨rfl, rfl, rfl⟩
theorem validW_lx (l : List Is) (k : Int) (L : List PV) (o : Unit → Obj) (ho : IsPow o) (hk : k = l.length) (hL : L = isV l) (hX : ∀ x ∈ l, XW x) : CallF (fun _ => Tryd.prog) 19 [.p (.vsl (.sym k) true L)] [(0, .fix 0 o)] 1 (fun r h n' => (∃ a e : Int, r = .tup [.p (.int .i64 (.sym a)), .p (.int .i64 (.sym e))] ∧ ValidP l a e) ∧ h = [(0, .fix 0 o)] ∧ n' = 1) := by
  refine callF_of_body tok Tryd.func19 (by kernel_rfl) rfl rfl rfl ?_; conv => cbv
  refine callF_frame (judge_lx l k L o ho hk hL hX) [(0, 0)] rfl (by simp [hmapOk, nget, hget, renB, okB, renV, renVs, rn, okVs, okV]) rfl rfl (fun r2 h' n' hrr => ?_)
  obtain ⟨e1, e2, e3⟩ := hrr
  subst e2 e3
  cases e1 with
  | none hv =>
    conv => cbv
    refine callF_frame told_none [] rfl trivial rfl rfl (fun r2 h' n' ⟨e1, e2, e3⟩ => ?_)
    subst e1 e2 e3
    conv => cbv
    refine RetF.mk [.p (.int .i64 (.sym 0)), .p (.int .i64 (.sym 0))] [(0, .fix 0 o)] 1 (Re.at [(0, 0)] []) rfl ⟨⟨0, 0, rfl, hv⟩, rfl, rfl⟩
  | some a e hv =>
    conv => cbv
    refine callF_frame (told_some a e) [] rfl trivial rfl rfl (fun r2 h' n' ⟨e1, e2, e3⟩ => ?_)
    subst e1 e2 e3
    conv => cbv
    refine RetF.mk [.p (.int .i64 (.sym a)), .p (.int .i64 (.sym e))] [(0, .fix 0 o)] 1 (Re.at [(0, 0)] []) rfl ⟨⟨a, e, rfl, hv⟩, rfl, rfl⟩
theorem valid_lx (l : List Is) (k : Int) (L : List PV) (o : Unit → Obj) (ho : IsPow o) (hk : k = l.length) (hL : L = isV l) (hlen : l.length ≤ 100000) (hX : ∀ x ∈ l, XI64 x) : CallF (fun _ => Tryd.prog) 19 [.p (.vsl (.sym k) true L)] [(0, .fix 0 o)] 1 (fun r h n' => (∃ a e : Int, r = .tup [.p (.int .i64 (.sym a)), .p (.int .i64 (.sym e))] ∧ ValidP l a e) ∧ h = [(0, .fix 0 o)] ∧ n' = 1) := validW_lx l k L o ho hk hL (fun x hx => (hX x hx).w)
end Go.Proofs.YtfjdifeofnpcnaaDoor
