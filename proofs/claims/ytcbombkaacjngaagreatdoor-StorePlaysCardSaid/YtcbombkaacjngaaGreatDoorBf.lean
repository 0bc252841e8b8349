/-
  The ground of the proof, part 6: the calculus and what is proved with it.
-/
import Derived.Test.YtcbombkaacjngaaGreatDoorBe
namespace Go.Proofs.YtcbombkaacjngaaGreatDoor
open Go Go.LX
set_option maxRecDepth 100000
set_option linter.unusedVariables false
set_option linter.unusedSimpArgs false
set_option maxHeartbeats 32000000
def Wrds (R : List Rw) (ws : List Int) (a : Int) (X : List Int) : Prop := LenR R ws a X.length ∧ ∀ (i : Nat) (x : Int),X[i]? = some x → Loaded R ws a i x 0
theorem Kept.det9 {R : List Rw} {ws : List Int} {a k l k' l' : Int} (h : Kept R ws a k l) (h' : Kept R ws a k' l') : k = k' ∧ l = l' := by
 obtain ⟨w,_,h1,h2,h3,h4,h5⟩ := h
 obtain ⟨w',_,k1,k2,k3,k4,k5⟩ := h'
 rw [h1] at k1
 have := Option.some.inj k1
 omega
theorem wrds_ex {R : List Rw} {ws : List Int} {a l : Int} (hA : AOk R ws) (h : LenR R ws a l) : ∃ X,Wrds R ws a X ∧ l = X.length ∧ X.length ≤ 31 := by
 cases h with
 | no hn => exact ⟨[],⟨.no hn,fun i x hx => by simp at hx⟩,rfl,by simp⟩
 | is k l hk =>
  have hb := hk.bounds hA
  have hlen := hA.len
  refine ⟨(ws.drop (a + 1).toNat).take l.toNat,⟨?_,fun i x hx => ?_⟩,?_,?_⟩
  ·have : (((ws.drop (a + 1).toNat).take l.toNat).length : Int) = l := by rw [List.length_take,List.length_drop]; omega
   rw [this]; exact .is k l hk
  ·rw [List.getElem?_take] at hx
   split at hx
   ·rw [List.getElem?_drop] at hx
    refine .ok k l x hk ⟨by omega,by omega⟩ ?_
    rw [show (a + 1 + (i : Int)).toNat = (a + 1).toNat + i by omega]; exact hx
   ·cases hx
  ·rw [List.length_take,List.length_drop]; omega
  ·rw [List.length_take]; omega
theorem loaded_det {R : List Rw} {ws : List Int} {a i x e y f : Int} (h : Loaded R ws a i x e) (h' : Loaded R ws a i y f) : x = y ∧ e = f := by
 cases h with
 | none hn => cases h' with
  | none _ => exact ⟨rfl,rfl⟩
  | arg k l hk _ => exact absurd hk.obj6 hn
  | ok k l x hk _ _ => exact absurd hk.obj6 hn
 | arg k l hk hi => cases h' with
  | none hn => exact absurd hk.obj6 hn
  | arg _ _ _ _ => exact ⟨rfl,rfl⟩
  | ok k' l' x hk' hi' _ => obtain ⟨_,rfl⟩ := hk.det9 hk'; exact absurd hi' hi
 | ok k l x hk hi hx => cases h' with
  | none hn => exact absurd hk.obj6 hn
  | arg k' l' hk' hi' => obtain ⟨_,rfl⟩ := hk.det9 hk'; exact absurd hi hi'
  | ok k' l' y hk' hi' hy => rw [hx] at hy; exact ⟨Option.some.inj hy,rfl⟩
theorem Wrds.bd {R : List Rw} {ws X : List Int} {a : Int} (hA : AOk R ws) (h : Wrds R ws a X) : ∀ x ∈ X,-9223372036854775808 ≤ x ∧ x ≤ 9223372036854775807 := by
 intro x hx
 obtain ⟨i,hi⟩ := List.getElem?_of_mem hx
 cases h.2 i x hi with
 | ok k l _ hk hi hx => exact hA.bd x (List.mem_of_getElem? hx)
theorem wordsH_lx (R : List Rw) (ws C G : List Int) (N W ph sp cy : Int) (L D Q : List PV) (z : ByteArray) (ov : Bool) (h : HM R ws C G N W L D Q z) (a : Int) : CallF (fun _ => Tryz.prog) 183 [.ptr 0 (.lit 0),i6 a] [hpA 0 1 5 6 3 W ph sp cy,hpB 1 2 4 3 W,hpC 2 3 270 2 N,hpP 3 L,hpP 4 D,hpF 5 z ov,hpP 6 Q] 7 (fun r h n => ∃ (X : List Int) (m : Int) (O : List PV),r = .sl 7 3 1 (.lit 0) (.sym m) ∧ h = [hpA 0 1 5 6 3 W ph sp cy,hpB 1 2 4 3 W,hpC 2 3 270 2 N,hpP 3 L,hpP 4 D,hpF 5 z ov,hpP 6 Q,hpP 7 O] ∧ n = 8 ∧ O = ipv X ∧ m = X.length ∧ Wrds R ws a X) := by
 refine callF_of_body tok Tryz.func183 (by kernel_rfl) rfl rfl rfl ?_; conv => cbv
 refine cfr (len_lx R ws N a W L D h.l h.d h.n h.r h.a h.w) [(0,1),(1,2),(2,3),(3,4)] (fun r h' n' hrr => ?_)
 obtain ⟨v,e1,e2,e3,hv⟩ := hrr
 subst e1 e2 e3
 conv => cbv
 obtain ⟨X,hX,hvX,hX31⟩ := wrds_ex h.a hv
 refine LoopF.mk (fun k s => ∃ (i : Int) (O : List PV),s = ⟨.ptr 0 (.lit 0) :: .p (.int .i64 (.sym a)) :: (undefs 3 ++ .sl 7 3 1 (.lit 0) (.sym i) :: (undefs 8 ++ .p (.int .i64 (.sym v)) :: .p (.int .i64 (.sym i)) :: undefs 18)),[hpA 0 1 5 6 3 W ph sp cy,hpB 1 2 4 3 W,hpC 2 3 270 2 N,hpP 3 L,hpP 4 D,hpF 5 z ov,hpP 6 Q,hpP 7 O],8⟩ ∧ 0 ≤ i ∧ i ≤ v ∧ O = ipv (X.take i.toNat) ∧ k = (v - i).toNat) v.toNat _
  (Re.at [(0,0),(1,1),(2,2),(3,3),(4,4),(5,5),(6,6)] [7]) ⟨0,[],rfl,by omega,by omega,by simp [ipv],by omega⟩ ?_
 rintro k s ⟨i,O,rfl,hi0,hi1,hO,hk⟩
 have hOl : (O.length : Int) = i := by rw [hO,ipv_length,List.length_take]; omega
 conv => cbv
 refine Br.mk (fun gi => ?_) (fun gi => ?_)
 ·have gi : i < v := gi
  obtain ⟨k',rfl⟩ : ∃ k',k = k' + 1 := ⟨k - 1,by omega⟩
  obtain ⟨x0,hx0⟩ : ∃ x0,X[i.toNat]? = some x0 := ⟨_,List.getElem?_eq_getElem (by omega)⟩
  have hld := hX.2 _ _ hx0
  rw [show ((i.toNat : Nat) : Int) = i by omega] at hld
  conv => cbv
  refine cfr (load_lx i R ws N a W L D h.l h.d h.n h.r h.a h.w) [(0,1),(1,2),(2,3),(3,4)] (fun r h' n' hrr => ?_)
  obtain ⟨x,e,e1,e2,e3,hx⟩ := hrr
  subst e1 e2 e3
  obtain ⟨rfl,rfl⟩ := loaded_det hx hld
  conv => cbv
  refine Room.new rfl ?_
  conv => cbv
  refine Room.new ⟨?_,?_,?_⟩ ?_
  ·show (O.length : Int) = i * 1; omega
  ·show (i + 1) * 8 ≤ 140737488355328; omega
  ·show i + 1 ≤ 9223372036854775807; omega
  conv => cbv
  refine Upd.mk fun O3 hO3 => ?_
  have hO3 : O3 = O ++ [.int .i64 (.sym x)] := hO3
  have hO3 : O3 = ipv (X.take (i.toNat + 1)) := by
   rw [hO3,hO,List.take_add_one,hx0]
   simp [ipv]
  conv => cbv
  refine Sum.mk fun j2 hj2 => ?_
  have hj2 : j2 = i + 1 := hj2
  conv => cbv
  refine Fit.mk (by show (-9223372036854775808 : Int) ≤ i + 1; omega) (by show i + 1 ≤ 9223372036854775807; omega) fun i2 hi2 => ?_
  have hi2 : i2 = i + 1 := hi2
  obtain rfl : j2 = i2 := by omega
  have htt : j2.toNat = i.toNat + 1 := by omega
  rw [← htt] at hO3
  conv => cbv
  refine Again.mk k' _ (Nat.lt_succ_self _) (Re.at [(0,0),(1,1),(2,2),(3,3),(4,4),(5,5),(6,6),(9,7)] []) ⟨j2,O3,rfl,by omega,by omega,hO3,by omega⟩
 ·have gi : ¬ i < v := gi
  obtain rfl : i = v := by omega
  have hOX : O = ipv X := by rw [hO,List.take_of_length_le (by omega)]
  conv => cbv
  refine RetF.mk [.sl 7 3 1 (.lit 0) (.sym i)] [hpA 0 1 5 6 3 W ph sp cy,hpB 1 2 4 3 W,hpC 2 3 270 2 N,hpP 3 L,hpP 4 D,hpF 5 z ov,hpP 6 Q,hpP 7 O] 8 (Re.at [(0,0),(1,1),(2,2),(3,3),(4,4),(5,5),(6,6),(7,7)] []) rfl ⟨X,i,O,rfl,rfl,rfl,hOX,hvX,hX⟩
theorem load9_lx (R : List Rw) (ws C G : List Int) (N W ph sp cy : Int) (L D Q : List PV) (z : ByteArray) (ov : Bool) (h : HM R ws C G N W L D Q z) (a i : Int) : CallF (fun _ => Tryz.prog) 85 [.ptr 0 (.lit 0),i6 a,i6 i] [hpA 0 1 5 6 3 W ph sp cy,hpB 1 2 4 3 W,hpC 2 3 270 2 N,hpP 3 L,hpP 4 D,hpF 5 z ov,hpP 6 Q] 7 (fun r h n => ∃ x e : Int,r = .tup [i6 x,i6 e] ∧ h = [hpA 0 1 5 6 3 W ph sp cy,hpB 1 2 4 3 W,hpC 2 3 270 2 N,hpP 3 L,hpP 4 D,hpF 5 z ov,hpP 6 Q] ∧ n = 7 ∧ Loaded R ws a i x e) := by
 refine callF_of_body tok Tryz.func85 (by kernel_rfl) rfl rfl rfl ?_; conv => cbv
 refine cfr (arena_lx R ws C G N W ph sp cy L D Q z ov) [(0,0),(1,1),(2,2),(3,3),(4,4),(5,5),(6,6)] (fun r h' n' ⟨e1,e2,e3⟩ => ?_)
 subst e1 e2 e3
 conv => cbv
 refine cfr (load_lx i R ws N a W L D h.l h.d h.n h.r h.a h.w) [(0,1),(1,2),(2,3),(3,4)] (fun r h' n' hrr => ?_)
 obtain ⟨x,e,e1,e2,e3,hx⟩ := hrr
 subst e1 e2 e3
 conv => cbv
 refine RetF.mk [i6 x,i6 e] [hpA 0 1 5 6 3 W ph sp cy,hpB 1 2 4 3 W,hpC 2 3 270 2 N,hpP 3 L,hpP 4 D,hpF 5 z ov,hpP 6 Q] 7 (Re.at [(0,0),(1,1),(2,2),(3,3),(4,4),(5,5),(6,6)] []) rfl ⟨x,e,rfl,rfl,rfl,hx⟩
theorem colour_lx (R : List Rw) (ws C G : List Int) (N W ph sp cy : Int) (L D Q : List PV) (z : ByteArray) (ov : Bool) (h : HM R ws C G N W L D Q z) (a : Int) : CallF (fun _ => Tryz.prog) 82 [.ptr 0 (.lit 0),i6 a] [hpA 0 1 5 6 3 W ph sp cy,hpB 1 2 4 3 W,hpC 2 3 270 2 N,hpP 3 L,hpP 4 D,hpF 5 z ov,hpP 6 Q] 7 (fun r h n => ∃ c : Int,r = .p (.int .i64 (.sym c)) ∧ h = [hpA 0 1 5 6 3 W ph sp cy,hpB 1 2 4 3 W,hpC 2 3 270 2 N,hpP 3 L,hpP 4 D,hpF 5 z ov,hpP 6 Q] ∧ n = 7 ∧ (a ∈ objs R → C[a.toNat]? = some c) ∧ (¬ a ∈ objs R → c = 0)) := by
 have hCl := h.c; have hWn := h.w; have hNr := h.n
 have hQl : Q.length = C.length := by rw [h.q,ipv_length]
 refine callF_of_body tok Tryz.func82 (by kernel_rfl) rfl rfl rfl ?_; conv => cbv
 refine cfr (arena_lx R ws C G N W ph sp cy L D Q z ov) [(0,0),(1,1),(2,2),(3,3),(4,4),(5,5),(6,6)] (fun r h' n' ⟨e1,e2,e3⟩ => ?_)
 subst e1 e2 e3
 conv => cbv
 refine cfr (kind_lx R ws N a W L D h.l h.d h.n h.r h.a h.w) [(0,1),(1,2),(2,3),(3,4)] (fun r h' n' hrr => ?_)
 obtain ⟨v,e1,e2,e3,hv⟩ := hrr
 subst e1 e2 e3
 conv => cbv
 refine Br.mk (fun g => ?_) (fun g => ?_)
 ·have g : v = 0 := g
  have hno : ¬ a ∈ objs R := by
   intro ho
   cases hv with
   | no hn => exact hn ((obj_iff h.a a).1 ho)
   | is k l hk => have := h.k a v l hk; omega
  conv => cbv
  refine RetF.mk [i6 0] [hpA 0 1 5 6 3 W ph sp cy,hpB 1 2 4 3 W,hpC 2 3 270 2 N,hpP 3 L,hpP 4 D,hpF 5 z ov,hpP 6 Q] 7 (Re.at [(0,0),(1,1),(2,2),(3,3),(4,4),(5,5),(6,6)] []) rfl ⟨0,rfl,rfl,rfl,fun k => absurd k hno,fun _ => rfl⟩
 ·have g : ¬ v = 0 := g
  obtain ⟨l,hk⟩ : ∃ l,Kept R ws a v l := by
   cases hv with
   | no hn => exact absurd rfl g
   | is k l hk => exact ⟨l,hk⟩
  have hb := hk.bounds h.a
  have ho : a ∈ objs R := (obj_iff h.a a).2 hk.obj6
  obtain ⟨x,hx⟩ : ∃ x,C[a.toNat]? = some x := ⟨_,List.getElem?_eq_getElem (by omega)⟩
  have hq : Q[a.toNat]? = some (.int .i64 (.sym x)) := by rw [h.q]; exact ipv_get hx
  conv => cbv
  refine Need.mk ⟨by show 0 ≤ a; omega,by show a < W; omega⟩ ?_
  conv => cbv
  refine Cell.at a _ hq (by simp [I.val]) rfl ?_
  conv => cbv
  refine RetF.mk [i6 x] [hpA 0 1 5 6 3 W ph sp cy,hpB 1 2 4 3 W,hpC 2 3 270 2 N,hpP 3 L,hpP 4 D,hpF 5 z ov,hpP 6 Q] 7 (Re.at [(0,0),(1,1),(2,2),(3,3),(4,4),(5,5),(6,6)] []) rfl ⟨x,rfl,rfl,rfl,fun _ => hx,fun k => absurd ho k⟩
def storeS (R : List Rw) (ph e x : Int) (s : List Int × List Int × Bool) : List Int × List Int × Bool := if e = 0 then shadeW R ph x s else s
theorem K1.stored {R : List Rw} {ws ws' : List Int} {a i x e : Int} (hA : AOk R ws) (hk : K1 R ws) (h : Stored R ws a i x e ws') : K1 R ws' := by
 cases h with
 | none _ => exact hk
 | arg _ _ _ _ => exact hk
 | ok k l hka hi =>
  intro b k' l' hb
  have hbn := hka.bounds hA
  obtain ⟨w,q1,q2,q3,q4,q5,q6⟩ := hb
  have hne : (a + 1 + i).toNat ≠ b.toNat := by
   obtain ⟨wa,p1,p2,p3,p4,p5,p6⟩ := hka
   have := within_not hA.rows p1 q1 (j := a + 1 + i) (by omega) (by omega)
   have := q1.facts hA.rows
   omega
  rw [List.getElem?_set_ne hne] at q2
  exact hk b k' l' (.mk k' l' w q1 q2 q3 q4 q5 q6)
theorem HM.stored {R : List Rw} {ws ws' C G : List Int} {N W : Int} {L D D' Q : List PV} {z : ByteArray} {a i x e : Int} (h : HM R ws C G N W L D Q z) (hx : -9223372036854775808 ≤ x ∧ x ≤ 9223372036854775807) (hs : Stored R ws a i x e ws') (hD : D' = ipv ws') : HM R ws' C G N W L D' Q z :=
 ⟨h.a.stored hx hs,h.k.stored h.a hs,h.n,h.r,h.w,h.l,hD,h.q,h.c,h.z,h.g,h.g8⟩
theorem store9_lx (R : List Rw) (ws C G : List Int) (N W ph sp cy : Int) (L D Q : List PV) (z : ByteArray) (ov : Bool) (h : HM R ws C G N W L D Q z) (o : Unit → Obj) (ho : IsPow o) (a i x : Int) (hx : -9223372036854775808 ≤ x ∧ x ≤ 9223372036854775807) : CallF (fun _ => Tryz.prog) 18 [.ptr 0 (.lit 0),i6 a,i6 i,i6 x] [hpA 0 1 5 6 3 W ph sp cy,hpB 1 2 4 3 W,hpC 2 3 270 2 N,hpP 3 L,hpP 4 D,hpF 5 z ov,hpP 6 Q,(7,.fix 0 o)] 8 (fun r h n => ∃ (e : Int) (ws' C' G' : List Int) (ov' : Bool) (D' Q' : List PV) (z' : ByteArray),r = .p (.int .i64 (.sym e)) ∧ h = [hpA 0 1 5 6 3 W ph sp cy,hpB 1 2 4 3 W,hpC 2 3 270 2 N,hpP 3 L,hpP 4 D',hpF 5 z' ov',hpP 6 Q',(7,.fix 0 o)] ∧ n = 8 ∧ HM R ws' C' G' N W L D' Q' z' ∧ Stored R ws a i x e ws' ∧ (C',G',ov') = storeS R ph e x (C,G,ov)) := by
 refine callF_of_body tok Tryz.func18 (by kernel_rfl) rfl rfl rfl ?_; conv => cbv
 refine cfr (arena_lx R ws C G N W ph sp cy L D Q z ov) [(0,0),(1,1),(2,2),(3,3),(4,4),(5,5),(6,6)] (fun r h' n' ⟨e1,e2,e3⟩ => ?_)
 subst e1 e2 e3
 conv => cbv
 refine cfr (store_lx i x R ws N a W L D h.l h.d h.n h.r h.a h.w) [(0,1),(1,2),(2,3),(3,4)] (fun r h' n' hrr => ?_)
 obtain ⟨e,ws',D',e1,e2,e3,hD',hT⟩ := hrr
 subst e1 e2 e3
 conv => cbv
 have h2 := h.stored hx hT hD'
 refine Br.mk (fun g => ?_) (fun g => ?_)
 ·have g : e = 0 := g
  conv => cbv
  refine cfr (shadeWord_lx R ws' C G N W ph sp cy L D' Q z ov h2 o ho x hx) [(0,0),(1,1),(2,2),(3,3),(4,4),(5,5),(6,6),(7,7)] (fun r h' n' hrr => ?_)
  obtain ⟨C',G',ov',Q',z',e1,e2,e3,h3,hs⟩ := hrr
  subst e1 e2 e3
  conv => cbv
  refine RetF.mk [i6 e] [hpA 0 1 5 6 3 W ph sp cy,hpB 1 2 4 3 W,hpC 2 3 270 2 N,hpP 3 L,hpP 4 D',hpF 5 z' ov',hpP 6 Q',(7,.fix 0 o)] 8 (Re.at [(0,0),(1,1),(2,2),(3,3),(4,4),(5,5),(6,6),(7,7)] []) rfl ⟨e,ws',C',G',ov',D',Q',z',rfl,rfl,rfl,h3,hT,by unfold storeS; rw [if_pos g]; exact hs⟩
 ·have g : ¬ e = 0 := g
  conv => cbv
  refine RetF.mk [i6 e] [hpA 0 1 5 6 3 W ph sp cy,hpB 1 2 4 3 W,hpC 2 3 270 2 N,hpP 3 L,hpP 4 D',hpF 5 z ov,hpP 6 Q,(7,.fix 0 o)] 8 (Re.at [(0,0),(1,1),(2,2),(3,3),(4,4),(5,5),(6,6),(7,7)] []) rfl ⟨e,ws',C,G,ov,D',Q,z,rfl,rfl,rfl,h2,hT,by unfold storeS; rw [if_neg g]⟩
theorem alloct_gen9 {R R' : List Rw} {ws ws' : List Int} {kind n a e : Int} (hA : AOk R ws) (h : Alloct R ws kind n a e R' ws') :
  (e ≠ 0 ∧ a = 0 ∧ R' = R ∧ ws' = ws) ∨ (e = 0 ∧ (0 ≤ n ∧ n ≤ 31 ∧ 1 ≤ kind ∧ kind ≤ 6) ∧ Kept R' ws' a kind n ∧ (∀ b k l,Kept R ws b k l → Kept R' ws' b k l ∧ b ≠ a ∧ ∀ i,0 ≤ i → i < l → ws'[(b + 1 + i).toNat]? = ws[(b + 1 + i).toNat]?) ∧ (∀ b,IsObj R' b → b = a ∨ IsObj R b)) := by
 have hA1 := (hA.alloct h).1
 cases h with
 | arg h => exact .inl ⟨by decide,rfl,rfl,rfl⟩
 | room i s R' hc ha =>
  obtain ⟨rfl,_⟩ := full_count hA.rows (ofN_slots n) ha
  exact .inl ⟨by decide,rfl,rfl,rfl⟩
 | ok i s _ R' hc ha hi hat =>
  right
  obtain ⟨w,hw⟩ : ∃ w,w = wordsOf (ofN n) := ⟨_,rfl⟩
  obtain ⟨q1,q2,q3,q4,q5⟩ := alloc_objs hA.rows ha a w hat hw
  have hobj : ObjAt R' a w := (q5 _ _).2 (.inr ⟨rfl,rfl⟩)
  obtain ⟨f1,f2,f3,_⟩ := hobj.facts q1
  have hnw : n < w := by rw [hw]; exact (ofN_words ⟨hc.1,hc.2.1⟩).1
  have hlw := hA.len
  have gw : ∀ j : Nat,j < ws.length → (zer (ws.set a.toNat (kind + 16 * n)) (a.toNat + 1) n.toNat)[j]? = if a.toNat + 1 ≤ j ∧ j < a.toNat + 1 + n.toNat then some 0 else (ws.set a.toNat (kind + 16 * n))[j]? := fun j hj => zer_get _ _ _ _ (by rw [List.length_set]; exact hj)
  have farw : ∀ j : Nat,(j : Int) < a ∨ a + w ≤ j → (zer (ws.set a.toNat (kind + 16 * n)) (a.toNat + 1) n.toNat)[j]? = ws[j]? := fun j hj => by
   by_cases hjl : j < ws.length
   ·rw [gw j hjl,if_neg (by omega),List.getElem?_set_ne (by omega)]
   ·rw [List.getElem?_eq_none (by rw [zer_length,List.length_set]; omega),List.getElem?_eq_none (by omega)]
  obtain ⟨p1,p2,p3,p4⟩ := alloc_gen hA hc ha hat hw (by rw [zer_length,List.length_set]) (by rw [gw _ (by omega),if_neg (by omega),List.getElem?_set_self (by omega)]) farw hA1.bd
  exact ⟨rfl,hc,p2,p3,p4⟩
theorem K1.alloct {R R' : List Rw} {ws ws' : List Int} {kind n a e : Int} (hA : AOk R ws) (hk : K1 R ws) (h : Alloct R ws kind n a e R' ws') : K1 R' ws' := by
 rcases alloct_gen9 hA h with ⟨_,_,rfl,rfl⟩ | ⟨_,hc,h1,h2,h3⟩
 ·exact hk
 ·intro b k l hb
  rcases h3 b hb.obj6 with rfl | ho
  ·obtain ⟨rfl,_⟩ := h1.det9 hb; omega
  ·obtain ⟨k',l',hk'⟩ := Kept.of hA ho
   obtain ⟨rfl,_⟩ := (h2 b k' l' hk').1.det9 hb
   exact hk b k' l' hk'
theorem HM.alloct {R R' : List Rw} {ws ws' C C' G : List Int} {N W : Int} {L L' D D' Q Q' : List PV} {z : ByteArray} {kind n a e : Int} (h : HM R ws C G N W L D Q z) (hs : Alloct R ws kind n a e R' ws') (hL : L' = rpv R') (hD : D' = ipv ws') (hC : C'.length = C.length) (hQ : Q' = ipv C') : HM R' ws' C' G N W L' D' Q' z := by
 obtain ⟨h1,h2⟩ := h.a.alloct hs
 exact ⟨h1,h.k.alloct h.a hs,by rw [h2]; exact h.n,by rw [h2]; exact h.r,h.w,hL,hD,hQ,by rw [hC]; exact h.c,h.z,h.g,h.g8⟩
def allocC (ph a e : Int) (C : List Int) : List Int := if e = 0 then C.set a.toNat (if ph = 0 then 0 else 2) else C
theorem allocC_length (ph a e : Int) (C : List Int) : (allocC ph a e C).length = C.length := by
 unfold allocC; split
 ·rw [List.length_set]
 ·rfl
theorem alloc9_lx (R : List Rw) (ws C G : List Int) (N W ph sp cy : Int) (L D Q : List PV) (z : ByteArray) (ov : Bool) (h : HM R ws C G N W L D Q z) (kind m : Int) : CallF (fun _ => Tryz.prog) 140 [.ptr 0 (.lit 0),i6 kind,i6 m] [hpA 0 1 5 6 3 W ph sp cy,hpB 1 2 4 3 W,hpC 2 3 270 2 N,hpP 3 L,hpP 4 D,hpF 5 z ov,hpP 6 Q] 7 (fun r h n => ∃ (a e : Int) (R' : List Rw) (ws' C' : List Int) (L' D' Q' : List PV),r = .tup [i6 a,i6 e] ∧ h = [hpA 0 1 5 6 3 W ph sp cy,hpB 1 2 4 3 W,hpC 2 3 270 2 N,hpP 3 L',hpP 4 D',hpF 5 z ov,hpP 6 Q'] ∧ n = 7 ∧ HM R' ws' C' G N W L' D' Q' z ∧ Alloct R ws kind m a e R' ws' ∧ C' = allocC ph a e C) := by
 have hCl := h.c; have hWn := h.w; have hNr := h.n; have hRr := h.r
 have hQl : Q.length = C.length := by rw [h.q,ipv_length]
 refine callF_of_body tok Tryz.func140 (by kernel_rfl) rfl rfl rfl ?_; conv => cbv
 refine cfr (arena_lx R ws C G N W ph sp cy L D Q z ov) [(0,0),(1,1),(2,2),(3,3),(4,4),(5,5),(6,6)] (fun r h' n' ⟨e1,e2,e3⟩ => ?_)
 subst e1 e2 e3
 conv => cbv
 refine cfr (allocA_lx kind m R ws N W L D h.l h.d h.n h.r h.a h.w) [(0,1),(1,2),(2,3),(3,4)] (fun r h' n' hrr => ?_)
 obtain ⟨a,e,R',ws',L',D',e1,e2,e3,hL',hD',hT⟩ := hrr
 subst e1 e2 e3
 conv => cbv
 have hgen := alloct_gen9 h.a hT
 refine Br.mk (fun g => ?_) (fun g => ?_)
 ·have g : e ≠ 0 := g
  have ha0 : a = 0 := by
              rcases hgen with h | h; · exact h.2.1
              ·exact absurd h.1 g
  conv => cbv
  refine RetF.mk [i6 a,i6 e] [hpA 0 1 5 6 3 W ph sp cy,hpB 1 2 4 3 W,hpC 2 3 270 2 N,hpP 3 L',hpP 4 D',hpF 5 z ov,hpP 6 Q] 7 (Re.at [(0,0),(1,1),(2,2),(3,3),(4,4),(5,5),(6,6)] []) rfl ⟨a,e,R',ws',C,L',D',Q,rfl,rfl,rfl,h.alloct hT hL' hD' rfl h.q,hT,by unfold allocC; rw [if_neg g]⟩
 ·have g : ¬ e ≠ 0 := g
  have g : e = 0 := by omega
  have hA1 := (h.a.alloct hT).1
  have hlR := (h.a.alloct hT).2
  have hb : 0 ≤ a ∧ a < W := by
   rcases hgen with h | h
   ·exact absurd g h.1
   ·have h1 := (h.2.2.1).bounds hA1
    omega
  obtain ⟨C',hC'⟩ : ∃ C',C' = allocC ph a e C := ⟨_,rfl⟩
  obtain ⟨Q',hQ'⟩ : ∃ Q',Q' = ipv C' := ⟨_,rfl⟩
  have hfin := h.alloct hT hL' hD' (by rw [hC']; exact allocC_length _ _ _ _) hQ'
  conv => cbv
  refine Need.mk ⟨by show 0 ≤ a; omega,by show a < W; omega⟩ ?_
  conv => cbv
  refine Need.mk (by show a + 1 ≤ (Q.length : Int); omega) ?_
  conv => cbv
  refine Upd.mk fun Q2 hQ2 => ?_
  have hQ2 : Q2 = Q.set a.toNat (.int .i64 (.lit 0)) := hQ2
  conv => cbv
  refine Br.mk (fun gp => ?_) (fun gp => ?_)
  ·have gp : ph ≠ 0 := gp
   conv => cbv
   refine Need.mk ⟨by show 0 ≤ a; omega,by show a < W; omega⟩ ?_
   conv => cbv
   refine Need.mk (by show a + 1 ≤ (Q2.length : Int); rw [hQ2,List.length_set]; omega) ?_
   conv => cbv
   refine Upd.mk fun Q3 hQ3 => ?_
   have hle : pvles Q3 Q' := by
    have hQ3 : Q3 = Q2.set a.toNat (.int .i64 (.lit 2)) := hQ3
    rw [hQ3,hQ2,hQ',hC',allocC,if_pos g,if_neg gp,h.q,← ipv_set,List.set_set]
    exact pvles_set _ _ _ _ _ (pvles_refl _) (by simp [pvle,I.val])
   unfold pvles at hle
   clear hQ3 hQ2
   conv => cbv
   refine RetF.mk [i6 a,i6 e] [hpA 0 1 5 6 3 W ph sp cy,hpB 1 2 4 3 W,hpC 2 3 270 2 N,hpP 3 L',hpP 4 D',hpF 5 z ov,hpP 6 Q'] 7 (Re.at [(0,0),(1,1),(2,2),(3,3),(4,4),(5,5),(6,6)] []) rfl ⟨a,e,R',ws',C',L',D',Q',rfl,rfl,rfl,hfin,hT,hC'⟩
  ·have gp : ¬ ph ≠ 0 := gp
   have gp : ph = 0 := by omega
   have hle : pvles Q2 Q' := by
    rw [hQ2,hQ',hC',allocC,if_pos g,if_pos gp,h.q,← ipv_set]
    exact pvles_set _ _ _ _ _ (pvles_refl _) (by simp [pvle,I.val])
   unfold pvles at hle
   clear hQ2
   conv => cbv
   refine RetF.mk [i6 a,i6 e] [hpA 0 1 5 6 3 W ph sp cy,hpB 1 2 4 3 W,hpC 2 3 270 2 N,hpP 3 L',hpP 4 D',hpF 5 z ov,hpP 6 Q'] 7 (Re.at [(0,0),(1,1),(2,2),(3,3),(4,4),(5,5),(6,6)] []) rfl ⟨a,e,R',ws',C',L',D',Q',rfl,rfl,rfl,hfin,hT,hC'⟩
theorem alloct_ok {R R' : List Rw} {ws ws' : List Int} {kind n a e : Int} (hA : AOk R ws) (h : Alloct R ws kind n a e R' ws') (he : e = 0) :
  Kept R' ws' a kind n ∧ ¬ IsObj R a ∧ objCount R' = objCount R + 1 ∧ (∀ i,0 ≤ i → i < n → ws'[(a + 1 + i).toNat]? = some 0) ∧ (∀ b k l,Kept R ws b k l → Kept R' ws' b k l) ∧ (∀ b,IsObj R' b → b = a ∨ IsObj R b) ∧ (∀ b k l i,Kept R ws b k l → 0 ≤ i → i < l → ws'[(b + 1 + i).toNat]? = ws[(b + 1 + i).toNat]?) := by
 cases h with
 | arg h => exact absurd he (by decide)
 | room i s R' h ha => exact absurd he (by decide)
 | ok i s _ R' h ha hi hat =>
  have hA' := (AOk.alloct hA (Alloct.ok i s a R' h ha hi hat)).1
  obtain ⟨w,hw⟩ : ∃ w,w = wordsOf (ofN n) := ⟨_,rfl⟩
  obtain ⟨h1,h2,h3,h4,h5⟩ := alloc_objs hA.rows ha a w (by rw [hat]) hw
  have hobj : ObjAt R' a w := (h5 _ _).2 (.inr ⟨rfl,rfl⟩)
  obtain ⟨f1,f2,f3,_⟩ := hobj.facts h1
  have hnw : n < w := by rw [hw]; exact (ofN_words ⟨h.1,h.2.1⟩).1
  have hlen := hA.len
  have hget : ∀ j,j < ws.length → (zer (ws.set a.toNat (kind + 16 * n)) (a.toNat + 1) n.toNat)[j]? = if a.toNat + 1 ≤ j ∧ j < a.toNat + 1 + n.toNat then some 0 else (ws.set a.toNat (kind + 16 * n))[j]? := fun j hj => zer_get _ _ _ _ (by rw [List.length_set]; exact hj)
  have hfar : ∀ j,j < ws.length → (j : Int) < a ∨ a + w ≤ j → (zer (ws.set a.toNat (kind + 16 * n)) (a.toNat + 1) n.toNat)[j]? = ws[j]? := by
   intro j hj hfar
   rw [hget j hj,if_neg (by omega),List.getElem?_set_ne (by omega)]
  refine ⟨?_,h4,h3,?_,?_,?_,?_⟩
  ·refine .mk kind n w hobj ?_ (by omega) (by omega) h.1 hnw
   rw [hget _ (by omega),if_neg (by omega),List.getElem?_set_self (by omega)]
  ·intro j hj0 hj1
   rw [hget _ (by omega),if_pos (by omega)]
  ·rintro b k l ⟨v,hb,hx,g1,g2,g3,g4⟩
   have hb' := (h5 b v).2 (.inl hb)
   have hne : b ≠ a := fun e => h4 (isObj_iff.2 ⟨v,e ▸ hb⟩)
   obtain ⟨q1,q2,q3,_⟩ := hb'.facts h1
   refine .mk k l v hb' ?_ g1 g2 g3 g4
   rw [hfar _ (by omega) (by rcases hobj.apart h1 hb' with ⟨h,_⟩ | h | h <;> omega)]
   exact hx
  ·intro b hb
   obtain ⟨v,hb⟩ := isObj_iff.1 hb
   rcases (h5 b v).1 hb with hb | ⟨hb,_⟩
   ·exact .inr (isObj_iff.2 ⟨v,hb⟩)
   ·exact .inl hb
  ·rintro b k l j ⟨v,hb,hx,g1,g2,g3,g4⟩ hj0 hj1
   have hb' := (h5 b v).2 (.inl hb)
   have hne : b ≠ a := fun e => h4 (isObj_iff.2 ⟨v,e ▸ hb⟩)
   obtain ⟨q1,q2,q3,_⟩ := hb'.facts h1
   exact hfar _ (by omega) (by rcases hobj.apart h1 hb' with ⟨h,_⟩ | h | h <;> omega)
theorem alloct_err {R R' : List Rw} {ws ws' : List Int} {kind n a e : Int} (hA : AOk R ws) (h : Alloct R ws kind n a e R' ws') (hroom : objCount R < R.length) : e = if 0 ≤ n ∧ n ≤ 31 ∧ 1 ≤ kind ∧ kind ≤ 6 then 0 else 1 := by
 cases h with
 | arg h => rw [if_neg h]
 | room i s R' h ha => obtain ⟨_,h2⟩ := full_count hA.rows (ofN_slots n) ha; omega
 | ok i s _ R' h ha hi hat => rw [if_pos h]
theorem zer_all (ws : List Int) : zer ws 0 ws.length = List.replicate ws.length 0 := by
 apply List.ext_getElem?
 intro i
 by_cases h : i < ws.length
 ·rw [zer_get _ _ _ _ h,if_pos (by omega),List.getElem?_replicate,if_pos h]
 ·rw [List.getElem?_eq_none (by rw [zer_length]; omega),List.getElem?_eq_none (by rw [List.length_replicate]; omega)]
theorem HM.new {N W : Int} (h2 : 2 ≤ N) (h8 : N ≤ 128) (hW : W = 32 * N) {L D Q : List PV} {z : ByteArray} (hL : L = rpv (List.replicate N.toNat (0,[]))) (hD : D = ipv (List.replicate W.toNat 0)) (hQ : Q = ipv (List.replicate W.toNat 0)) (hz : z = ⟨(enc []).toArray⟩) :
  HM (List.replicate N.toNat (0,[])) (List.replicate W.toNat 0) (List.replicate W.toNat 0) [] N W L D Q z :=
 ⟨by rw [show W.toNat = 32 * N.toNat by omega]; exact AOk.new _,fun a k l hk => absurd hk.obj6 (new_none _ _),by rw [List.length_replicate]; omega,by rw [List.length_replicate]; omega,hW,hL,hD,hQ,by rw [List.length_replicate]; omega,hz,fun x hx => (by cases hx),Nat.zero_le _⟩
theorem newH_lx (N W : Int) (h2 : 2 ≤ N) (h8 : N ≤ 128) (hW : W = 32 * N) (L D Q : List PV) (z : ByteArray) (hL : L = rpv (List.replicate N.toNat (0,[]))) (hD : D = ipv (List.replicate W.toNat 0)) (hQ : Q = ipv (List.replicate W.toNat 0)) (hz : z = ⟨(enc []).toArray⟩) : CallF (fun _ => Tryz.prog) 51 [i6 N] [] 0 (fun r h n => r = .tup [.ptr 0 (.lit 0),.p (.int .i64 (.lit 0))] ∧ h = [hpA 0 1 5 6 3 W 0 0 0,hpB 1 2 4 3 W,hpC 2 3 270 2 N,hpP 3 L,hpP 4 D,hpF 5 z false,hpP 6 Q] ∧ n = 7) := by
 refine callF_of_body tok Tryz.func51 (by kernel_rfl) rfl rfl rfl ?_; conv => cbv
 refine callF_frame (newA_lx N W h2 h8 hW L D hL hD) [] rfl trivial rfl rfl (fun r h' n' ⟨e1,e2,e3⟩ => ?_)
 subst e1 e2 e3
 conv => cbv
 refine callF_frame greyNew_lx [] rfl trivial rfl rfl (fun r h' n' hrr => ?_)
 obtain ⟨z1,e1,e2,e3,hz1⟩ := hrr
 subst e1 e2 e3
 obtain rfl : z1 = z := by rw [hz1,hz]
 have hA0 : AOk (List.replicate N.toNat ((0,[]) : Rw)) (List.replicate W.toNat 0) := by rw [show W.toNat = 32 * N.toNat by omega]; exact AOk.new _
 conv => cbv
 refine cfr (wordsA_lx (List.replicate N.toNat ((0,[]) : Rw)) (List.replicate W.toNat 0) N W L D hL hD (by rw [List.length_replicate]; omega) (by rw [List.length_replicate]; omega) hA0 hW) [(0,0),(1,1),(2,2),(3,3)] (fun r h' n' ⟨e1,e2,e3⟩ => ?_)
 subst e1 e2 e3
 conv => cbv
 refine Need.mk ⟨by show 0 ≤ W; omega,Int.le_refl _,by show W * 8 ≤ 140737488355328; omega,by show W ≤ 9223372036854775807; omega⟩ ?_
 conv => cbv
 refine Upd.mk fun Q0 hQ0 => ?_
 have hle : pvles Q0 Q := by
  have hQ0 : Q0 = repsP [.int .i64 (.lit 0)] W.toNat := hQ0
  rw [hQ0,hQ]; exact zero_ipv _
 unfold pvles at hle
 clear hQ0
 conv => cbv
 refine RetF.mk [.ptr 0 (.lit 0),.p (.int .i64 (.lit 0))] [hpA 0 1 5 6 3 W 0 0 0,hpB 1 2 4 3 W,hpC 2 3 270 2 N,hpP 3 L,hpP 4 D,hpF 5 z1 false,hpP 6 Q] 7 (Re.at [(6,0),(0,1),(1,2),(2,3),(3,4),(4,5),(5,6)] []) rfl ⟨rfl,rfl,rfl⟩
def begS (R : List Rw) (W : Int) (A : List Int) : List Int × List Int × Bool := A.foldl (fun s a => shade R 1 a s) (List.replicate W.toNat 0,[],false)
theorem begin_lx (R : List Rw) (ws C G : List Int) (N W ph sp cy : Int) (L D Q : List PV) (z : ByteArray) (ov : Bool) (h : HM R ws C G N W L D Q z) (o : Unit → Obj) (ho : IsPow o) (A : List Int) (k : Int) (rs : List PV) (hrs : rs = ipv A) (hk : k = A.length) (hA : (A.length : Int) < 1000000) (hph : ph = 0) : CallF (fun _ => Tryz.prog) 30 [.ptr 0 (.lit 0),.p (.vsl (.sym k) true rs)] [hpA 0 1 5 6 3 W ph sp cy,hpB 1 2 4 3 W,hpC 2 3 270 2 N,hpP 3 L,hpP 4 D,hpF 5 z ov,hpP 6 Q,(7,.fix 0 o)] 8 (fun r h n => ∃ (C' G' : List Int) (ov' : Bool) (Q' : List PV) (z' : ByteArray),r = .p (.int .i64 (.lit 0)) ∧ h = [hpA 0 1 8 6 3 W 1 sp cy,hpB 1 2 4 3 W,hpC 2 3 270 2 N,hpP 3 L,hpP 4 D,hpF 8 z' ov',hpP 6 Q',(7,.fix 0 o)] ∧ n = 9 ∧ HM R ws C' G' N W L D Q' z' ∧ (C',G',ov') = begS R W A) := by
 have hCl := h.c; have hWn := h.w; have hNr := h.n; have hRr := h.r
 have hQl : Q.length = C.length := by rw [h.q,ipv_length]
 refine callF_of_body tok Tryz.func30 (by kernel_rfl) rfl rfl rfl ?_; conv => cbv
 refine cfr (arena_lx R ws C G N W ph sp cy L D Q z ov) [(0,0),(1,1),(2,2),(3,3),(4,4),(5,5),(6,6)] (fun r h' n' ⟨e1,e2,e3⟩ => ?_)
 subst e1 e2 e3
 conv => cbv
 refine Br.mk (fun g => ?_) (fun g => ?_)
 case refine_1 =>
  have g : ph ≠ 0 := g
  exact absurd hph g
 conv => cbv
 refine Need.mk ⟨Int.le_refl _,by show 0 ≤ W; omega,by show 0 + W * 1 ≤ (Q.length : Int); omega⟩ ?_
 conv => cbv
 obtain ⟨Q0,hQ0⟩ : ∃ Q0,Q0 = ipv (List.replicate W.toNat 0) := ⟨_,rfl⟩
 refine Upd.mk fun Q2 hQ2 => ?_
 have hle : pvles Q2 Q0 := by
  have hQ2 : Q2 = updL Q 0 (repsP [.int .i64 (.lit 0)] W.toNat) := hQ2
  rw [hQ2,hQ0,h.q,show W.toNat = C.length by omega,← zer_all]
  exact upd_zer _ _ _ _ (pvles_refl _)
 unfold pvles at hle
 clear hQ2
 conv => cbv
 refine callF_frame greyNew_lx [] rfl trivial rfl rfl (fun r h' n' hrr => ?_)
 obtain ⟨z1,e1,e2,e3,hz1⟩ := hrr
 subst e1 e2 e3
 have hM0 : HM R ws (List.replicate W.toNat 0) [] N W L D Q0 z1 := ⟨h.a,h.k,h.n,h.r,h.w,h.l,h.d,hQ0,by rw [List.length_replicate]; omega,hz1,fun x hx => (by cases hx),Nat.zero_le _⟩
 conv => cbv
 refine LoopF.mk (fun kk s => ∃ (i : Int) (C' G' : List Int) (ov' : Bool) (Q' : List PV) (z' : ByteArray),s = ⟨.ptr 0 (.lit 0) :: (undefs 25 ++ .p (.vsl (.sym k) true rs) :: .p (.int .i64 (.sym k)) :: .p (.int .i64 (.sym i)) :: undefs 7),[hpA 0 1 8 6 3 W 1 sp cy,hpB 1 2 4 3 W,hpC 2 3 270 2 N,hpP 3 L,hpP 4 D,hpF 8 z' ov',hpP 6 Q',(7,.fix 0 o)],9⟩ ∧ 0 ≤ i ∧ i ≤ k ∧ HM R ws C' G' N W L D Q' z' ∧ (C',G',ov') = begS R W (A.take i.toNat) ∧ kk = (k - i).toNat) k.toNat _
  (Re.at [(0,0),(1,1),(2,2),(3,3),(4,4),(6,6),(7,7),(8,8)] []) ⟨0,_,_,_,Q0,z1,rfl,by omega,by omega,hM0,rfl,by omega⟩ ?_
 rintro kk s ⟨i,C',G',ov',Q',z',rfl,hi0,hi1,h2,hS,hk2⟩
 conv => cbv
 refine Br.mk (fun gi => ?_) (fun gi => ?_)
 ·have gi : i < k := gi
  obtain ⟨k',rfl⟩ : ∃ k',kk = k' + 1 := ⟨kk - 1,by omega⟩
  obtain ⟨a,ha⟩ : ∃ a,A[i.toNat]? = some a := ⟨_,List.getElem?_eq_getElem (by omega)⟩
  have hc : rs[i.toNat]? = some (.int .i64 (.sym a)) := by rw [hrs]; exact ipv_get ha
  conv => cbv
  refine Need.mk ⟨hi0,gi⟩ ?_
  conv => cbv
  refine Cell.at i _ hc (by simp [I.val]) rfl ?_
  conv => cbv
  refine cfr (shade_lx R ws C' G' N W 1 sp cy L D Q' z' ov' h2 o ho a) [(0,0),(1,1),(2,2),(3,3),(4,4),(5,8),(6,6),(7,7)] (fun r h' n' hrr => ?_)
  obtain ⟨C2,G2,ov2,Q2,z2,e1,e2,e3,h3,hS2⟩ := hrr
  subst e1 e2 e3
  have hS3 : (C2,G2,ov2) = begS R W (A.take (i.toNat + 1)) := by
   rw [hS2,hS]
   unfold begS
   rw [List.take_add_one,ha,Option.toList_some,List.foldl_append]; rfl
  conv => cbv
  refine Fit.mk (by show (-9223372036854775808 : Int) ≤ i + 1; omega) (by show i + 1 ≤ 9223372036854775807; omega) fun i2 hi2 => ?_
  have hi2 : i2 = i + 1 := hi2
  rw [show i.toNat + 1 = i2.toNat by omega] at hS3
  conv => cbv
  refine Again.mk k' _ (Nat.lt_succ_self _) (Re.at [(0,0),(1,1),(2,2),(3,3),(4,4),(6,6),(7,7),(8,8)] []) ⟨i2,C2,G2,ov2,Q2,z2,rfl,by omega,by omega,h3,hS3,by omega⟩
 ·have gi : ¬ i < k := gi
  rw [List.take_of_length_le (by omega)] at hS
  conv => cbv
  refine RetF.mk [.p (.int .i64 (.lit 0))] [hpA 0 1 8 6 3 W 1 sp cy,hpB 1 2 4 3 W,hpC 2 3 270 2 N,hpP 3 L,hpP 4 D,hpF 8 z' ov',hpP 6 Q',(7,.fix 0 o)] 9 (Re.at [(0,0),(1,1),(2,2),(3,3),(4,4),(6,6),(7,7),(8,8)] []) rfl ⟨C',G',ov',Q',z',rfl,rfl,rfl,h2,hS⟩
def scanS (R : List Rw) (ph a : Int) (X : List Int) (s : List Int × List Int × Bool) : List Int × List Int × Bool := ((X.foldl (fun s w => shadeW R ph w s) s).1.set a.toNat 2,(X.foldl (fun s w => shadeW R ph w s) s).2)
theorem scan_lx (R : List Rw) (ws C G : List Int) (N W ph sp cy : Int) (L D Q : List PV) (z : ByteArray) (ov : Bool) (h : HM R ws C G N W L D Q z) (o : Unit → Obj) (ho : IsPow o) (a : Int) (ha : 0 ≤ a ∧ a < W) : CallF (fun _ => Tryz.prog) 180 [.ptr 0 (.lit 0),i6 a] [hpA 0 1 5 6 3 W ph sp cy,hpB 1 2 4 3 W,hpC 2 3 270 2 N,hpP 3 L,hpP 4 D,hpF 5 z ov,hpP 6 Q,(7,.fix 0 o)] 8 (fun r h n => ∃ (X C' G' : List Int) (ov' : Bool) (Q' : List PV) (z' : ByteArray),r = .tup [] ∧ h = [hpA 0 1 5 6 3 W ph sp cy,hpB 1 2 4 3 W,hpC 2 3 270 2 N,hpP 3 L,hpP 4 D,hpF 5 z' ov',hpP 6 Q',(7,.fix 0 o)] ∧ n = 8 ∧ HM R ws C' G' N W L D Q' z' ∧ Wrds R ws a X ∧ (C',G',ov') = scanS R ph a X (C,G,ov)) := by
 refine callF_of_body tok Tryz.func180 (by kernel_rfl) rfl rfl rfl ?_; conv => cbv
 refine cfr (wordsH_lx R ws C G N W ph sp cy L D Q z ov h a) [(0,0),(1,1),(2,2),(3,3),(4,4),(5,5),(6,6)] (fun r h' n' hrr => ?_)
 obtain ⟨X,m,O,e1,e2,e3,hO,hm,hX⟩ := hrr
 subst e1 e2 e3
 conv => cbv
 have hXb := hX.bd h.a
 have hX31 : X.length ≤ 31 := by
  have hle := hX.1
  generalize hxl : (X.length : Int) = xl at hle
  cases hle with
  | no _ => omega
  | is k l hk => have := hk.bounds h.a; omega
 refine LoopF.mk (fun k s => ∃ (i : Int) (C' G' : List Int) (ov' : Bool) (Q' : List PV) (z' : ByteArray),s = ⟨.ptr 0 (.lit 0) :: .p (.int .i64 (.sym a)) :: (undefs 6 ++ .sl 8 3 1 (.lit 0) (.sym m) :: .p (.int .i64 (.sym m)) :: .p (.int .i64 (.sym i)) :: undefs 13),[hpA 0 1 5 6 3 W ph sp cy,hpB 1 2 4 3 W,hpC 2 3 270 2 N,hpP 3 L,hpP 4 D,hpF 5 z' ov',hpP 6 Q',(7,.fix 0 o),hpP 8 O],9⟩ ∧ 0 ≤ i ∧ i ≤ m ∧ HM R ws C' G' N W L D Q' z' ∧ (C',G',ov') = (X.take i.toNat).foldl (fun s w => shadeW R ph w s) (C,G,ov) ∧ k = (m - i).toNat) m.toNat _
  (Re.at [(0,0),(1,1),(2,2),(3,3),(4,4),(5,5),(6,6),(7,7),(8,8)] []) ⟨0,C,G,ov,Q,z,rfl,by omega,by omega,h,rfl,by omega⟩ ?_
 rintro k s ⟨i,C',G',ov',Q',z',rfl,hi0,hi1,h2,hS,hk⟩
 conv => cbv
 refine Br.mk (fun gi => ?_) (fun gi => ?_)
 ·have gi : i < m := gi
  obtain ⟨k',rfl⟩ : ∃ k',k = k' + 1 := ⟨k - 1,by omega⟩
  obtain ⟨w,hw⟩ : ∃ w,X[i.toNat]? = some w := ⟨_,List.getElem?_eq_getElem (by omega)⟩
  have hc : O[i.toNat]? = some (.int .i64 (.sym w)) := by rw [hO]; exact ipv_get hw
  conv => cbv
  refine Need.mk ⟨hi0,gi⟩ ?_
  conv => cbv
  refine Cell.at i _ hc (by simp [I.val]) rfl ?_
  conv => cbv
  refine cfr (shadeWord_lx R ws C' G' N W ph sp cy L D Q' z' ov' h2 o ho w (hXb w (List.mem_of_getElem? hw))) [(0,0),(1,1),(2,2),(3,3),(4,4),(5,5),(6,6),(7,7)] (fun r h' n' hrr => ?_)
  obtain ⟨C2,G2,ov2,Q2,z2,e1,e2,e3,h3,hS2⟩ := hrr
  subst e1 e2 e3
  have hS3 : (C2,G2,ov2) = (X.take (i.toNat + 1)).foldl (fun s w => shadeW R ph w s) (C,G,ov) := by
   rw [List.take_add_one,hw,Option.toList_some,List.foldl_append,← hS,hS2]; rfl
  conv => cbv
  refine Fit.mk (by show (-9223372036854775808 : Int) ≤ i + 1; omega) (by show i + 1 ≤ 9223372036854775807; omega) fun i2 hi2 => ?_
  have hi2 : i2 = i + 1 := hi2
  rw [show i.toNat + 1 = i2.toNat by omega] at hS3
  conv => cbv
  refine Again.mk k' _ (Nat.lt_succ_self _) (Re.at [(0,0),(1,1),(2,2),(3,3),(4,4),(5,5),(6,6),(7,7),(8,8)] []) ⟨i2,C2,G2,ov2,Q2,z2,rfl,by omega,by omega,h3,hS3,by omega⟩
 ·have gi : ¬ i < m := gi
  rw [List.take_of_length_le (by omega)] at hS
  have hCl := h2.c; have hWn := h.w; have hNr := h.n; have hRr := h.r
  have hQl : Q'.length = C'.length := by rw [h2.q,ipv_length]
  obtain ⟨Q3,hQ3⟩ : ∃ Q3,Q3 = ipv (C'.set a.toNat 2) := ⟨_,rfl⟩
  have hfin : HM R ws (C'.set a.toNat 2) G' N W L D Q3 z' := ⟨h2.a,h2.k,h2.n,h2.r,h2.w,h2.l,h2.d,hQ3,by rw [List.length_set]; exact h2.c,h2.z,h2.g,h2.g8⟩
  conv => cbv
  refine Need.mk ⟨by show 0 ≤ a; omega,by show a < W; omega⟩ ?_
  conv => cbv
  refine Need.mk (by show a + 1 ≤ (Q'.length : Int); omega) ?_
  conv => cbv
  refine Upd.mk fun Q2 hQ2 => ?_
  have hle : pvles Q2 Q3 := by
   have hQ2 : Q2 = Q'.set a.toNat (.int .i64 (.lit 2)) := hQ2
   rw [hQ2,hQ3,h2.q,← ipv_set]
   exact pvles_set _ _ _ _ _ (pvles_refl _) (by simp [pvle,I.val])
  unfold pvles at hle
  clear hQ2
  conv => cbv
  refine RetF.mk [] [hpA 0 1 5 6 3 W ph sp cy,hpB 1 2 4 3 W,hpC 2 3 270 2 N,hpP 3 L,hpP 4 D,hpF 5 z' ov',hpP 6 Q3,(7,.fix 0 o)] 8 (Re.at [(0,0),(1,1),(2,2),(3,3),(4,4),(5,5),(6,6),(7,7)] []) rfl ⟨X,_,G',ov',Q3,z',rfl,rfl,rfl,hfin,hX,by unfold scanS; rw [← hS]⟩
theorem HM.pop {R : List Rw} {ws C A : List Int} {v : Int} {N W : Int} {L D Q : List PV} {z z' : ByteArray} (h : HM R ws C (A ++ [v]) N W L D Q z) (hz : z' = ⟨(enc A).toArray⟩) : HM R ws C A N W L D Q z' ∧ 0 ≤ v ∧ v < W :=
 ⟨⟨h.a,h.k,h.n,h.r,h.w,h.l,h.d,h.q,h.c,hz,fun x hx => h.g x (List.mem_append_left _ hx),by have := h.g8; rw [List.length_append] at this; omega⟩,h.g v (by simp)⟩
theorem nextGreyPop_lx (R : List Rw) (ws C G : List Int) (N W ph sp cy : Int) (L D Q : List PV) (z : ByteArray) (ov : Bool) (h : HM R ws C G N W L D Q z) (A : List Int) (v : Int) (hG : G = A ++ [v]) : CallF (fun _ => Tryz.prog) 179 [.ptr 0 (.lit 0)] [hpA 0 1 5 6 3 W ph sp cy,hpB 1 2 4 3 W,hpC 2 3 270 2 N,hpP 3 L,hpP 4 D,hpF 5 z ov,hpP 6 Q] 7 (fun r h n => ∃ (z' : ByteArray),r = .tup [i6 v,.p (.bool true)] ∧ h = [hpA 0 1 5 6 3 W ph sp cy,hpB 1 2 4 3 W,hpC 2 3 270 2 N,hpP 3 L,hpP 4 D,hpF 5 z' ov,hpP 6 Q] ∧ n = 7 ∧ HM R ws C A N W L D Q z') := by
 refine callF_of_body tok Tryz.func179 (by kernel_rfl) rfl rfl rfl ?_; conv => cbv
 refine cfr (greyPop_lx G z ov h.z h.g64 h.g8) [(0,5)] (fun r h' n' hrr => ?_)
 obtain ⟨v2,b,z',A',e1,e2,e3,hz',h4⟩ := hrr
 subst e1 e2 e3
 obtain ⟨hGA,rfl⟩ : G = A' ++ [v2] ∧ b = true := by
  rcases h4 with ⟨e,_⟩ | h4
  ·rw [e] at hG; exact absurd hG.symm (by simp)
  ·exact h4
 obtain ⟨rfl,hv2⟩ := List.append_inj' (hG.symm.trans hGA) rfl
 obtain rfl : v = v2 := by simpa using hv2
 conv => cbv
 refine RetF.mk [i6 v,.p (.bool true)] [hpA 0 1 5 6 3 W ph sp cy,hpB 1 2 4 3 W,hpC 2 3 270 2 N,hpP 3 L,hpP 4 D,hpF 5 z' ov,hpP 6 Q] 7 (Re.at [(0,0),(1,1),(2,2),(3,3),(4,4),(5,5),(6,6)] []) rfl ⟨z',rfl,rfl,rfl,(HM.pop (hG ▸ h) hz').1⟩
inductive NextG (R : List Rw) (C G : List Int) (ov : Bool) : Int → Bool → List Int → Bool → Prop
 | pop (A : List Int) (v : Int) (h : G = A ++ [v]) : NextG R C G ov v true A ov
 | none (h : G = []) (ho : ov = false) : NextG R C G ov 0 false [] false
 | found (i : Nat) (a : Int) (h : G = []) (ho : ov = true) (ha : (objs R)[i]? = some a) (hc : C[a.toNat]? = some 1) (hn : ∀ j b,j < i → (objs R)[j]? = some b → C[b.toNat]? ≠ some 1) : NextG R C G ov a true [] true
 | settle (h : G = []) (ho : ov = true) (hn : ∀ (j : Nat) b,(objs R)[j]? = some b → C[b.toNat]? ≠ some 1) : NextG R C G ov 0 false [] false
theorem NextG.det {R : List Rw} {C G G1 G2 : List Int} {ov o1 o2 b1 b2 : Bool} {v1 v2 : Int} (h1 : NextG R C G ov v1 b1 G1 o1) (h2 : NextG R C G ov v2 b2 G2 o2) : v1 = v2 ∧ b1 = b2 ∧ G1 = G2 ∧ o1 = o2 := by
 cases h1 with
 | pop A v h => cases h2 with
  | pop A' v' h' =>
   obtain ⟨rfl,e⟩ := List.append_inj' (h.symm.trans h') rfl
   obtain rfl : v1 = v2 := by simpa using e
   exact ⟨rfl,rfl,rfl,rfl⟩
  | none h' _ => rw [h'] at h; exact absurd h.symm (by simp)
  | found i a h' _ _ _ _ => rw [h'] at h; exact absurd h.symm (by simp)
  | settle h' _ _ => rw [h'] at h; exact absurd h.symm (by simp)
 | none h ho => cases h2 with
  | pop A' v' h' => rw [h] at h'; exact absurd h'.symm (by simp)
  | none _ _ => exact ⟨rfl,rfl,rfl,rfl⟩
  | found i a h' ho' _ _ _ => rw [ho] at ho'; cases ho'
  | settle h' ho' _ => rw [ho] at ho'; cases ho'
 | found i a h ho ha hc hn => cases h2 with
  | pop A' v' h' => rw [h] at h'; exact absurd h'.symm (by simp)
  | none _ ho' => rw [ho] at ho'; cases ho'
  | found i' a' h' ho' ha' hc' hn' =>
   obtain rfl : i = i' := by
    rcases Nat.lt_trichotomy i i' with q | q | q
    ·exact absurd hc (hn' _ _ q ha)
    ·exact q
    ·exact absurd hc' (hn _ _ q ha')
   rw [ha] at ha'
   obtain rfl := Option.some.inj ha'
   exact ⟨rfl,rfl,rfl,rfl⟩
  | settle _ _ hn' => exact absurd hc (hn' _ _ ha)
 | settle h ho hn => cases h2 with
  | pop A' v' h' => rw [h] at h'; exact absurd h'.symm (by simp)
  | none _ ho' => rw [ho] at ho'; cases ho'
  | found i' a' h' ho' ha' hc' hn' => exact absurd hc' (hn _ _ ha')
  | settle _ _ _ => exact ⟨rfl,rfl,rfl,rfl⟩
def Due (R : List Rw) (ws C : List Int) (a : Int) : Prop := (∃ l,Kept R ws a 5 l) ∧ C[a.toNat]? = some 0 ∧ ∃ x,Loaded R ws a 1 x 0 ∧ x ≠ 0
inductive NextF (R : List Rw) (ws C : List Int) : Int → Bool → Prop
 | found (i : Nat) (a : Int) (ha : (objs R)[i]? = some a) (hd : Due R ws C a) (hn : ∀ j b,j < i → (objs R)[j]? = some b → ¬ Due R ws C b) : NextF R ws C a true
 | none (hn : ∀ (j : Nat) b,(objs R)[j]? = some b → ¬ Due R ws C b) : NextF R ws C 0 false
theorem NextF.det {R : List Rw} {ws C : List Int} {b1 b2 : Bool} {v1 v2 : Int} (h1 : NextF R ws C v1 b1) (h2 : NextF R ws C v2 b2) : v1 = v2 ∧ b1 = b2 := by
 cases h1 with
 | found i a ha hd hn => cases h2 with
  | found i' a' ha' hd' hn' =>
   obtain rfl : i = i' := by
    rcases Nat.lt_trichotomy i i' with q | q | q
    ·exact absurd hd (hn' _ _ q ha)
    ·exact q
    ·exact absurd hd' (hn _ _ q ha')
   rw [ha] at ha'
   obtain rfl := Option.some.inj ha'
   exact ⟨rfl,rfl⟩
  | none hn' => exact absurd hd (hn' _ _ ha)
 | none hn => cases h2 with
  | found i' a' ha' hd' hn' => exact absurd hd' (hn _ _ ha')
  | none _ => exact ⟨rfl,rfl⟩
abbrev Gn := Int × Int × List Int × Bool
def gpv : List Gn → List PV
 | [] => []
 | g :: l => .int .i64 (.sym g.1) :: .int .i64 (.sym g.2.1) :: .vsl (.sym (g.2.2.1.length : Int)) true (ipv g.2.2.1) :: .bool g.2.2.2 :: gpv l
theorem gpv_length : ∀ l,(gpv l).length = 4 * l.length
 | [] => rfl
 | g :: l => by simp [gpv,gpv_length l]; omega
theorem gpv_app : ∀ l m,gpv (l ++ m) = gpv l ++ gpv m
 | [],m => rfl
 | g :: l,m => by simp [gpv,gpv_app l m]
inductive Marked (R : List Rw) (ws C G : List Int) (ov : Bool) (sp : Int) : List Gn → Int → Int → List Int → List Int → List Int → Bool → Prop
 | scan (v : Int) (A X C' G' : List Int) (o1 ov' : Bool) (hg : NextG R C G ov v true A o1) (hX : Wrds R ws v X) (hs : (C',G',ov') = scanS R 1 v X (C,A,o1)) : Marked R ws C G ov sp [] 1 sp ws C' G' ov'
 | keep (a : Int) (A X ws' C' G' : List Int) (o1 ov' : Bool) (hg : NextG R C G ov 0 false A o1) (hf : NextF R ws C a true) (hX : Wrds R ws a X) (hst : Stored R ws a 1 0 0 ws') (hs : (C',G',ov') = shade R 1 a (C,A,o1)) : Marked R ws C G ov sp [(5,a,X,true)] 1 sp ws' C' G' ov'
 | sweep (A : List Int) (o1 : Bool) (hg : NextG R C G ov 0 false A o1) (hf : NextF R ws C 0 false) : Marked R ws C G ov sp [] 2 0 ws C A o1
theorem HM.over {R : List Rw} {ws C G : List Int} {N W : Int} {L D Q : List PV} {z z' : ByteArray} {G' : List Int} (h : HM R ws C G N W L D Q z) (hz : z' = ⟨(enc G').toArray⟩) (hG : G = [] ∧ G' = []) : HM R ws C G' N W L D Q z' :=
 ⟨h.a,h.k,h.n,h.r,h.w,h.l,h.d,h.q,h.c,hz,fun x hx => (by rw [hG.2] at hx; cases hx),(by rw [hG.2]; exact Nat.zero_le _)⟩
theorem nextGrey_lx (R : List Rw) (ws C G : List Int) (N W ph sp cy : Int) (L D Q : List PV) (z : ByteArray) (ov : Bool) (h : HM R ws C G N W L D Q z) : CallF (fun _ => Tryz.prog) 179 [.ptr 0 (.lit 0)] [hpA 0 1 5 6 3 W ph sp cy,hpB 1 2 4 3 W,hpC 2 3 270 2 N,hpP 3 L,hpP 4 D,hpF 5 z ov,hpP 6 Q] 7 (fun r h n => ∃ (v : Int) (b : Bool) (G' : List Int) (ov' : Bool) (z' : ByteArray),r = .tup [i6 v,.p (.bool b)] ∧ h = [hpA 0 1 5 6 3 W ph sp cy,hpB 1 2 4 3 W,hpC 2 3 270 2 N,hpP 3 L,hpP 4 D,hpF 5 z' ov',hpP 6 Q] ∧ n = 7 ∧ HM R ws C G' N W L D Q z' ∧ NextG R C G ov v b G' ov') := by
 by_cases hG0 : G = []
 case neg =>
  obtain ⟨A,v,hG⟩ : ∃ A v,G = A ++ [v] := ⟨_,_,(List.dropLast_concat_getLast hG0).symm⟩
  exact (nextGreyPop_lx R ws C G N W ph sp cy L D Q z ov h A v hG).mono fun r h' n' ⟨z',e1,e2,e3,h2⟩ => ⟨v,true,A,ov,z',e1,e2,e3,h2,.pop A v hG⟩
 refine callF_of_body tok Tryz.func179 (by kernel_rfl) rfl rfl rfl ?_; conv => cbv
 refine cfr (greyPop_lx G z ov h.z h.g64 h.g8) [(0,5)] (fun r h' n' hrr => ?_)
 obtain ⟨v2,b,z',A',e1,e2,e3,hz',h4⟩ := hrr
 subst e1 e2 e3
 obtain ⟨rfl,rfl,hA'⟩ : v2 = 0 ∧ b = false ∧ A' = [] := by
  rcases h4 with ⟨_,e1,e2,e3⟩ | ⟨e,_⟩
  ·exact ⟨e1,e2,e3⟩
  ·rw [hG0] at e; exact absurd e (by simp)
 have h1 := h.over hz' ⟨hG0,hA'⟩
 conv => cbv
 refine cfr (greyOver_lx z' ov) [(0,5)] (fun r h' n' ⟨e1,e2,e3⟩ => ?_)
 subst e1 e2 e3
 cases ov with
 | false =>
  conv => cbv
  refine RetF.mk [i6 0,.p (.bool false)] [hpA 0 1 5 6 3 W ph sp cy,hpB 1 2 4 3 W,hpC 2 3 270 2 N,hpP 3 L,hpP 4 D,hpF 5 z' false,hpP 6 Q] 7 (Re.at [(0,0),(1,1),(2,2),(3,3),(4,4),(5,5),(6,6)] []) rfl ⟨0,false,A',false,z',rfl,rfl,rfl,h1,by rw [hA']; exact .none hG0 rfl⟩
 | true =>
  conv => cbv
  obtain ⟨m,hm⟩ : ∃ m : Int,m = objCount R := ⟨_,rfl⟩
  refine cfr (objects_lx m R N W L D h.l h.n h.r h.a.rows h.w hm) [(0,1),(1,2),(2,3),(3,4)] (fun r h' n' hrr => ?_)
  obtain ⟨O,e1,e2,e3,hO⟩ := hrr
  subst e1 e2 e3
  have hOl : (O.length : Int) = m := by rw [hO,ipv_length,objs_length h.a.rows,hm]
  have hO : O = ipv (objs R) := hO
  have hol : ((objs R).length : Int) = m := by rw [← hOl,hO,ipv_length]
  have hob : m ≤ 8000 := by have := objsTo_le R R.length; rw [objs_length h.a.rows] at this; have := h.r; omega
  conv => cbv
  refine LoopF.mk (fun k s => ∃ i : Int,s = ⟨.ptr 0 (.lit 0) :: (undefs 27 ++ .sl 7 3 1 (.lit 0) (.sym m) :: .p (.int .i64 (.sym m)) :: .p (.int .i64 (.sym i)) :: undefs 13),[hpA 0 1 5 6 3 W ph sp cy,hpB 1 2 4 3 W,hpC 2 3 270 2 N,hpP 3 L,hpP 4 D,hpF 5 z' true,hpP 6 Q,hpP 7 O],8⟩ ∧ 0 ≤ i ∧ i ≤ m ∧ (∀ (j : Nat) b,(j : Int) < i → (objs R)[j]? = some b → C[b.toNat]? ≠ some 1) ∧ k = (m - i).toNat) m.toNat _
   (Re.at [(0,0),(1,1),(2,2),(3,3),(4,4),(5,5),(6,6),(7,7)] []) ⟨0,rfl,by omega,by omega,fun j b hj => by omega,by omega⟩ ?_
  rintro k s ⟨i,rfl,hi0,hi1,hn,hk⟩
  conv => cbv
  refine Br.mk (fun gi => ?_) (fun gi => ?_)
  ·have gi : i < m := gi
   obtain ⟨k',rfl⟩ : ∃ k',k = k' + 1 := ⟨k - 1,by omega⟩
   obtain ⟨a,ha⟩ : ∃ a,(objs R)[i.toNat]? = some a := ⟨_,List.getElem?_eq_getElem (by omega)⟩
   have hc : O[i.toNat]? = some (.int .i64 (.sym a)) := by rw [hO]; exact ipv_get ha
   conv => cbv
   refine Need.mk ⟨hi0,gi⟩ ?_
   conv => cbv
   refine Cell.at i _ hc (by simp [I.val]) rfl ?_
   conv => cbv
   refine CallF.le (args0 := [.ptr 0 (.lit 0),i6 a,i6 1]) (cfr (is_lx R ws C A' N W ph sp cy L D Q z' true h1 a 1) [(0,0),(1,1),(2,2),(3,3),(4,4),(5,5),(6,6)] (fun r h' n' hrr => ?_)) (by simp [ales,ale,pvle,I.val])
   obtain ⟨b,e1,e2,e3,hb⟩ := hrr
   subst e1 e2 e3
   cases b with
   | true =>
    conv => cbv
    refine RetF.mk [i6 a,.p (.bool true)] [hpA 0 1 5 6 3 W ph sp cy,hpB 1 2 4 3 W,hpC 2 3 270 2 N,hpP 3 L,hpP 4 D,hpF 5 z' true,hpP 6 Q] 7 (Re.at [(0,0),(1,1),(2,2),(3,3),(4,4),(5,5),(6,6)] []) rfl ⟨a,true,A',true,z',rfl,rfl,rfl,h1,by rw [hA']; exact .found i.toNat a hG0 rfl ha (hb.1 rfl).2 (fun j b hj => hn j b (by omega))⟩
   | false =>
    have hna : C[a.toNat]? ≠ some 1 := fun hx => by have := hb.2 ⟨List.mem_of_getElem? ha,hx⟩; cases this
    conv => cbv
    refine Fit.mk (by show (-9223372036854775808 : Int) ≤ i + 1; omega) (by show i + 1 ≤ 9223372036854775807; omega) fun i2 hi2 => ?_
    have hi2 : i2 = i + 1 := hi2
    conv => cbv
    refine Again.mk k' _ (Nat.lt_succ_self _) (Re.at [(0,0),(1,1),(2,2),(3,3),(4,4),(5,5),(6,6),(7,7)] []) ⟨i2,rfl,by omega,by omega,fun j b hj hjb => ?_,by omega⟩
    by_cases q : j = i.toNat
    ·rw [q,ha] at hjb; obtain rfl := Option.some.inj hjb; exact hna
    ·have hj : (j : Int) < i2 := hj
     have hj2 : (j : Int) < i := by omega
     exact hn j b hj2 hjb
  ·have gi : ¬ i < m := gi
   conv => cbv
   refine cfr (greySettle_lx z' true) [(0,5)] (fun r h' n' ⟨e1,e2,e3⟩ => ?_)
   subst e1 e2 e3
   conv => cbv
   refine RetF.mk [i6 0,.p (.bool false)] [hpA 0 1 5 6 3 W ph sp cy,hpB 1 2 4 3 W,hpC 2 3 270 2 N,hpP 3 L,hpP 4 D,hpF 5 z' false,hpP 6 Q] 7 (Re.at [(0,0),(1,1),(2,2),(3,3),(4,4),(5,5),(6,6)] []) rfl ⟨0,false,A',false,z',rfl,rfl,rfl,h1,by rw [hA']; exact .settle hG0 rfl (fun j b hj => hn j b (by have := (List.getElem?_eq_some_iff.1 hj).1; omega) hj)⟩
inductive LookR (R : List Rw) (ws : List Int) (a : Int) : LV → Prop
 | box (x e : Int) (hk : KindR R ws a 5) (hx : Loaded R ws a 1 x e) : LookR R ws a (.iface 227 (.agg [i6 a,i6 x]))
 | other (k : Int) (hk : KindR R ws a k) (hne : k ≠ 5) : LookR R ws a (.iface 297 (.agg []))
theorem look9_lx (R : List Rw) (ws C G : List Int) (N W ph sp cy : Int) (L D Q : List PV) (z : ByteArray) (ov : Bool) (h : HM R ws C G N W L D Q z) (a : Int) : CallF (fun _ => Tryz.prog) 223 [.ptr 0 (.lit 0),i6 a] [hpA 0 1 5 6 3 W ph sp cy,hpB 1 2 4 3 W,hpC 2 3 270 2 N,hpP 3 L,hpP 4 D,hpF 5 z ov,hpP 6 Q] 7 (fun r h n => LookR R ws a r ∧ h = [hpA 0 1 5 6 3 W ph sp cy,hpB 1 2 4 3 W,hpC 2 3 270 2 N,hpP 3 L,hpP 4 D,hpF 5 z ov,hpP 6 Q] ∧ n = 7) := by
 refine callF_of_body tok Tryz.func223 (by kernel_rfl) rfl rfl rfl ?_; conv => cbv
 refine cfr (kind_lx R ws N a W L D h.l h.d h.n h.r h.a h.w) [(0,1),(1,2),(2,3),(3,4)] (fun r h' n' hrr => ?_)
 obtain ⟨v,e1,e2,e3,hv⟩ := hrr
 subst e1 e2 e3
 conv => cbv
 refine Br.mk (fun g => ?_) (fun g => ?_)
 ·have g : v = 5 := g
  conv => cbv
  refine CallF.le (args0 := [.ptr 1 (.lit 0),i6 a,i6 1]) (cfr (load_lx 1 R ws N a W L D h.l h.d h.n h.r h.a h.w) [(0,1),(1,2),(2,3),(3,4)] (fun r h' n' hrr => ?_)) (by simp [ales,ale,pvle,I.val])
  obtain ⟨x,e,e1,e2,e3,hx⟩ := hrr
  subst e1 e2 e3
  conv => cbv
  refine RetF.mk [.iface 227 (.agg [i6 a,i6 x])] [hpA 0 1 5 6 3 W ph sp cy,hpB 1 2 4 3 W,hpC 2 3 270 2 N,hpP 3 L,hpP 4 D,hpF 5 z ov,hpP 6 Q] 7 (Re.at [(0,0),(1,1),(2,2),(3,3),(4,4),(5,5),(6,6)] []) rfl ⟨.box x e (g ▸ hv) hx,rfl,rfl⟩
 ·have g : ¬ v = 5 := g
  conv => cbv
  refine RetF.mk [.iface 297 (.agg [])] [hpA 0 1 5 6 3 W ph sp cy,hpB 1 2 4 3 W,hpC 2 3 270 2 N,hpP 3 L,hpP 4 D,hpF 5 z ov,hpP 6 Q] 7 (Re.at [(0,0),(1,1),(2,2),(3,3),(4,4),(5,5),(6,6)] []) rfl ⟨.other v hv g,rfl,rfl⟩
theorem nextFinal_lx (R : List Rw) (ws C G : List Int) (N W ph sp cy : Int) (L D Q : List PV) (z : ByteArray) (ov : Bool) (h : HM R ws C G N W L D Q z) : CallF (fun _ => Tryz.prog) 181 [.ptr 0 (.lit 0)] [hpA 0 1 5 6 3 W ph sp cy,hpB 1 2 4 3 W,hpC 2 3 270 2 N,hpP 3 L,hpP 4 D,hpF 5 z ov,hpP 6 Q] 7 (fun r h n => ∃ (a x : Int) (b : Bool),r = .tup [.agg [i6 a,i6 x],.p (.bool b)] ∧ h = [hpA 0 1 5 6 3 W ph sp cy,hpB 1 2 4 3 W,hpC 2 3 270 2 N,hpP 3 L,hpP 4 D,hpF 5 z ov,hpP 6 Q] ∧ n = 7 ∧ NextF R ws C a b) := by
 obtain ⟨m,hm⟩ : ∃ m : Int,m = objCount R := ⟨_,rfl⟩
 refine callF_of_body tok Tryz.func181 (by kernel_rfl) rfl rfl rfl ?_; conv => cbv
 refine cfr (objects_lx m R N W L D h.l h.n h.r h.a.rows h.w hm) [(0,1),(1,2),(2,3),(3,4)] (fun r h' n' hrr => ?_)
 obtain ⟨O,e1,e2,e3,hO⟩ := hrr
 subst e1 e2 e3
 have hOl : (O.length : Int) = m := by rw [hO,ipv_length,objs_length h.a.rows,hm]
 have hO : O = ipv (objs R) := hO
 have hol : ((objs R).length : Int) = m := by rw [← hOl,hO,ipv_length]
 have hob : m ≤ 8000 := by have := objsTo_le R R.length; rw [objs_length h.a.rows] at this; have := h.r; omega
 conv => cbv
 refine LoopF.mk (fun k s => ∃ i : Int,s = ⟨.ptr 0 (.lit 0) :: .undef :: .ptr 7 (.lit 0) :: .p (.bool false) :: (undefs 8 ++ .sl 8 3 1 (.lit 0) (.sym m) :: .p (.int .i64 (.sym m)) :: .p (.int .i64 (.sym i)) :: undefs 24),[hpA 0 1 5 6 3 W ph sp cy,hpB 1 2 4 3 W,hpC 2 3 270 2 N,hpP 3 L,hpP 4 D,hpF 5 z ov,hpP 6 Q,hpP 8 O,(7,.pure false [.int .i64 (.lit 0),.int .i64 (.lit 0)])],9⟩ ∧ 0 ≤ i ∧ i ≤ m ∧ (∀ (j : Nat) b,(j : Int) < i → (objs R)[j]? = some b → ¬ Due R ws C b) ∧ k = (m - i).toNat) m.toNat _
  (Re.at [(0,0),(1,1),(2,2),(3,3),(4,4),(5,5),(6,6),(7,7),(8,8)] []) ⟨0,rfl,by omega,by omega,fun j b hj => by omega,by omega⟩ ?_
 rintro k s ⟨i,rfl,hi0,hi1,hn,hk⟩
 conv => cbv
 refine Br.mk (fun gi => ?_) (fun gi => ?_)
 ·have gi : i < m := gi
  obtain ⟨k',rfl⟩ : ∃ k',k = k' + 1 := ⟨k - 1,by omega⟩
  obtain ⟨a,ha⟩ : ∃ a,(objs R)[i.toNat]? = some a := ⟨_,List.getElem?_eq_getElem (by omega)⟩
  have hc : O[i.toNat]? = some (.int .i64 (.sym a)) := by rw [hO]; exact ipv_get ha
  have hob2 := (obj_iff h.a a).1 (List.mem_of_getElem? ha)
  have hstep : ∀ i2 : Int,i2 = i + 1 → ¬ Due R ws C a → ∀ (j : Nat) b,(j : Int) < i2 → (objs R)[j]? = some b → ¬ Due R ws C b := by
   intro i2 hi2 hd j b hj hjb
   by_cases q : j = i.toNat
   ·rw [q,ha] at hjb; obtain rfl := Option.some.inj hjb; exact hd
   ·exact hn j b (by omega) hjb
  conv => cbv
  refine Need.mk ⟨hi0,gi⟩ ?_
  conv => cbv
  refine Cell.at i _ hc (by simp [I.val]) rfl ?_
  conv => cbv
  refine cfr (look9_lx R ws C G N W ph sp cy L D Q z ov h a) [(0,0),(1,1),(2,2),(3,3),(4,4),(5,5),(6,6)] (fun r h' n' hrr => ?_)
  obtain ⟨hL,e2,e3⟩ := hrr
  subst e2 e3
  cases hL with
  | other k2 hk2 hne =>
   have hnd : ¬ Due R ws C a := by
    rintro ⟨⟨l,hK⟩,_⟩
    cases hk2 with
    | no hno => exact hno hob2
    | is _ l2 hK2 => exact hne (hK2.det9 hK).1
   conv => cbv
   refine Fit.mk (by show (-9223372036854775808 : Int) ≤ i + 1; omega) (by show i + 1 ≤ 9223372036854775807; omega) fun i2 hi2 => ?_
   have hi2 : i2 = i + 1 := hi2
   conv => cbv
   refine Again.mk k' _ (Nat.lt_succ_self _) (Re.at [(0,0),(1,1),(2,2),(3,3),(4,4),(5,5),(6,6),(7,7),(8,8)] []) ⟨i2,rfl,by omega,by omega,hstep i2 hi2 hnd,by omega⟩
  | box x e hk2 hx =>
   obtain ⟨l,hK⟩ : ∃ l,Kept R ws a 5 l := by
    generalize hk5 : (5 : Int) = k5 at hk2
    cases hk2 with
    | no _ => cases hk5
    | is _ l hK => exact ⟨l,hk5 ▸ hK⟩
   have hx0 : x ≠ 0 → e = 0 := by
    intro hne
    generalize h1 : (1 : Int) = i1 at hx
    cases hx with
    | none _ => exact absurd rfl hne
    | arg _ _ _ _ => exact absurd rfl hne
    | ok _ _ _ _ _ _ => rfl
   conv => cbv
   refine Br.mk (fun gx => ?_) (fun gx => ?_)
   ·have gx : x ≠ 0 := gx
    obtain rfl := hx0 gx
    conv => cbv
    refine CallF.le (args0 := [.ptr 0 (.lit 0),i6 a,i6 0]) (cfr (is_lx R ws C G N W ph sp cy L D Q z ov h a 0) [(0,0),(1,1),(2,2),(3,3),(4,4),(5,5),(6,6)] (fun r h' n' hrr => ?_)) (by simp [ales,ale,pvle,I.val])
    obtain ⟨b,e1,e2,e3,hb⟩ := hrr
    subst e1 e2 e3
    cases b with
    | true =>
     conv => cbv
     refine RetF.mk [.agg [i6 a,i6 x],.p (.bool true)] [hpA 0 1 5 6 3 W ph sp cy,hpB 1 2 4 3 W,hpC 2 3 270 2 N,hpP 3 L,hpP 4 D,hpF 5 z ov,hpP 6 Q] 7 (Re.at [(0,0),(1,1),(2,2),(3,3),(4,4),(5,5),(6,6)] []) rfl ⟨a,x,true,rfl,rfl,rfl,.found i.toNat a ha ⟨⟨l,hK⟩,(hb.1 rfl).2,x,hx,gx⟩ (fun j b hj => hn j b (by omega))⟩
    | false =>
     have hnd : ¬ Due R ws C a := fun hd => by have := hb.2 ⟨List.mem_of_getElem? ha,hd.2.1⟩; cases this
     conv => cbv
     refine Fit.mk (by show (-9223372036854775808 : Int) ≤ i + 1; omega) (by show i + 1 ≤ 9223372036854775807; omega) fun i2 hi2 => ?_
     have hi2 : i2 = i + 1 := hi2
     conv => cbv
     refine Again.mk k' _ (Nat.lt_succ_self _) (Re.at [(0,0),(1,1),(2,2),(3,3),(4,4),(5,5),(6,6),(7,7),(8,8)] []) ⟨i2,rfl,by omega,by omega,hstep i2 hi2 hnd,by omega⟩
   ·have gx : ¬ x ≠ 0 := gx
    have hnd : ¬ Due R ws C a := by
     rintro ⟨_,_,y,hy,hy0⟩
     obtain ⟨rfl,_⟩ := loaded_det hx hy
     exact gx hy0
    conv => cbv
    refine Fit.mk (by show (-9223372036854775808 : Int) ≤ i + 1; omega) (by show i + 1 ≤ 9223372036854775807; omega) fun i2 hi2 => ?_
    have hi2 : i2 = i + 1 := hi2
    conv => cbv
    refine Again.mk k' _ (Nat.lt_succ_self _) (Re.at [(0,0),(1,1),(2,2),(3,3),(4,4),(5,5),(6,6),(7,7),(8,8)] []) ⟨i2,rfl,by omega,by omega,hstep i2 hi2 hnd,by omega⟩
 ·have gi : ¬ i < m := gi
  conv => cbv
  refine RetF.mk [.agg [i6 0,i6 0],.p (.bool false)] [hpA 0 1 5 6 3 W ph sp cy,hpB 1 2 4 3 W,hpC 2 3 270 2 N,hpP 3 L,hpP 4 D,hpF 5 z ov,hpP 6 Q] 7 (Re.at [(0,0),(1,1),(2,2),(3,3),(4,4),(5,5),(6,6)] []) rfl ⟨0,0,false,rfl,rfl,rfl,.none (fun j b hj => hn j b (by have := (List.getElem?_eq_some_iff.1 hj).1; omega) hj)⟩
theorem wordsV_lx (R : List Rw) (ws C G : List Int) (N W ph sp cy : Int) (L D Q : List PV) (z : ByteArray) (ov : Bool) (h : HM R ws C G N W L D Q z) (a : Int) : CallF (fun _ => Tryz.prog) 183 [.ptr 0 (.lit 0),i6 a] [hpA 0 1 5 6 3 W ph sp cy,hpB 1 2 4 3 W,hpC 2 3 270 2 N,hpP 3 L,hpP 4 D,hpF 5 z ov,hpP 6 Q] 7 (fun r h n => ∃ (X : List Int) (m : Int) (O : List PV),r = .p (.vsl (.sym m) true O) ∧ h = [hpA 0 1 5 6 3 W ph sp cy,hpB 1 2 4 3 W,hpC 2 3 270 2 N,hpP 3 L,hpP 4 D,hpF 5 z ov,hpP 6 Q] ∧ n = 7 ∧ O = ipv X ∧ m = X.length ∧ Wrds R ws a X) :=
 (wordsH_lx R ws C G N W ph sp cy L D Q z ov h a).ret fun r h' n' ⟨X,m,O,e1,e2,e3,hO,hm,hX⟩ => by
  subst e1 e2 e3
  exact RetF.mk [.p (.vsl (.sym m) true O)] [hpA 0 1 5 6 3 W ph sp cy,hpB 1 2 4 3 W,hpC 2 3 270 2 N,hpP 3 L,hpP 4 D,hpF 5 z ov,hpP 6 Q] 7 (Re.at [(0,0),(1,1),(2,2),(3,3),(4,4),(5,5),(6,6)] []) rfl ⟨X,m,O,rfl,rfl,rfl,hO,hm,hX⟩
theorem shadeW_zero (R : List Rw) (ph : Int) (s : List Int × List Int × Bool) (e : Int) : storeS R ph e 0 s = s := by
 unfold storeS shadeW
 split
 ·rw [if_neg (by decide)]
 ·rfl
theorem keep_lx (R : List Rw) (ws C G : List Int) (N W ph sp cy : Int) (L D Q : List PV) (z : ByteArray) (ov : Bool) (h : HM R ws C G N W L D Q z) (o : Unit → Obj) (ho : IsPow o) (a x : Int) : CallF (fun _ => Tryz.prog) 182 [.ptr 0 (.lit 0),.agg [i6 a,i6 x]] [hpA 0 1 5 6 3 W ph sp cy,hpB 1 2 4 3 W,hpC 2 3 270 2 N,hpP 3 L,hpP 4 D,hpF 5 z ov,hpP 6 Q,(7,.fix 0 o)] 8 (fun r h n => ∃ (X : List Int) (m e : Int) (O : List PV) (ws' C' G' : List Int) (ov' : Bool) (D' Q' : List PV) (z' : ByteArray),r = .agg [.p (.int .i64 (.lit 5)),i6 a,.p (.vsl (.sym m) true O),.p (.bool true)] ∧ h = [hpA 0 1 5 6 3 W ph sp cy,hpB 1 2 4 3 W,hpC 2 3 270 2 N,hpP 3 L,hpP 4 D',hpF 5 z' ov',hpP 6 Q',(7,.fix 0 o)] ∧ n = 8 ∧ HM R ws' C' G' N W L D' Q' z' ∧ O = ipv X ∧ m = X.length ∧ Wrds R ws a X ∧ Stored R ws a 1 0 e ws' ∧ (C',G',ov') = shade R ph a (C,G,ov)) := by
 refine callF_of_body tok Tryz.func182 (by kernel_rfl) rfl rfl rfl ?_; conv => cbv
 refine cfr (wordsV_lx R ws C G N W ph sp cy L D Q z ov h a) [(0,0),(1,1),(2,2),(3,3),(4,4),(5,5),(6,6)] (fun r h' n' hrr => ?_)
 obtain ⟨X,m,O,e1,e2,e3,hO,hm,hX⟩ := hrr
 subst e1 e2 e3
 conv => cbv
 refine CallF.le (args0 := [.ptr 0 (.lit 0),i6 a,i6 1,i6 0]) (cfr (store9_lx R ws C G N W ph sp cy L D Q z ov h o ho a 1 0 (by decide)) [(0,0),(1,1),(2,2),(3,3),(4,4),(5,5),(6,6),(7,7)] (fun r h' n' hrr => ?_)) (by simp [ales,ale,pvle,I.val])
 obtain ⟨e,ws',C1,G1,ov1,D',Q1,z1,e1,e2,e3,h1,hT,hS⟩ := hrr
 subst e1 e2 e3
 rw [shadeW_zero] at hS
 conv => cbv
 refine cfr (shade_lx R ws' C1 G1 N W ph sp cy L D' Q1 z1 ov1 h1 o ho a) [(0,0),(1,1),(2,2),(3,3),(4,4),(5,5),(6,6),(7,7)] (fun r h' n' hrr => ?_)
 obtain ⟨C',G',ov',Q',z',e1,e2,e3,h2,hS2⟩ := hrr
 subst e1 e2 e3
 rw [hS] at hS2
 conv => cbv
 refine RetF.mk [.agg [.p (.int .i64 (.lit 5)),i6 a,.p (.vsl (.sym m) true O),.p (.bool true)]] [hpA 0 1 5 6 3 W ph sp cy,hpB 1 2 4 3 W,hpC 2 3 270 2 N,hpP 3 L,hpP 4 D',hpF 5 z' ov',hpP 6 Q',(7,.fix 0 o)] 8 (Re.at [(0,0),(1,1),(2,2),(3,3),(4,4),(5,5),(6,6),(7,7)] []) rfl ⟨X,m,e,O,ws',C',G',ov',D',Q',z',rfl,rfl,rfl,h2,hO,hm,hX,hT,hS2⟩
theorem markH_lx (R : List Rw) (ws C G : List Int) (N W ph sp cy : Int) (L D Q : List PV) (z : ByteArray) (ov : Bool) (h : HM R ws C G N W L D Q z) (o : Unit → Obj) (ho : IsPow o) (hph : ph = 1) : CallF (fun _ => Tryz.prog) 101 [.ptr 0 (.lit 0)] [hpA 0 1 5 6 3 W ph sp cy,hpB 1 2 4 3 W,hpC 2 3 270 2 N,hpP 3 L,hpP 4 D,hpF 5 z ov,hpP 6 Q,(7,.fix 0 o)] 8 (fun r h n => ∃ (out : List Gn) (k ph' sp' : Int) (cells : List PV) (ws' C' G' : List Int) (ov' : Bool) (D' Q' : List PV) (z' : ByteArray),r = .p (.vsl (.sym k) true cells) ∧ h = [hpA 0 1 5 6 3 W ph' sp' cy,hpB 1 2 4 3 W,hpC 2 3 270 2 N,hpP 3 L,hpP 4 D',hpF 5 z' ov',hpP 6 Q',(7,.fix 0 o)] ∧ n = 8 ∧ HM R ws' C' G' N W L D' Q' z' ∧ cells = gpv out ∧ k = out.length ∧ Marked R ws C G ov sp out ph' sp' ws' C' G' ov') := by
 subst hph
 refine callF_of_body tok Tryz.func101 (by kernel_rfl) rfl rfl rfl ?_; conv => cbv
 refine cfr (nextGrey_lx R ws C G N W 1 sp cy L D Q z ov h) [(0,0),(1,1),(2,2),(3,3),(4,4),(5,5),(6,6)] (fun r h' n' hrr => ?_)
 obtain ⟨v,b,G1,ov1,z1,e1,e2,e3,h1,hg⟩ := hrr
 subst e1 e2 e3
 cases b with
 | true =>
  have hv : 0 ≤ v ∧ v < W := by
   cases hg with
   | pop A _ hG => exact h.g v (by rw [hG]; simp)
   | found i _ _ _ ha _ _ => have := obj_bd h.a (List.mem_of_getElem? ha); have := h.w; have := h.n; omega
  conv => cbv
  refine cfr (scan_lx R ws C G1 N W 1 sp cy L D Q z1 ov1 h1 o ho v hv) [(0,0),(1,1),(2,2),(3,3),(4,4),(5,5),(6,6),(7,7)] (fun r h' n' hrr => ?_)
  obtain ⟨X,C',G',ov',Q',z',e1,e2,e3,h2,hX,hS⟩ := hrr
  subst e1 e2 e3
  conv => cbv
  refine RetF.mk [.p (.vsl (.sym 0) true [])] [hpA 0 1 5 6 3 W 1 sp cy,hpB 1 2 4 3 W,hpC 2 3 270 2 N,hpP 3 L,hpP 4 D,hpF 5 z' ov',hpP 6 Q',(7,.fix 0 o)] 8 (Re.at [(0,0),(1,1),(2,2),(3,3),(4,4),(5,5),(6,6),(7,7)] []) rfl ⟨[],0,1,sp,[],ws,C',G',ov',D,Q',z',rfl,rfl,rfl,h2,rfl,rfl,.scan v G1 X C' G' ov1 ov' hg hX hS⟩
 | false =>
  have hv0 : v = 0 := by
   cases hg <;> rfl
  subst hv0
  conv => cbv
  refine cfr (nextFinal_lx R ws C G1 N W 1 sp cy L D Q z1 ov1 h1) [(0,0),(1,1),(2,2),(3,3),(4,4),(5,5),(6,6)] (fun r h' n' hrr => ?_)
  obtain ⟨a,x,b,e1,e2,e3,hf⟩ := hrr
  subst e1 e2 e3
  cases b with
  | true =>
   conv => cbv
   refine cfr (keep_lx R ws C G1 N W 1 sp cy L D Q z1 ov1 h1 o ho a x) [(0,0),(1,1),(2,2),(3,3),(4,4),(5,5),(6,6),(7,7)] (fun r h' n' hrr => ?_)
   obtain ⟨X,m,e,O,ws',C',G',ov',D',Q',z',e1,e2,e3,h2,hO,hm,hX,hT,hS⟩ := hrr
   subst e1 e2 e3
   have he : e = 0 := by
    cases hf with
    | found i _ ha hd _ =>
     obtain ⟨⟨l,hK⟩,_,y,hy,_⟩ := hd
     cases hy with
     | ok _ l2 _ hK2 hi _ =>
      cases hT with
      | none hno => exact absurd hK2.obj6 hno
      | arg k3 l3 hK3 hi3 => obtain ⟨_,rfl⟩ := hK2.det9 hK3; exact absurd hi hi3
      | ok _ _ _ _ => rfl
   subst he
   conv => cbv
   refine RetF.mk [.p (.vsl (.sym 1) true [.int .i64 (.sym 5),.int .i64 (.sym a),.vsl (.sym m) true O,.bool true])] [hpA 0 1 5 6 3 W 1 sp cy,hpB 1 2 4 3 W,hpC 2 3 270 2 N,hpP 3 L,hpP 4 D',hpF 5 z' ov',hpP 6 Q',(7,.fix 0 o)] 8 (Re.at [(0,0),(1,1),(2,2),(3,3),(4,4),(5,5),(6,6),(7,7)] []) rfl ⟨[(5,a,X,true)],1,1,sp,_,ws',C',G',ov',D',Q',z',rfl,rfl,rfl,h2,by rw [hO,hm]; rfl,rfl,.keep a G1 X ws' C' G' ov1 ov' hg hf hX hT hS⟩
  | false =>
   have ha0 : a = 0 := by cases hf; rfl
   subst ha0
   conv => cbv
   refine RetF.mk [.p (.vsl (.sym 0) true [])] [hpA 0 1 5 6 3 W 2 0 cy,hpB 1 2 4 3 W,hpC 2 3 270 2 N,hpP 3 L,hpP 4 D,hpF 5 z1 ov1,hpP 6 Q,(7,.fix 0 o)] 8 (Re.at [(0,0),(1,1),(2,2),(3,3),(4,4),(5,5),(6,6),(7,7)] []) rfl ⟨[],0,2,0,[],ws,C,G1,ov1,D,Q,z1,rfl,rfl,rfl,h1,rfl,rfl,.sweep G1 ov1 hg hf⟩
def Wh (R : List Rw) (C : List Int) (p : Int) : Prop := p ∈ objs R ∧ C[p.toNat]? = some 0
inductive SweptTo (ws C : List Int) (R : List Rw) (p : Int) : Nat → List Gn → List Rw → Prop
 | zero : SweptTo ws C R p 0 [] R
 | skip (i : Nat) (out : List Gn) (R1 : List Rw) (h : SweptTo ws C R p i out R1) (hn : ¬ Wh R1 C (p + i)) : SweptTo ws C R p (i + 1) out R1
 | free (i : Nat) (out : List Gn) (R1 R2 : List Rw) (k : Int) (X : List Int) (h : SweptTo ws C R p i out R1) (hw : Wh R1 C (p + i)) (hk : KindR R1 ws (p + i) k) (hX : Wrds R1 ws (p + i) X) (hf : Freet R1 (p + i) 0 R2) : SweptTo ws C R p (i + 1) (out ++ [(k,p + i,X,false)]) R2
theorem SweptTo.le {ws C : List Int} {R R' : List Rw} {p : Int} {i : Nat} {out : List Gn} (h : SweptTo ws C R p i out R') : out.length ≤ i := by
 induction h with
 | zero => exact Nat.le_refl _
 | skip i out R1 h hn ih => omega
 | free i out R1 R2 k X h hw hk hX hf ih => rw [List.length_append]; simp; omega
theorem kept_freet {R R' : List Rw} {ws : List Int} {a e : Int} (hA : AOk R ws) (h : Freet R a e R') : ∀ b k l,Kept R' ws b k l → Kept R ws b k l := by
 cases h with
 | none _ => exact fun _ _ _ hk => hk
 | ok q s e he hs hat =>
  obtain ⟨_,_,_,g4⟩ := free_objs hA.rows he hs a hat
  rintro b k l ⟨w,h1,h2,h3,h4,h5,h6⟩
  exact .mk k l w ((g4 b w).1 h1).1 h2 h3 h4 h5 h6
theorem HM.freet {R R' : List Rw} {ws C G : List Int} {N W : Int} {L L' D Q : List PV} {z : ByteArray} {a e : Int} (h : HM R ws C G N W L D Q z) (hf : Freet R a e R') (hL : L' = rpv R') : HM R' ws C G N W L' D Q z := by
 obtain ⟨h1,h2⟩ := h.a.freet hf
 exact ⟨h1,fun b k l hb => h.k b k l (kept_freet h.a hf b k l hb),by rw [h2]; exact h.n,by rw [h2]; exact h.r,h.w,hL,h.d,h.q,h.c,h.z,h.g,h.g8⟩
theorem freet_ok {R R' : List Rw} {ws : List Int} {a e : Int} (hA : AOk R ws) (ho : a ∈ objs R) (h : Freet R a e R') : e = 0 := by
 cases h with
 | none hn => exact absurd ((obj_iff hA a).1 ho) hn
 | ok _ _ _ _ _ _ => rfl
def swPh (sp W : Int) : Int := if W ≤ (sp + 1) * 32 then 0 else 2
def swCy (sp W cy : Int) : Int := if W ≤ (sp + 1) * 32 then cy + 1 else cy
theorem sweepH_lx (R : List Rw) (ws C G : List Int) (N W ph sp cy : Int) (L D Q : List PV) (z : ByteArray) (ov : Bool) (h : HM R ws C G N W L D Q z) (hph : ph = 2) (hsp : 0 ≤ sp ∧ sp ≤ 1000) (hcy : 0 ≤ cy ∧ cy ≤ 1000000000) : CallF (fun _ => Tryz.prog) 102 [.ptr 0 (.lit 0)] [hpA 0 1 5 6 3 W ph sp cy,hpB 1 2 4 3 W,hpC 2 3 270 2 N,hpP 3 L,hpP 4 D,hpF 5 z ov,hpP 6 Q] 7 (fun r h n => ∃ (out : List Gn) (k ph' sp' cy' : Int) (cells L' : List PV) (R' : List Rw),r = .p (.vsl (.sym k) true cells) ∧ h = [hpA 0 1 5 6 3 W ph' sp' cy',hpB 1 2 4 3 W,hpC 2 3 270 2 N,hpP 3 L',hpP 4 D,hpF 5 z ov,hpP 6 Q] ∧ n = 7 ∧ HM R' ws C G N W L' D Q z ∧ cells = gpv out ∧ k = out.length ∧ SweptTo ws C R (32 * sp) 32 out R' ∧ sp' = sp + 1 ∧ ph' = swPh sp W ∧ cy' = swCy sp W cy) := by
 have hWn := h.w; have hNr := h.n; have hRr := h.r
 refine callF_of_body tok Tryz.func102 (by kernel_rfl) rfl rfl rfl ?_; conv => cbv
 refine drawn_sound tok (by kernel_rfl) [] [0,1,2,3,4,5,6,7,8,9,10,11,12] (by kernel_rfl) ?_; conv => cbv
 refine Fit.mk (by show (-9223372036854775808 : Int) ≤ sp * 32; omega) (by show sp * 32 ≤ 9223372036854775807; omega) fun f hf => ?_
 have hf : f = sp * 32 := hf
 conv => cbv
 refine Fit.mk (by show (-9223372036854775808 : Int) ≤ sp + 1; omega) (by show sp + 1 ≤ 9223372036854775807; omega) fun s1 hs1 => ?_
 have hs1 : s1 = sp + 1 := hs1
 conv => cbv
 refine Fit.mk (by show (-9223372036854775808 : Int) ≤ s1 * 32; omega) (by show s1 * 32 ≤ 9223372036854775807; omega) fun be hbe => ?_
 have hbe : be = s1 * 32 := hbe
 conv => cbv
 refine LoopF.mk (fun kk s => ∃ (at_ k : Int) (i : Nat) (out : List Gn) (cells L1 : List PV) (R1 : List Rw),s = ⟨.ptr 0 (.lit 0) :: (undefs 2 ++ .sl 7 40 4 (.lit 0) (.sym k) :: .undef :: .p (.int .i64 (.sym be)) :: .p (.int .i64 (.sym at_)) :: undefs 65),[hpA 0 1 5 6 3 W ph sp cy,hpB 1 2 4 3 W,hpC 2 3 270 2 N,hpP 3 L1,hpP 4 D,hpF 5 z ov,hpP 6 Q,hpP 7 cells],8⟩ ∧ at_ = 32 * sp + i ∧ i ≤ 32 ∧ HM R1 ws C G N W L1 D Q z ∧ SweptTo ws C R (32 * sp) i out R1 ∧ cells = gpv out ∧ k = out.length ∧ kk = 32 - i) 32 _
  (Re.at [(0,0),(1,1),(2,2),(3,3),(4,4),(5,5),(6,6)] [7]) ⟨f,0,0,[],[],L,R,rfl,by omega,by omega,h,.zero,rfl,rfl,by omega⟩ ?_
 rintro kk s ⟨at_,k,i,out,cells,L1,R1,rfl,hat,hi,h1,hS,hcs,hk,hkk⟩
 have hle := hS.le
 have hcl : (cells.length : Int) = 4 * k := by rw [hcs,gpv_length]; omega
 conv => cbv
 refine Br.mk (fun gi => ?_) (fun gi => ?_)
 ·have gi : at_ < be := gi
  obtain ⟨k',rfl⟩ : ∃ k',kk = k' + 1 := ⟨kk - 1,by omega⟩
  conv => cbv
  refine CallF.le (args0 := [.ptr 0 (.lit 0),i6 at_,i6 0]) (cfr (is_lx R1 ws C G N W ph sp cy L1 D Q z ov h1 at_ 0) [(0,0),(1,1),(2,2),(3,3),(4,4),(5,5),(6,6)] (fun r h' n' hrr => ?_)) (by simp [ales,ale,pvle,I.val])
  obtain ⟨b,e1,e2,e3,hb⟩ := hrr
  subst e1 e2 e3
  cases b with
  | false =>
   have hnw : ¬ Wh R1 C (32 * sp + i) := fun hw => by have := hb.2 (hat ▸ hw); cases this
   conv => cbv
   refine Fit.mk (by show (-9223372036854775808 : Int) ≤ at_ + 1; omega) (by show at_ + 1 ≤ 9223372036854775807; omega) fun i2 hi2 => ?_
   have hi2 : i2 = at_ + 1 := hi2
   have hat2 : i2 = 32 * sp + ((i + 1 : Nat) : Int) := by omega
   conv => cbv
   refine Again.mk k' _ (Nat.lt_succ_self _) (Re.at [(0,0),(1,1),(2,2),(3,3),(4,4),(5,5),(6,6),(7,7)] []) ⟨i2,k,i + 1,out,cells,L1,R1,rfl,hat2,by omega,h1,.skip i out R1 hS hnw,hcs,hk,by omega⟩
  | true =>
   have hw : Wh R1 C (32 * sp + i) := hat ▸ hb.1 rfl
   conv => cbv
   refine cfr (kind_lx R1 ws N at_ W L1 D h1.l h1.d h1.n h1.r h1.a h1.w) [(0,1),(1,2),(2,3),(3,4)] (fun r h' n' hrr => ?_)
   obtain ⟨v,e1,e2,e3,hv⟩ := hrr
   subst e1 e2 e3
   conv => cbv
   refine cfr (wordsV_lx R1 ws C G N W ph sp cy L1 D Q z ov h1 at_) [(0,0),(1,1),(2,2),(3,3),(4,4),(5,5),(6,6)] (fun r h' n' hrr => ?_)
   obtain ⟨X,m,O,e1,e2,e3,hO,hm,hX⟩ := hrr
   subst e1 e2 e3
   conv => cbv
   refine Room.new rfl ?_
   conv => cbv
   refine Room.new ⟨?_,?_,?_⟩ ?_
   ·show (cells.length : Int) = k * 4; omega
   ·show (k + 1) * 48 ≤ 140737488355328; omega
   ·show k + 1 ≤ 9223372036854775807; omega
   conv => cbv
   refine Upd.mk fun c2 hc2 => ?_
   have hc2 : c2 = cells ++ [.int .i64 (.sym v),.int .i64 (.sym at_),.vsl (.sym m) true O,.bool false] := hc2
   have hc2 : c2 = gpv (out ++ [(v,32 * sp + i,X,false)]) := by rw [hc2,hcs,gpv_app,hO,hm,hat]; rfl
   conv => cbv
   refine Sum.mk fun k2 hk2 => ?_
   have hk2 : k2 = k + 1 := hk2
   conv => cbv
   refine cfr (freeA_lx at_ R1 ws N W L1 D h1.l h1.d h1.n h1.r h1.a h1.w) [(0,1),(1,2),(2,3),(3,4)] (fun r h' n' hrr => ?_)
   obtain ⟨e,R2,L2,e1,e2,e3,hL2,hF⟩ := hrr
   subst e1 e2 e3
   have he := freet_ok h1.a (hat.symm ▸ hw.1) hF
   subst he
   have h2 := h1.freet hF hL2
   conv => cbv
   refine Fit.mk (by show (-9223372036854775808 : Int) ≤ at_ + 1; omega) (by show at_ + 1 ≤ 9223372036854775807; omega) fun i2 hi2 => ?_
   have hi2 : i2 = at_ + 1 := hi2
   have hat2 : i2 = 32 * sp + ((i + 1 : Nat) : Int) := by omega
   have hS2 := SweptTo.free i out R1 R2 v X hS hw (hat ▸ hv) (hat ▸ hX) (hat ▸ hF)
   have hk3 : k2 = ((out ++ [(v,32 * sp + (i : Int),X,false)]).length : Int) := by rw [List.length_append]; show k2 = ((out.length + 1 : Nat) : Int); omega
   conv => cbv
   refine Again.mk k' _ (Nat.lt_succ_self _) (Re.at [(0,0),(1,1),(2,2),(3,3),(4,4),(5,5),(6,6),(9,7)] []) ⟨i2,k2,i + 1,_,c2,L2,R2,rfl,hat2,by omega,h2,hS2,hc2,hk3,by omega⟩
 ·have gi : ¬ at_ < be := gi
  obtain rfl : i = 32 := by omega
  conv => cbv
  refine Fit.mk (by show (-9223372036854775808 : Int) ≤ sp + 1; omega) (by show sp + 1 ≤ 9223372036854775807; omega) fun s2 hs2 => ?_
  have hs2 : s2 = sp + 1 := hs2
  conv => cbv
  refine cfr (wordsA_lx R1 ws N W L1 D h1.l h1.d h1.n h1.r h1.a h1.w) [(0,1),(1,2),(2,3),(3,4)] (fun r h' n' ⟨e1,e2,e3⟩ => ?_)
  subst e1 e2 e3
  conv => cbv
  refine Br.mk (fun gw => ?_) (fun gw => ?_)
  ·have gw : W ≤ be := gw
   conv => cbv
   refine Fit.mk (by show (-9223372036854775808 : Int) ≤ cy + 1; omega) (by show cy + 1 ≤ 9223372036854775807; omega) fun c2 hc2 => ?_
   have hc2 : c2 = cy + 1 := hc2
   conv => cbv
   refine RetF.mk [.p (.vsl (.sym k) true cells)] [hpA 0 1 5 6 3 W 0 s2 c2,hpB 1 2 4 3 W,hpC 2 3 270 2 N,hpP 3 L1,hpP 4 D,hpF 5 z ov,hpP 6 Q] 7 (Re.at [(0,0),(1,1),(2,2),(3,3),(4,4),(5,5),(6,6)] []) rfl ⟨out,k,0,s2,c2,cells,L1,R1,rfl,rfl,rfl,h1,hcs,hk,hS,hs2,by unfold swPh; rw [if_pos (by omega)],by unfold swCy; rw [if_pos (by omega)]; exact hc2⟩
  ·have gw : ¬ W ≤ be := gw
   conv => cbv
   refine RetF.mk [.p (.vsl (.sym k) true cells)] [hpA 0 1 5 6 3 W ph s2 cy,hpB 1 2 4 3 W,hpC 2 3 270 2 N,hpP 3 L1,hpP 4 D,hpF 5 z ov,hpP 6 Q] 7 (Re.at [(0,0),(1,1),(2,2),(3,3),(4,4),(5,5),(6,6)] []) rfl ⟨out,k,ph,s2,cy,cells,L1,R1,rfl,rfl,rfl,h1,hcs,hk,hS,hs2,by unfold swPh; rw [if_neg (by omega)]; exact hph,by unfold swCy; rw [if_neg (by omega)]⟩
inductive Stepd (R : List Rw) (ws C G : List Int) (ov : Bool) (ph sp cy W : Int) : List Gn → List Rw → List Int → List Int → List Int → Bool → Int → Int → Int → Prop
 | mark (out : List Gn) (ws' C' G' : List Int) (ov' : Bool) (ph' sp' : Int) (h : ph = 1) (hm : Marked R ws C G ov sp out ph' sp' ws' C' G' ov') : Stepd R ws C G ov ph sp cy W out R ws' C' G' ov' ph' sp' cy
 | sweep (out : List Gn) (R' : List Rw) (h : ph = 2) (hs : SweptTo ws C R (32 * sp) 32 out R') : Stepd R ws C G ov ph sp cy W out R' ws C G ov (swPh sp W) (sp + 1) (swCy sp W cy)
 | idle (h : ph ≠ 1) (h2 : ph ≠ 2) : Stepd R ws C G ov ph sp cy W [] R ws C G ov ph sp cy
theorem step_lx (R : List Rw) (ws C G : List Int) (N W ph sp cy : Int) (L D Q : List PV) (z : ByteArray) (ov : Bool) (h : HM R ws C G N W L D Q z) (o : Unit → Obj) (ho : IsPow o) (hsp : 0 ≤ sp ∧ sp ≤ 1000) (hcy : 0 ≤ cy ∧ cy ≤ 1000000000) : CallF (fun _ => Tryz.prog) 32 [.ptr 0 (.lit 0)] [hpA 0 1 5 6 3 W ph sp cy,hpB 1 2 4 3 W,hpC 2 3 270 2 N,hpP 3 L,hpP 4 D,hpF 5 z ov,hpP 6 Q,(7,.fix 0 o)] 8 (fun r h n => ∃ (out : List Gn) (k ph' sp' cy' : Int) (R' : List Rw) (ws' C' G' : List Int) (ov' : Bool) (cells L' D' Q' : List PV) (z' : ByteArray),r = .p (.vsl (.sym k) true cells) ∧ h = [hpA 0 1 5 6 3 W ph' sp' cy',hpB 1 2 4 3 W,hpC 2 3 270 2 N,hpP 3 L',hpP 4 D',hpF 5 z' ov',hpP 6 Q',(7,.fix 0 o)] ∧ n = 8 ∧ HM R' ws' C' G' N W L' D' Q' z' ∧ cells = gpv out ∧ k = out.length ∧ Stepd R ws C G ov ph sp cy W out R' ws' C' G' ov' ph' sp' cy') := by
 refine callF_of_body tok Tryz.func32 (by kernel_rfl) rfl rfl rfl ?_; conv => cbv
 refine cfr (phase_lx R ws C G N W ph sp cy L D Q z ov) [(0,0),(1,1),(2,2),(3,3),(4,4),(5,5),(6,6)] (fun r h' n' ⟨e1,e2,e3⟩ => ?_)
 subst e1 e2 e3
 conv => cbv
 refine Br.mk (fun g => ?_) (fun g => ?_)
 ·have g : ph = 1 := g
  conv => cbv
  refine cfr (markH_lx R ws C G N W ph sp cy L D Q z ov h o ho g) [(0,0),(1,1),(2,2),(3,3),(4,4),(5,5),(6,6),(7,7)] (fun r h' n' hrr => ?_)
  obtain ⟨out,k,ph',sp',cells,ws',C',G',ov',D',Q',z',e1,e2,e3,h2,hcs,hk,hM⟩ := hrr
  subst e1 e2 e3
  conv => cbv
  refine RetF.mk [.p (.vsl (.sym k) true cells)] [hpA 0 1 5 6 3 W ph' sp' cy,hpB 1 2 4 3 W,hpC 2 3 270 2 N,hpP 3 L,hpP 4 D',hpF 5 z' ov',hpP 6 Q',(7,.fix 0 o)] 8 (Re.at [(0,0),(1,1),(2,2),(3,3),(4,4),(5,5),(6,6),(7,7)] []) rfl ⟨out,k,ph',sp',cy,R,ws',C',G',ov',cells,L,D',Q',z',rfl,rfl,rfl,h2,hcs,hk,.mark out ws' C' G' ov' ph' sp' g hM⟩
 ·have g : ¬ ph = 1 := g
  conv => cbv
  refine Br.mk (fun g2 => ?_) (fun g2 => ?_)
  ·have g2 : ph = 2 := g2
   conv => cbv
   refine cfr (sweepH_lx R ws C G N W ph sp cy L D Q z ov h g2 hsp hcy) [(0,0),(1,1),(2,2),(3,3),(4,4),(5,5),(6,6)] (fun r h' n' hrr => ?_)
   obtain ⟨out,k,ph',sp',cy',cells,L',R',e1,e2,e3,h2,hcs,hk,hS,q1,q2,q3⟩ := hrr
   subst e1 e2 e3
   conv => cbv
   refine RetF.mk [.p (.vsl (.sym k) true cells)] [hpA 0 1 5 6 3 W ph' sp' cy',hpB 1 2 4 3 W,hpC 2 3 270 2 N,hpP 3 L',hpP 4 D,hpF 5 z ov,hpP 6 Q,(7,.fix 0 o)] 8 (Re.at [(0,0),(1,1),(2,2),(3,3),(4,4),(5,5),(6,6),(7,7)] []) rfl ⟨out,k,ph',sp',cy',R',ws,C,G,ov,cells,L',D,Q,z,rfl,rfl,rfl,h2,hcs,hk,by rw [q1,q2,q3]; exact .sweep out R' g2 hS⟩
  ·have g2 : ¬ ph = 2 := g2
   conv => cbv
   refine RetF.mk [.p (.vsl (.sym 0) true [])] [hpA 0 1 5 6 3 W ph sp cy,hpB 1 2 4 3 W,hpC 2 3 270 2 N,hpP 3 L,hpP 4 D,hpF 5 z ov,hpP 6 Q,(7,.fix 0 o)] 8 (Re.at [(0,0),(1,1),(2,2),(3,3),(4,4),(5,5),(6,6),(7,7)] []) rfl ⟨[],0,ph,sp,cy,R,ws,C,G,ov,[],L,D,Q,z,rfl,rfl,rfl,h,rfl,rfl,.idle g g2⟩
def Dk (R : List Rw) (ws C : List Int) : Prop := ∀ (a x i : Int),a ∈ objs R → C[a.toNat]? = some 2 → Loaded R ws a i x 0 → x % 2 = 1 → (x - 1) / 2 ∈ objs R → C[((x - 1) / 2).toNat]? ≠ some 0
def CLe (C C' : List Int) : Prop := (∀ p : Nat,C'[p]? = some 0 → C[p]? = some 0) ∧ (∀ p : Nat,C'[p]? = some 2 → C[p]? = some 2)
theorem CLe.refl (C : List Int) : CLe C C := ⟨fun _ h => h,fun _ h => h⟩
theorem CLe.trans {A B C : List Int} (h : CLe A B) (k : CLe B C) : CLe A C := ⟨fun p q => h.1 p (k.1 p q),fun p q => h.2 p (k.2 p q)⟩
theorem shade_le (R : List Rw) (ph a : Int) (s : List Int × List Int × Bool) : CLe s.1 (shade R ph a s).1 := by
 unfold shade
 split
 ·rename_i hc
  have h0 := hc.2.2
  have hl := (List.getElem?_eq_some_iff.1 h0).1
  refine ⟨fun p hp => ?_,fun p hp => ?_⟩
  ·by_cases e : a.toNat = p
   ·subst e; exact h0
   ·have hp : (s.1.set a.toNat 1)[p]? = some 0 := hp
    rw [List.getElem?_set_ne e] at hp; exact hp
  ·have hp : (s.1.set a.toNat 1)[p]? = some 2 := hp
   by_cases e : a.toNat = p
   ·subst e
    rw [List.getElem?_set_self hl] at hp
    exact absurd (Option.some.inj hp) (by decide)
   ·rw [List.getElem?_set_ne e] at hp; exact hp
 ·exact CLe.refl _
theorem shade_hit (R : List Rw) (a : Int) (s : List Int × List Int × Bool) (ha : a ∈ objs R) : (shade R 1 a s).1[a.toNat]? ≠ some 0 := by
 unfold shade
 split
 ·rename_i hc
  have hl := (List.getElem?_eq_some_iff.1 hc.2.2).1
  show (s.1.set a.toNat 1)[a.toNat]? ≠ some 0
  rw [List.getElem?_set_self hl]
  exact fun h => absurd (Option.some.inj h) (by decide)
 ·rename_i hc
  exact fun h => hc ⟨rfl,ha,h⟩
theorem shadeW_le (R : List Rw) (ph w : Int) (s : List Int × List Int × Bool) : CLe s.1 (shadeW R ph w s).1 := by
 unfold shadeW
 split
 ·exact shade_le _ _ _ _
 ·exact CLe.refl _
theorem beg_le (R : List Rw) : ∀ (A : List Int) (s : List Int × List Int × Bool),CLe s.1 (A.foldl (fun s a => shade R 1 a s) s).1
 | [],s => CLe.refl _
 | a :: A,s => (shade_le R 1 a s).trans (beg_le R A _)
theorem Dk.begin {R : List Rw} {ws C G A : List Int} {ov : Bool} {W : Int} (h : (C,G,ov) = begS R W A) : Dk R ws C := by
 intro a x i ha h2 hl hx hp
 have hc : C = (begS R W A).1 := congrArg Prod.fst h
 have hle := beg_le R A (List.replicate W.toNat 0,[],false)
 rw [hc] at h2
 have h3 : (List.replicate W.toNat (0 : Int))[a.toNat]? = some 2 := hle.2 _ h2
 rw [List.getElem?_replicate] at h3
 split at h3
 ·exact absurd (Option.some.inj h3) (by decide)
 ·cases h3
end Go.Proofs.YtcbombkaacjngaaGreatDoor
namespace Go.Proofs.YtcbombkaacjngaaGreatDoor
open Go Go.LX
set_option maxRecDepth 100000
set_option linter.unusedVariables false
set_option maxHeartbeats 32000000
def row (t : Int) : Nat → List Int
 | 0 => []
 | k + 1 => row t k ++ [t + k]
def i64s : List Int → List PV
 | [] => []
 | x :: l => .int .i64 (.sym x) :: i64s l
theorem i64s_length : ∀ l,(i64s l).length = l.length
 | [] => rfl
 | x :: l => by simp [i64s,i64s_length l]
theorem i64s_app : ∀ a b,i64s (a ++ b) = i64s a ++ i64s b
 | [],b => rfl
 | x :: a,b => by simp [i64s,i64s_app a b]
theorem i64s_take : ∀ (l : List Int) (k : Nat),i64s (l.take k) = (i64s l).take k
 | [],k => by simp [i64s]
 | x :: l,0 => rfl
 | x :: l,k + 1 => by simp [i64s,i64s_take l k]
theorem i64s_get : ∀ (l : List Int) (i : Nat) (x : Int),l[i]? = some x → (i64s l)[i]? = some (.int .i64 (.sym x))
 | [],i,x,h => by simp at h
 | y :: l,0,x,h => by simp at h; subst h; rfl
 | y :: l,i + 1,x,h => by simpa [i64s] using i64s_get l i x (by simpa using h)
theorem refPush_lx (A : List Int) (a m : Int) (la : List PV) (ov : Bool) (hm : m = A.length) (hla : la = i64s A) (hA8 : A.length ≤ 8) :
  CallF (fun _ => Tryz.prog) 136 [.ptr 0 (.lit 0),i6 a] [(0,.mix [.p (.vsl (.sym m) true la),.p (.bool ov)])] 1 (fun r h n => ∃ (b ov' : Bool) (m' : Int) (la' : List PV) (A' : List Int),r = .p (.bool b) ∧ h = [(0,.mix [.p (.vsl (.sym m') true la'),.p (.bool ov')])] ∧ n = 1 ∧ m' = A'.length ∧ la' = i64s A' ∧ (A.length < 8 → b = true ∧ A' = A ++ [a] ∧ ov' = ov) ∧ (8 ≤ A.length → b = false ∧ A' = A ∧ ov' = true)) := by
 refine callF_of_body tok Tryz.func136 (by kernel_rfl) rfl rfl rfl ?_; conv => cbv
 refine Br.mk (fun g => ?_) (fun g => ?_)
 ·have g : 8 ≤ m := g
  conv => cbv
  refine RetF.mk [.p (.bool false)] [(0,.mix [.p (.vsl (.sym m) true la),.p (.bool true)])] 1 (Re.at [(0,0)] []) rfl ⟨false,true,m,la,A,rfl,rfl,rfl,hm,hla,fun h => by omega,fun _ => ⟨rfl,rfl,rfl⟩⟩
 ·have g : ¬ 8 ≤ m := g
  have hlal : (la.length : Int) = m := by rw [hla,i64s_length]; omega
  conv => cbv
  refine Need.mk (by show (la.length : Int) = m * 1; omega) ?_
  conv => cbv
  refine Need.mk ⟨by show m * 8 ≤ 140737488355328; omega,by show m ≤ 9223372036854775807; omega⟩ ?_
  conv => cbv
  refine Room.new rfl ?_
  conv => cbv
  refine Room.new ⟨by show (la.length : Int) = m * 1; omega,by show (m + 1) * 8 ≤ 140737488355328; omega,by show m + 1 ≤ 9223372036854775807; omega⟩ ?_
  conv => cbv
  refine Upd.mk fun L2 hL2 => ?_
  have hL3 : L2 = i64s (A ++ [a]) := by rw [hL2,hla,i64s_app]; rfl
  conv => cbv
  refine Sum.mk fun m2 hm2 => ?_
  have hm2 : m2 = m + 1 := hm2
  conv => cbv
  refine RetF.mk [.p (.bool true)] [(0,.mix [.p (.vsl (.sym m2) true L2),.p (.bool ov)])] 1 (Re.at [(0,0)] []) rfl ⟨true,ov,m2,L2,A ++ [a],rfl,rfl,rfl,by simp; omega,hL3,fun _ => ⟨rfl,rfl,rfl⟩,fun h => by omega⟩
theorem refPop_lx (A : List Int) (m : Int) (la : List PV) (ov : Bool) (hm : m = A.length) (hla : la = i64s A) (hA8 : A.length ≤ 8) :
  CallF (fun _ => Tryz.prog) 225 [.ptr 0 (.lit 0)] [(0,.mix [.p (.vsl (.sym m) true la),.p (.bool ov)])] 1 (fun r h n => ∃ (v : Int) (b : Bool) (m' : Int) (la' : List PV) (A' : List Int),r = .tup [i6 v,.p (.bool b)] ∧ h = [(0,.mix [.p (.vsl (.sym m') true la'),.p (.bool ov)])] ∧ n = 1 ∧ m' = A'.length ∧ la' = i64s A' ∧ (A = [] ∧ v = 0 ∧ b = false ∧ A' = [] ∨ A = A' ++ [v] ∧ b = true)) := by
 refine callF_of_body tok Tryz.func225 (by kernel_rfl) rfl rfl rfl ?_; conv => cbv
 refine Fit.mk (by show (-9223372036854775808 : Int) ≤ m - 1; omega) (by show m - 1 ≤ 9223372036854775807; omega) ?_
 intro q hq
 have hq : q = m - 1 := hq
 have hlal : (la.length : Int) = m := by rw [hla,i64s_length]; omega
 conv => cbv
 refine Br.mk (fun g => ?_) (fun g => ?_)
 ·have g : q < 0 := g
  have hA0 : A = [] := List.eq_nil_of_length_eq_zero (by omega)
  conv => cbv
  refine RetF.mk [i6 0,.p (.bool false)] [(0,.mix [.p (.vsl (.sym m) true la),.p (.bool ov)])] 1 (Re.at [(0,0)] []) rfl ⟨0,false,m,la,A,rfl,rfl,rfl,hm,hla,.inl ⟨hA0,rfl,rfl,hA0⟩⟩
 ·have g : ¬ q < 0 := g
  obtain ⟨B,a,hB⟩ : ∃ B a,A = B ++ [a] := ⟨_,_,(List.dropLast_concat_getLast (by rintro rfl; simp at hm; omega)).symm⟩
  have hBl : A.length = B.length + 1 := by rw [hB]; simp
  have hAq : A[q.toNat]? = some a := by rw [hB,List.getElem?_append_right (by omega),show q.toNat - B.length = 0 by omega]; rfl
  have hcq := i64s_get A q.toNat a hAq
  rw [← hla] at hcq
  conv => cbv
  refine Need.mk ⟨by simp only [I.val]; omega,by simp only [I.val]; omega⟩ ?_
  conv => cbv
  refine Cell.at q _ hcq (by simp [I.val]) rfl ?_
  conv => cbv
  refine Need.mk ⟨by simp only [I.val]; omega,by simp only [I.val]; omega,by simp only [I.val]; omega⟩ ?_
  conv => cbv
  refine Upd.mk fun L1 hL1 => ?_
  have hL1 : L1 = i64s B := by
   rw [hL1,show ((I.lit 0).val.toNat * 1) = 0 from rfl,List.drop_zero,show ((I.sym q).val - (I.lit 0).val).toNat * 1 = B.length by simp only [I.val]; omega,hla,← i64s_take,hB,List.take_left]
  conv => cbv
  refine Sum.mk fun q2 hq2 => ?_
  have hq2 : q2 = q := by have : q2 = q - 0 := hq2; omega
  have hL1l : (L1.length : Int) = q2 := by rw [hL1,i64s_length]; omega
  conv => cbv
  refine Need.mk (by show (L1.length : Int) = q2 * 1; omega) ?_
  conv => cbv
  refine Need.mk ⟨by show q2 * 8 ≤ 140737488355328; omega,by show q2 ≤ 9223372036854775807; omega⟩ ?_
  conv => cbv
  have f1 : q2 = (B.length : Int) := by omega
  refine RetF.mk [i6 a,.p (.bool true)] [(0,.mix [.p (.vsl (.sym q2) true L1),.p (.bool ov)])] 1 (Re.at [(0,0)] []) rfl ⟨a,true,q2,L1,B,rfl,rfl,rfl,f1,hL1,.inr ⟨hB,rfl⟩⟩
end Go.Proofs.YtcbombkaacjngaaGreatDoor
namespace Go.Proofs.YtcbombkaacjngaaGreatDoor
open Go Go.LX
set_option maxRecDepth 100000
set_option linter.unusedVariables false
set_option linter.unusedSimpArgs false
set_option maxHeartbeats 32000000
theorem rok_of {R : List Rw} (h : RowsOk R) : ROk R := fun e he => ⟨(h e he).1,fun hne => by
 obtain ⟨h1,h2,_⟩ := (h e he).2 hne
 refine ⟨?_,h2⟩
 intro h0
 rw [h0] at h2
 exact hne (List.length_eq_zero_iff.1 h2)⟩
theorem slot_spec {R : List Rw} {a w : Int} {e : Rw} (h0 : 0 ≤ a) (h1 : a < 32 * R.length) (he : R[(a / 32).toNat]? = some e) (hw : w = wordsOf (clsOf e)) :
  ((w = 0 ∨ (a % 32) % w ≠ 0) → SlotAt R a 0 0 false) ∧ (w ≠ 0 → (a % 32) % w = 0 → SlotAt R a (a / 32) ((a % 32) / w) true) := by
 have hw5 := wordsOf_cases (clsOf e)
 rw [← hw] at hw5
 constructor
 ·intro hno
  refine .no (fun q' s' e' he' hs' hlt' hat' => ?_)
  have hs0 : 0 ≤ (s' : Int) * wordsOf (clsOf e') := Int.mul_nonneg (by omega) (wordsOf_bd _).1
  have : q' = (a / 32).toNat := by omega
  subst this
  rw [he] at he'
  cases he'
  rw [← hw] at hat' hs0 hlt' hs'
  rcases hno with h | h
  ·exact hs' h
  ·have : a % 32 = s' * w := by omega
   rw [this,Int.mul_emod_left] at h
   exact h rfl
 ·intro hw0 hz
  have hwz : w * ((a % 32) / w) + (a % 32) % w = a % 32 := Int.mul_ediv_add_emod (a % 32) w
  have hd0 : 0 ≤ (a % 32) / w := Int.ediv_nonneg (by omega) (by omega)
  obtain ⟨sn,hsn⟩ : ∃ sn : Nat,(sn : Int) = (a % 32) / w := ⟨((a % 32) / w).toNat,by omega⟩
  rw [← hsn] at hwz
  have hmul : (sn : Int) * w = a % 32 := by rw [Int.mul_comm]; omega
  rw [← hsn,show a / 32 = ((a / 32).toNat : Int) by omega]
  refine .is (a / 32).toNat sn e he ?_ ?_ ?_
  ·rw [← hw]; exact hw0
  ·rw [← hw,hmul]; omega
  ·rw [← hw,hmul]; omega
theorem obj_in {R : List Rw} (hR : RowsOk R) {a : Int} (h : IsObj R a) : 0 ≤ a ∧ a < 32 * R.length := by
 obtain ⟨w,h⟩ := isObj_iff.1 h
 obtain ⟨h1,h2,h3,_⟩ := h.facts hR
 omega
theorem ris_lx (R : List Rw) (vs : List Int) (n at_ W : Int) (C B V : List PV) (hC : C = cpv R) (hB : B = bpv R) (hV : V = ipv vs) (hn : n = R.length) (hR : R.length ≤ 1000) (hA : AOk R vs) (hW : W = 32 * n) : CallF (fun _ => Tryz.prog) 133 [.ptr 0 (.lit 0),i6 at_] [hpB 0 1 4 3 W,hpD 1 2 3 1 n 3 203 8 n,hpP 2 C,hpP 3 B,hpP 4 V] 5
  (fun r h n' => ∃ b : Bool,r = .p (.bool b) ∧ h = [hpB 0 1 4 3 W,hpD 1 2 3 1 n 3 203 8 n,hpP 2 C,hpP 3 B,hpP 4 V] ∧ n' = 5 ∧ (b = true ↔ IsObj R at_)) := by
 refine callF_of_body tok Tryz.func133 (by kernel_rfl) rfl rfl rfl ?_; conv => cbv
 refine Br.mk (fun g => ?_) (fun g => ?_)
 ·have g : at_ < 0 := g
  have hno : ¬ IsObj R at_ := fun h => by have := obj_in hA.rows h; omega
  conv => cbv
  refine RetF.mk [.p (.bool false)] [hpB 0 1 4 3 W,hpD 1 2 3 1 n 3 203 8 n,hpP 2 C,hpP 3 B,hpP 4 V] 5 (Re.at [(0,0),(1,1),(2,2),(3,3),(4,4)] []) rfl ⟨false,rfl,rfl,rfl,iff_of_false (by decide) hno⟩
 have g : ¬ at_ < 0 := g
 conv => cbv
 refine Br.mk (fun g2 => ?_) (fun g2 => ?_)
 ·have g2 : W ≤ at_ := g2
  have hno : ¬ IsObj R at_ := fun h => by have := obj_in hA.rows h; omega
  conv => cbv
  refine RetF.mk [.p (.bool false)] [hpB 0 1 4 3 W,hpD 1 2 3 1 n 3 203 8 n,hpP 2 C,hpP 3 B,hpP 4 V] 5 (Re.at [(0,0),(1,1),(2,2),(3,3),(4,4)] []) rfl ⟨false,rfl,rfl,rfl,iff_of_false (by decide) hno⟩
 have g2 : ¬ W ≤ at_ := g2
 conv => cbv
 have ht : Int.tdiv at_ 32 = at_ / 32 := Int.tdiv_eq_ediv_of_nonneg (by omega)
 refine Fit.mk (by show (-9223372036854775808 : Int) ≤ Int.tdiv at_ 32; omega) (by show Int.tdiv at_ 32 ≤ 9223372036854775807; omega) fun q hq => ?_
 have hq : q = at_ / 32 := (show q = Int.tdiv at_ 32 from hq).trans ht
 clear ht
 obtain ⟨e,he⟩ : ∃ e,R[q.toNat]? = some e := ⟨_,List.getElem?_eq_getElem (by omega)⟩
 obtain ⟨cv,hcv⟩ : ∃ cv,cv = clsOf e := ⟨_,rfl⟩
 obtain ⟨w,hw⟩ : ∃ w,w = wordsOf cv := ⟨_,rfl⟩
 have hcc := cpv_get he
 rw [← hC,← hcv] at hcc
 have hw5 := wordsOf_cases cv
 rw [← hw] at hw5
 obtain ⟨sp1,sp2⟩ := slot_spec (R := R) (a := at_) (w := w) (by omega) (by omega) (hq ▸ he) (by rw [hw,hcv])
 conv => cbv
 refine Need.mk ⟨by show 0 ≤ q; omega,by show q < n; omega⟩ ?_
 conv => cbv
 refine Cell.at q _ hcc (by simp [I.val]) rfl ?_
 conv => cbv
 refine callF_frame (refWordsA_lx cv w hw) [] rfl trivial rfl rfl (fun r h' n' ⟨e1,e2,e3⟩ => ?_)
 subst e1 e2 e3
 conv => cbv
 refine drawn_sound tok (by kernel_rfl) [(19,[])] [0,1,2,3,4,5,6,7,8,9,10,11,12,13,14,15,16,17,18,19,20,21] (by kernel_rfl) ?_; conv => cbv
 refine Br.mk (fun g3 => ?_) (fun g3 => ?_)
 case refine_2 =>
  have g3 : ¬ 0 < w := g3
  have hno : ¬ IsObj R at_ := by
   rcases obj_slot hA.rows (sp1 (.inl (by omega))) with ⟨h,_⟩ | ⟨_,h⟩
   ·cases h
   ·exact h
  conv => cbv
  refine RetF.mk [.p (.bool false)] [hpB 0 1 4 3 W,hpD 1 2 3 1 n 3 203 8 n,hpP 2 C,hpP 3 B,hpP 4 V] 5 (Re.at [(0,0),(1,1),(2,2),(3,3),(4,4)] []) rfl ⟨false,rfl,rfl,rfl,iff_of_false (by decide) hno⟩
 have g3 : 0 < w := g3
 conv => cbv
 refine Sum.mk fun z hz => ?_
 have hz : z = at_ % 32 := (show z = Int.tmod at_ 32 from hz).trans (Int.tmod_eq_emod_of_nonneg (by omega))
 conv => cbv
 refine Need.mk (show w ≠ 0 by omega) ?_
 conv => cbv
 refine Sum.mk fun y hy => ?_
 have hy : y = z % w := (show y = Int.tmod z w from hy).trans (Int.tmod_eq_emod_of_nonneg (by omega))
 conv => cbv
 refine Br.mk (fun g4 => ?_) (fun g4 => ?_)
 case refine_2 =>
  have g4 : ¬ y = 0 := g4
  have hno : ¬ IsObj R at_ := by
   rcases obj_slot hA.rows (sp1 (.inr (by rw [← hz,← hy]; exact g4))) with ⟨h,_⟩ | ⟨_,h⟩
   ·cases h
   ·exact h
  conv => cbv
  refine RetF.mk [.p (.bool false)] [hpB 0 1 4 3 W,hpD 1 2 3 1 n 3 203 8 n,hpP 2 C,hpP 3 B,hpP 4 V] 5 (Re.at [(0,0),(1,1),(2,2),(3,3),(4,4)] []) rfl ⟨false,rfl,rfl,rfl,iff_of_false (by decide) hno⟩
 have g4 : y = 0 := g4
 have hsl := sp2 (by omega) (by rw [← hz,← hy]; exact g4)
 rw [← hz,← hq] at hsl
 have hd0 : 0 ≤ z / w := Int.ediv_nonneg (by omega) (by omega)
 have hdz : z / w ≤ z := Int.ediv_le_self _ (by omega)
 have ht2 : Int.tdiv z w = z / w := Int.tdiv_eq_ediv_of_nonneg (by omega)
 have hiff : UsedAt R q (z / w) ↔ IsObj R at_ := by
  rcases obj_slot hA.rows hsl with ⟨_,h1,h2,h3,h4,h5,e',h6,h7,h8⟩ | ⟨h,_⟩
  ·rw [h8]
   constructor
   ·rintro ⟨e2,_,he2,_,hs2⟩
    rw [h6] at he2; cases he2; exact hs2
   ·intro hs2; exact ⟨e',h1,h6,h2,hs2⟩
  ·cases h
 conv => cbv
 refine Sum.mk fun z2 hz2 => ?_
 have hz2 : z2 = z := (show z2 = Int.tmod at_ 32 from hz2).trans ((Int.tmod_eq_emod_of_nonneg (by omega)).trans hz.symm)
 conv => cbv
 refine Need.mk (show w ≠ 0 by omega) ?_
 conv => cbv
 have ht3 : Int.tdiv z2 w = z / w := by rw [hz2]; exact ht2
 refine Fit.mk (by show (-9223372036854775808 : Int) ≤ Int.tdiv z2 w; omega) (by show Int.tdiv z2 w ≤ 9223372036854775807; omega) fun s0 hs0 => ?_
 have hs0 : s0 = z / w := (show s0 = Int.tdiv z2 w from hs0).trans ht3
 rw [← hs0] at hiff
 conv => cbv
 refine cfr (rused_lx q s0 R n C B hC hB hn hR (rok_of hA.rows)) [(0,1),(1,2),(2,3)] (fun r h' n' hrr => ?_)
 obtain ⟨b,e1,e2,e3,hb⟩ := hrr
 subst e1 e2 e3
 have hbi := hb.trans hiff
 clear hb
 cases b with
 | true =>
  conv => cbv
  refine RetF.mk [.p (.bool true)] [hpB 0 1 4 3 W,hpD 1 2 3 1 n 3 203 8 n,hpP 2 C,hpP 3 B,hpP 4 V] 5 (Re.at [(0,0),(1,1),(2,2),(3,3),(4,4)] []) rfl ⟨true,rfl,rfl,rfl,hbi⟩
 | false =>
  conv => cbv
  refine RetF.mk [.p (.bool false)] [hpB 0 1 4 3 W,hpD 1 2 3 1 n 3 203 8 n,hpP 2 C,hpP 3 B,hpP 4 V] 5 (Re.at [(0,0),(1,1),(2,2),(3,3),(4,4)] []) rfl ⟨false,rfl,rfl,rfl,hbi⟩
theorem rkind_lx (R : List Rw) (vs : List Int) (n at_ W : Int) (C B V : List PV) (hC : C = cpv R) (hB : B = bpv R) (hV : V = ipv vs) (hn : n = R.length) (hR : R.length ≤ 1000) (hA : AOk R vs) (hW : W = 32 * n) : CallF (fun _ => Tryz.prog) 83 [.ptr 0 (.lit 0),i6 at_] [hpB 0 1 4 3 W,hpD 1 2 3 1 n 3 203 8 n,hpP 2 C,hpP 3 B,hpP 4 V] 5
  (fun r h n' => ∃ v : Int,r = .p (.int .i64 (.sym v)) ∧ h = [hpB 0 1 4 3 W,hpD 1 2 3 1 n 3 203 8 n,hpP 2 C,hpP 3 B,hpP 4 V] ∧ n' = 5 ∧ KindR R vs at_ v) := by
 have hlen := hA.len
 refine callF_of_body tok Tryz.func83 (by kernel_rfl) rfl rfl rfl ?_; conv => cbv
 refine cfr (ris_lx R vs n at_ W C B V hC hB hV hn hR hA hW) [(0,0),(1,1),(2,2),(3,3),(4,4)] (fun r h' n' hrr => ?_)
 obtain ⟨b,e1,e2,e3,hb⟩ := hrr
 subst e1 e2 e3
 cases b with
 | false =>
  have hno : ¬ IsObj R at_ := fun h => by cases hb.2 h
  conv => cbv
  refine RetF.mk [i6 0] [hpB 0 1 4 3 W,hpD 1 2 3 1 n 3 203 8 n,hpP 2 C,hpP 3 B,hpP 4 V] 5 (Re.at [(0,0),(1,1),(2,2),(3,3),(4,4)] []) rfl ⟨0,rfl,rfl,rfl,.no hno⟩
 | true =>
  have hobj := hb.1 rfl
  conv => cbv
  obtain ⟨k,l,hk⟩ := Kept.of hA hobj
  have hk' := hk
  have hb2 := hk.bounds hA
  obtain ⟨w,_,hx,q1,q2,q3,_⟩ := hk'
  have hc := ipv_get hx
  rw [← hV] at hc
  have hh := (hdr_of q1 q2 q3).1
  refine Need.mk ⟨hb2.1,by show at_ < W; omega⟩ ?_
  conv => cbv
  refine Cell.at at_ _ hc (by simp [I.val]) rfl ?_
  conv => cbv
  refine Sum.mk fun v hv => ?_
  have hv : v = k := (show v = Int.tmod (k + 16 * l) 16 from hv).trans hh
  have hK : KindR R vs at_ v := by rw [hv]; exact .is k l hk
  conv => cbv
  refine RetF.mk [i6 v] [hpB 0 1 4 3 W,hpD 1 2 3 1 n 3 203 8 n,hpP 2 C,hpP 3 B,hpP 4 V] 5 (Re.at [(0,0),(1,1),(2,2),(3,3),(4,4)] []) rfl ⟨v,rfl,rfl,rfl,hK⟩
theorem rlen_lx (R : List Rw) (vs : List Int) (n at_ W : Int) (C B V : List PV) (hC : C = cpv R) (hB : B = bpv R) (hV : V = ipv vs) (hn : n = R.length) (hR : R.length ≤ 1000) (hA : AOk R vs) (hW : W = 32 * n) : CallF (fun _ => Tryz.prog) 84 [.ptr 0 (.lit 0),i6 at_] [hpB 0 1 4 3 W,hpD 1 2 3 1 n 3 203 8 n,hpP 2 C,hpP 3 B,hpP 4 V] 5
  (fun r h n' => ∃ v : Int,r = .p (.int .i64 (.sym v)) ∧ h = [hpB 0 1 4 3 W,hpD 1 2 3 1 n 3 203 8 n,hpP 2 C,hpP 3 B,hpP 4 V] ∧ n' = 5 ∧ LenR R vs at_ v) := by
 have hlen := hA.len
 refine callF_of_body tok Tryz.func84 (by kernel_rfl) rfl rfl rfl ?_; conv => cbv
 refine cfr (ris_lx R vs n at_ W C B V hC hB hV hn hR hA hW) [(0,0),(1,1),(2,2),(3,3),(4,4)] (fun r h' n' hrr => ?_)
 obtain ⟨b,e1,e2,e3,hb⟩ := hrr
 subst e1 e2 e3
 cases b with
 | false =>
  have hno : ¬ IsObj R at_ := fun h => by cases hb.2 h
  conv => cbv
  refine RetF.mk [i6 0] [hpB 0 1 4 3 W,hpD 1 2 3 1 n 3 203 8 n,hpP 2 C,hpP 3 B,hpP 4 V] 5 (Re.at [(0,0),(1,1),(2,2),(3,3),(4,4)] []) rfl ⟨0,rfl,rfl,rfl,.no hno⟩
 | true =>
  have hobj := hb.1 rfl
  conv => cbv
  obtain ⟨k,l,hk⟩ := Kept.of hA hobj
  have hk' := hk
  have hb2 := hk.bounds hA
  obtain ⟨w,_,hx,q1,q2,q3,_⟩ := hk'
  have hc := ipv_get hx
  rw [← hV] at hc
  have hh := (hdr_of q1 q2 q3).2
  refine Need.mk ⟨hb2.1,by show at_ < W; omega⟩ ?_
  conv => cbv
  refine Cell.at at_ _ hc (by simp [I.val]) rfl ?_
  conv => cbv
  refine Fit.mk (by show (-9223372036854775808 : Int) ≤ Int.tdiv (k + 16 * l) 16; omega) (by show Int.tdiv (k + 16 * l) 16 ≤ 9223372036854775807; omega) fun v hv => ?_
  have hv : v = l := (show v = Int.tdiv (k + 16 * l) 16 from hv).trans hh
  have hK : LenR R vs at_ v := by rw [hv]; exact .is k l hk
  conv => cbv
  refine RetF.mk [i6 v] [hpB 0 1 4 3 W,hpD 1 2 3 1 n 3 203 8 n,hpP 2 C,hpP 3 B,hpP 4 V] 5 (Re.at [(0,0),(1,1),(2,2),(3,3),(4,4)] []) rfl ⟨v,rfl,rfl,rfl,hK⟩
theorem rload_lx (i : Int) (R : List Rw) (vs : List Int) (n at_ W : Int) (C B V : List PV) (hC : C = cpv R) (hB : B = bpv R) (hV : V = ipv vs) (hn : n = R.length) (hR : R.length ≤ 1000) (hA : AOk R vs) (hW : W = 32 * n) : CallF (fun _ => Tryz.prog) 86 [.ptr 0 (.lit 0),i6 at_,i6 i] [hpB 0 1 4 3 W,hpD 1 2 3 1 n 3 203 8 n,hpP 2 C,hpP 3 B,hpP 4 V] 5
  (fun r h n' => ∃ x e : Int,r = .tup [i6 x,i6 e] ∧ h = [hpB 0 1 4 3 W,hpD 1 2 3 1 n 3 203 8 n,hpP 2 C,hpP 3 B,hpP 4 V] ∧ n' = 5 ∧ Loaded R vs at_ i x e) := by
 have hlen := hA.len
 refine callF_of_body tok Tryz.func86 (by kernel_rfl) rfl rfl rfl ?_; conv => cbv
 refine cfr (ris_lx R vs n at_ W C B V hC hB hV hn hR hA hW) [(0,0),(1,1),(2,2),(3,3),(4,4)] (fun r h' n' hrr => ?_)
 obtain ⟨b,e1,e2,e3,hb⟩ := hrr
 subst e1 e2 e3
 cases b with
 | false =>
  have hno : ¬ IsObj R at_ := fun h => by cases hb.2 h
  conv => cbv
  refine RetF.mk [i6 0,i6 8] [hpB 0 1 4 3 W,hpD 1 2 3 1 n 3 203 8 n,hpP 2 C,hpP 3 B,hpP 4 V] 5 (Re.at [(0,0),(1,1),(2,2),(3,3),(4,4)] []) rfl ⟨0,8,rfl,rfl,rfl,.none hno⟩
 | true =>
  have hobj := hb.1 rfl
  conv => cbv
  obtain ⟨k,l,hk⟩ := Kept.of hA hobj
  have hb2 := hk.bounds hA
  refine Br.mk (fun g => ?_) (fun g => ?_)
  ·have g : i < 0 := g
   conv => cbv
   refine RetF.mk [i6 0,i6 1] [hpB 0 1 4 3 W,hpD 1 2 3 1 n 3 203 8 n,hpP 2 C,hpP 3 B,hpP 4 V] 5 (Re.at [(0,0),(1,1),(2,2),(3,3),(4,4)] []) rfl ⟨0,1,rfl,rfl,rfl,.arg k l hk (by omega)⟩
  have g : ¬ i < 0 := g
  conv => cbv
  refine cfr (rlen_lx R vs n at_ W C B V hC hB hV hn hR hA hW) [(0,0),(1,1),(2,2),(3,3),(4,4)] (fun r h' n' hrr => ?_)
  obtain ⟨v,e1,e2,e3,hL⟩ := hrr
  subst e1 e2 e3
  conv => cbv
  have hvl : v = l := lenR_of6 hk hL
  refine Br.mk (fun g2 => ?_) (fun g2 => ?_)
  ·have g2 : v ≤ i := g2
   conv => cbv
   refine RetF.mk [i6 0,i6 1] [hpB 0 1 4 3 W,hpD 1 2 3 1 n 3 203 8 n,hpP 2 C,hpP 3 B,hpP 4 V] 5 (Re.at [(0,0),(1,1),(2,2),(3,3),(4,4)] []) rfl ⟨0,1,rfl,rfl,rfl,.arg k l hk (by omega)⟩
  have g2 : ¬ v ≤ i := g2
  obtain ⟨x,hx⟩ : ∃ x,vs[(at_ + 1 + i).toNat]? = some x := ⟨_,List.getElem?_eq_getElem (by omega)⟩
  have hc := ipv_get hx
  rw [← hV] at hc
  conv => cbv
  refine Fit.mk (by show (-9223372036854775808 : Int) ≤ at_ + 1; omega) (by show at_ + 1 ≤ 9223372036854775807; omega) fun a1 ha1 => ?_
  have ha1 : a1 = at_ + 1 := ha1
  conv => cbv
  refine Fit.mk (by show (-9223372036854775808 : Int) ≤ a1 + i; omega) (by show a1 + i ≤ 9223372036854775807; omega) fun a2 ha2 => ?_
  have ha2 : a2 = a1 + i := ha2
  have ha2 : a2 = at_ + 1 + i := by omega
  conv => cbv
  refine Need.mk ⟨by show 0 ≤ a2; omega,by show a2 < W; omega⟩ ?_
  conv => cbv
  refine Cell.at a2 _ hc (by simp [I.val]) (by omega) ?_
  conv => cbv
  refine RetF.mk [i6 x,i6 0] [hpB 0 1 4 3 W,hpD 1 2 3 1 n 3 203 8 n,hpP 2 C,hpP 3 B,hpP 4 V] 5 (Re.at [(0,0),(1,1),(2,2),(3,3),(4,4)] []) rfl ⟨x,0,rfl,rfl,rfl,.ok k l x hk (by omega) hx⟩
theorem rstore_lx (i x : Int) (R : List Rw) (vs : List Int) (n at_ W : Int) (C B V : List PV) (hC : C = cpv R) (hB : B = bpv R) (hV : V = ipv vs) (hn : n = R.length) (hR : R.length ≤ 1000) (hA : AOk R vs) (hW : W = 32 * n) : CallF (fun _ => Tryz.prog) 60 [.ptr 0 (.lit 0),i6 at_,i6 i,i6 x] [hpB 0 1 4 3 W,hpD 1 2 3 1 n 3 203 8 n,hpP 2 C,hpP 3 B,hpP 4 V] 5
  (fun r h n' => ∃ (e : Int) (vs' : List Int) (V' : List PV),r = .p (.int .i64 (.sym e)) ∧ h = [hpB 0 1 4 3 W,hpD 1 2 3 1 n 3 203 8 n,hpP 2 C,hpP 3 B,hpP 4 V'] ∧ n' = 5 ∧ V' = ipv vs' ∧ Stored R vs at_ i x e vs') := by
 have hlen := hA.len
 have hVl : V.length = vs.length := by rw [hV,ipv_length]
 refine callF_of_body tok Tryz.func60 (by kernel_rfl) rfl rfl rfl ?_; conv => cbv
 refine cfr (rload_lx i R vs n at_ W C B V hC hB hV hn hR hA hW) [(0,0),(1,1),(2,2),(3,3),(4,4)] (fun r h' n' hrr => ?_)
 obtain ⟨y,e,e1,e2,e3,hLd⟩ := hrr
 subst e1 e2 e3
 cases hLd with
 | none hno =>
  conv => cbv
  refine Br.mk (fun g => ?_) (fun g => ?_)
  case refine_1 =>
   have gf : False := absurd g (by decide)
   cases gf
  conv => cbv
  refine RetF.mk [i6 8] [hpB 0 1 4 3 W,hpD 1 2 3 1 n 3 203 8 n,hpP 2 C,hpP 3 B,hpP 4 V] 5 (Re.at [(0,0),(1,1),(2,2),(3,3),(4,4)] []) rfl ⟨8,vs,V,rfl,rfl,rfl,hV,.none hno⟩
 | arg k l hk hi =>
  conv => cbv
  refine Br.mk (fun g => ?_) (fun g => ?_)
  case refine_1 =>
   have gf : False := absurd g (by decide)
   cases gf
  conv => cbv
  refine RetF.mk [i6 1] [hpB 0 1 4 3 W,hpD 1 2 3 1 n 3 203 8 n,hpP 2 C,hpP 3 B,hpP 4 V] 5 (Re.at [(0,0),(1,1),(2,2),(3,3),(4,4)] []) rfl ⟨1,vs,V,rfl,rfl,rfl,hV,.arg k l hk hi⟩
 | ok k l _ hk hi hx =>
  conv => cbv
  refine Br.mk (fun g => ?_) (fun g => ?_)
  case refine_2 =>
   have gf : False := g rfl
   cases gf
  conv => cbv
  have hb2 := hk.bounds hA
  refine Fit.mk (by show (-9223372036854775808 : Int) ≤ at_ + 1; omega) (by show at_ + 1 ≤ 9223372036854775807; omega) fun a1 ha1 => ?_
  have ha1 : a1 = at_ + 1 := ha1
  conv => cbv
  refine Fit.mk (by show (-9223372036854775808 : Int) ≤ a1 + i; omega) (by show a1 + i ≤ 9223372036854775807; omega) fun a2 ha2 => ?_
  have ha2 : a2 = a1 + i := ha2
  have ha2 : a2 = at_ + 1 + i := by omega
  conv => cbv
  refine Need.mk ⟨by show 0 ≤ a2; omega,by show a2 < W; omega⟩ ?_
  conv => cbv
  refine Need.mk (by show a2 + ((1 : Nat) : Int) ≤ (V.length : Int); omega) ?_
  conv => cbv
  refine Upd.mk fun V2 hV2 => ?_
  have hV2 : V2 = updL V a2.toNat [.int .i64 (.sym x)] := hV2
  have hV3 : V2 = ipv (vs.set (at_ + 1 + i).toNat x) := by rw [hV2,hV,updL_ipv,ha2]
  clear hV2
  conv => cbv
  refine RetF.mk [i6 0] [hpB 0 1 4 3 W,hpD 1 2 3 1 n 3 203 8 n,hpP 2 C,hpP 3 B,hpP 4 V2] 5 (Re.at [(0,0),(1,1),(2,2),(3,3),(4,4)] []) rfl ⟨0,_,V2,rfl,rfl,rfl,hV3,.ok k l hk hi⟩
theorem obj_at {R : List Rw} (hR : RowsOk R) {a : Int} (h : IsObj R a) : ∃ (s : Nat) (e : Rw),R[(a / 32).toNat]? = some e ∧ clsOf e = e.1 ∧ wordsOf e.1 ≠ 0 ∧ e.2[s]? = some true ∧ a = 32 * (a / 32) + s * wordsOf e.1 := by
 obtain ⟨q,s,e,he,hs,hat⟩ := h
 have hne : e.2 ≠ [] := by intro e0; rw [e0] at hs; simp at hs
 obtain ⟨g1,g2,_⟩ := (hR _ (List.mem_of_getElem? he)).2 hne
 have hsl := (List.getElem?_eq_some_iff.1 hs).1
 have k2 := slots_words g1 (s := s) (by omega)
 have k3 : 0 ≤ (s : Int) * wordsOf e.1 := Int.mul_nonneg (by omega) (wordsOf_bd _).1
 have w1 := wordsOf_cases e.1
 have hq : a / 32 = q := by omega
 refine ⟨s,e,by rw [hq]; exact he,?_,g1,hs,by rw [hq]; exact hat⟩
 unfold clsOf
 first | rw [if_neg hne] | (split <;> simp_all)
theorem rfreeA_lx (R : List Rw) (vs : List Int) (n at_ W : Int) (C B V : List PV) (hC : C = cpv R) (hB : B = bpv R) (hV : V = ipv vs) (hn : n = R.length) (hR : R.length ≤ 1000) (hA : AOk R vs) (hW : W = 32 * n) : CallF (fun _ => Tryz.prog) 149 [.ptr 0 (.lit 0),i6 at_] [hpB 0 1 4 3 W,hpD 1 2 3 1 n 3 203 8 n,hpP 2 C,hpP 3 B,hpP 4 V] 5
  (fun r h n' => ∃ (e : Int) (R' : List Rw) (C' B' : List PV),r = .p (.int .i64 (.sym e)) ∧ h = [hpB 0 1 4 3 W,hpD 1 2 3 1 n 3 203 8 n,hpP 2 C',hpP 3 B',hpP 4 V] ∧ n' = 5 ∧ C' = cpv R' ∧ B' = bpv R' ∧ Freet R at_ e R') := by
 have hlen := hA.len
 refine callF_of_body tok Tryz.func149 (by kernel_rfl) rfl rfl rfl ?_; conv => cbv
 refine cfr (ris_lx R vs n at_ W C B V hC hB hV hn hR hA hW) [(0,0),(1,1),(2,2),(3,3),(4,4)] (fun r h' n' hrr => ?_)
 obtain ⟨b,e1,e2,e3,hb⟩ := hrr
 subst e1 e2 e3
 cases b with
 | false =>
  have hno : ¬ IsObj R at_ := fun h => by cases hb.2 h
  conv => cbv
  refine RetF.mk [i6 8] [hpB 0 1 4 3 W,hpD 1 2 3 1 n 3 203 8 n,hpP 2 C,hpP 3 B,hpP 4 V] 5 (Re.at [(0,0),(1,1),(2,2),(3,3),(4,4)] []) rfl ⟨8,R,C,B,rfl,rfl,rfl,hC,hB,.none hno⟩
 | true =>
  have hobj := hb.1 rfl
  conv => cbv
  have hin := obj_in hA.rows hobj
  have ht : Int.tdiv at_ 32 = at_ / 32 := Int.tdiv_eq_ediv_of_nonneg (by omega)
  refine Fit.mk (by show (-9223372036854775808 : Int) ≤ Int.tdiv at_ 32; omega) (by show Int.tdiv at_ 32 ≤ 9223372036854775807; omega) fun q hq => ?_
  have hq : q = at_ / 32 := (show q = Int.tdiv at_ 32 from hq).trans ht
  clear ht
  conv => cbv
  obtain ⟨sn,e,he,hce,hw0,hs1,hat⟩ := obj_at hA.rows hobj
  rw [← hq] at he hat
  obtain ⟨cv,hcv⟩ : ∃ cv,cv = clsOf e := ⟨_,rfl⟩
  obtain ⟨w,hw⟩ : ∃ w,w = wordsOf cv := ⟨_,rfl⟩
  have hcc := cpv_get he
  rw [← hC,← hcv] at hcc
  have hwe : wordsOf e.1 = w := by rw [hw,hcv,hce]
  rw [hwe] at hw0 hat
  have hw5 := wordsOf_cases cv
  rw [← hw] at hw5
  have hmul0 : 0 ≤ (sn : Int) * w := Int.mul_nonneg (by omega) (by omega)
  have hdiv : (sn : Int) * w / w = sn := Int.mul_ediv_cancel _ hw0
  obtain ⟨sw,hsw⟩ : ∃ sw,sw = (sn : Int) * w := ⟨_,rfl⟩
  rw [← hsw] at hmul0 hdiv hat
  obtain ⟨si,hsi⟩ : ∃ si : Int,si = sn := ⟨_,rfl⟩
  rw [← hsi] at hdiv
  have hsi0 : 0 ≤ si := by omega
  have ht : Int.tdiv sw w = sw / w := Int.tdiv_eq_ediv_of_nonneg (by omega)
  have hle : sw / w ≤ sw := Int.ediv_le_self _ (by omega)
  rw [hdiv] at ht hle
  refine drawn_sound tok (by kernel_rfl) [(17,[6,5,4,3,2,1,0]),(19,[])] [0,1,2,3,4,5,6,7,8,9,10,11,12,13,14,15,16,17,18,19] (by kernel_rfl) ?_; conv => cbv
  refine Sum.mk fun z hz => ?_
  have hz : z = at_ % 32 := (show z = Int.tmod at_ 32 from hz).trans (Int.tmod_eq_emod_of_nonneg (by omega))
  have hz : z = sw := by omega
  conv => cbv
  refine Need.mk ⟨by show 0 ≤ q; omega,by show q < n; omega⟩ ?_
  conv => cbv
  refine Cell.at q _ hcc (by simp [I.val]) rfl ?_
  conv => cbv
  refine callF_frame (refWordsA_lx cv w hw) [] rfl trivial rfl rfl (fun r h' n' ⟨e1,e2,e3⟩ => ?_)
  subst e1 e2 e3
  conv => cbv
  refine Need.mk (show w ≠ 0 by omega) ?_
  conv => cbv
  have ht3 : Int.tdiv z w = si := by rw [hz]; exact ht
  refine Fit.mk (by show (-9223372036854775808 : Int) ≤ Int.tdiv z w; omega) (by show Int.tdiv z w ≤ 9223372036854775807; omega) fun s0 hs0 => ?_
  have hs0 : s0 = si := (show s0 = Int.tdiv z w from hs0).trans ht3
  conv => cbv
  refine cfr (rfree_lx q s0 R n C B hC hB hn hR (rok_of hA.rows)) [(0,1),(1,2),(2,3)] (fun r h' n' hrr => ?_)
  obtain ⟨b,R2,C2,B2,e1,e2,e3,hC2,hB2,hF⟩ := hrr
  subst e1 e2 e3
  have hsn : s0.toNat = sn := by omega
  have hFr : Freet R at_ 0 R2 := by
   cases hF with
   | no hno => exact absurd ⟨e,by omega,he,by omega,by rw [hsn]; exact hs1⟩ hno
   | yes e' _ he' _ hs' =>
    rw [he] at he'; cases he'
    exact .ok q.toNat s0.toNat e he hs' (by rw [hwe,hsn,← hsw,show (q.toNat : Int) = q by omega]; exact hat)
  conv => cbv
  refine RetF.mk [i6 0] [hpB 0 1 4 3 W,hpD 1 2 3 1 n 3 203 8 n,hpP 2 C2,hpP 3 B2,hpP 4 V] 5 (Re.at [(0,0),(1,1),(2,2),(3,3),(4,4)] []) rfl ⟨0,R2,C2,B2,rfl,rfl,rfl,hC2,hB2,hFr⟩
theorem rnewA_lx (n W : Int) (h2 : 2 ≤ n) (h8 : n ≤ 128) (hW : W = 32 * n) : CallF (fun _ => Tryz.prog) 131 [i6 n] [] 0
  (fun r h m => ∃ C B V : List PV,r = .tup [.ptr 0 (.lit 0),.p (.int .i64 (.lit 0))] ∧ h = [hpB 0 1 4 3 W,hpD 1 2 3 1 n 3 203 8 n,hpP 2 C,hpP 3 B,hpP 4 V] ∧ m = 5 ∧ C = cpv (List.replicate n.toNat (0,[])) ∧ B = bpv (List.replicate n.toNat (0,[])) ∧ V = ipv (List.replicate W.toNat 0)) := by
 refine callF_of_body tok Tryz.func131 (by kernel_rfl) rfl rfl rfl ?_; conv => cbv
 refine callF_frame (rnew_lx n ⟨h2,h8⟩) [] rfl trivial rfl rfl (fun r h' n' hrr => ?_)
 obtain ⟨C,B,e1,e2,e3,hC,hB⟩ := hrr
 subst e1 e2 e3
 obtain ⟨V,hV⟩ : ∃ V,V = ipv (List.replicate W.toNat 0) := ⟨_,rfl⟩
 conv => cbv
 refine Fit.mk (by show (-9223372036854775808 : Int) ≤ n * 32; omega) (by show n * 32 ≤ 9223372036854775807; omega) fun v hv => ?_
 have hv : v = n * 32 := hv
 have hvW : v = W := by omega
 conv => cbv
 refine Need.mk ⟨by show 0 ≤ v; omega,Int.le_refl _,by show v * 8 ≤ 140737488355328; omega,by show v ≤ 9223372036854775807; omega⟩ ?_
 conv => cbv
 refine Upd.mk fun D0 hD0 => ?_
 have hle : pvles D0 V := by
  have hD0 : D0 = repsP [.int .i64 (.lit 0)] v.toNat := hD0
  rw [hD0,hV,hvW]; exact zero_ipv _
 clear hD0
 unfold pvles at hle
 conv => cbv
 refine RetF.mk [.ptr 0 (.lit 0),.p (.int .i64 (.lit 0))] [hpB 0 1 4 3 W,hpD 1 2 3 1 n 3 203 8 n,hpP 2 C,hpP 3 B,hpP 4 V] 5 (Re.at [(4,0),(0,1),(1,2),(2,3),(3,4)] []) rfl ⟨C,B,V,rfl,rfl,rfl,hC,hB,hV⟩
theorem rclassOf_lx (n : Int) : CallF (fun _ => Tryz.prog) 72 [i6 n] [] 0 (fun r h m => ∃ (c : Int) (b : Bool),r = .tup [i6 c,.p (.bool b)] ∧ h = [] ∧ m = 0 ∧ OfR n c b) := by
 refine callF_of_body tok Tryz.func72 (by kernel_rfl) rfl rfl rfl ?_; conv => cbv
 refine LoopF.mk (fun k s => ∃ c : Int,s = ⟨.p (.int .i64 (.sym n)) :: (undefs 3 ++ .p (.int .i64 (.sym c)) :: undefs 13),[],0⟩ ∧ 0 ≤ c ∧ c ≤ 4 ∧ (1 ≤ c → 4 ≤ n) ∧ (2 ≤ c → 8 ≤ n) ∧ (3 ≤ c → 16 ≤ n) ∧ (4 ≤ c → 32 ≤ n) ∧ k = (4 - c).toNat) 4 _
  (Re.at [] []) ⟨0,rfl,by omega,by omega,by omega,by omega,by omega,by omega,by omega⟩ ?_
 rintro k s ⟨c,rfl,h0,h4,q1,q2,q3,q4,hk⟩
 conv => cbv
 refine Br.mk (fun g => ?_) (fun g => ?_)
 case refine_2 =>
  have g : ¬ c < 4 := g
  have q : OfR n 0 false := .no (by omega)
  conv => cbv
  refine RetF.mk [i6 0,.p (.bool false)] [] 0 (Re.at [] []) rfl ⟨0,false,rfl,rfl,rfl,q⟩
 have g : c < 4 := g
 conv => cbv
 refine Br.mk (fun g2 => ?_) (fun g2 => ?_)
 case refine_2 =>
  have g2 : ¬ 0 ≤ n := g2
  have q : OfR n 0 false := .no (by omega)
  conv => cbv
  refine RetF.mk [i6 0,.p (.bool false)] [] 0 (Re.at [] []) rfl ⟨0,false,rfl,rfl,rfl,q⟩
 have g2 : 0 ≤ n := g2
 obtain ⟨k',rfl⟩ : ∃ k',k = k' + 1 := ⟨k - 1,by omega⟩
 obtain ⟨w,hw⟩ : ∃ w,w = wordsOf c := ⟨_,rfl⟩
 have hw4 : c = 0 ∧ w = 4 ∨ c = 1 ∧ w = 8 ∨ c = 2 ∧ w = 16 ∨ c = 3 ∧ w = 32 := by
  have : c = 0 ∨ c = 1 ∨ c = 2 ∨ c = 3 := by omega
  rcases this with e | e | e | e <;> (rw [e] at hw; rw [hw,e]; decide)
 conv => cbv
 refine callF_frame (refWordsA_lx c w hw) [] rfl trivial rfl rfl (fun r h' n' ⟨e1,e2,e3⟩ => ?_)
 subst e1 e2 e3
 conv => cbv
 refine Br.mk (fun g3 => ?_) (fun g3 => ?_)
 ·have g3 : n < w := g3
  have hc : c = ofN n := by
   unfold ofN
   rcases hw4 with ⟨e1,e2⟩ | ⟨e1,e2⟩ | ⟨e1,e2⟩ | ⟨e1,e2⟩
   ·rw [if_pos (by omega)]; exact e1
   ·rw [if_neg (by omega),if_pos (by omega)]; exact e1
   ·rw [if_neg (by omega),if_neg (by omega),if_pos (by omega)]; exact e1
   ·rw [if_neg (by omega),if_neg (by omega),if_neg (by omega)]; exact e1
  have qq : OfR n c true := .yes c hc (by omega)
  conv => cbv
  refine RetF.mk [i6 c,.p (.bool true)] [] 0 (Re.at [] []) rfl ⟨c,true,rfl,rfl,rfl,qq⟩
 ·have g3 : ¬ n < w := g3
  conv => cbv
  refine Fit.mk (by show (-9223372036854775808 : Int) ≤ c + 1; omega) (by show c + 1 ≤ 9223372036854775807; omega) fun c2 hc2 => ?_
  have hc2 : c2 = c + 1 := hc2
  conv => cbv
  refine Again.mk k' _ (Nat.lt_succ_self _) (Re.at [] []) ⟨c2,rfl,by omega,by omega,by omega,by omega,by omega,by omega,by omega⟩
theorem robjects_lx (m : Int) (R : List Rw) (vs : List Int) (n W : Int) (C B V : List PV) (hC : C = cpv R) (hB : B = bpv R) (hV : V = ipv vs) (hn : n = R.length) (hR : R.length ≤ 1000) (hA : AOk R vs) (hW : W = 32 * n) (hm : m = objCount R) : CallF (fun _ => Tryz.prog) 57 [.ptr 0 (.lit 0)] [hpB 0 1 4 3 W,hpD 1 2 3 1 n 3 203 8 n,hpP 2 C,hpP 3 B,hpP 4 V] 5
  (fun r h n' => ∃ O : List PV,r = .sl 5 3 1 (.lit 0) (.sym m) ∧ h = [hpB 0 1 4 3 W,hpD 1 2 3 1 n 3 203 8 n,hpP 2 C,hpP 3 B,hpP 4 V,hpP 5 O] ∧ n' = 6 ∧ O = ipv (objsTo R R.length)) := by
 have hlen := hA.len
 obtain ⟨gl,hg⟩ : ∃ gl : List Int → Int,∀ l,gl l = l.length := ⟨_,fun _ => rfl⟩
 have g0 : gl [] = 0 := by rw [hg]; rfl
 have P0 : (∀ x,x ∈ ([] : List Int) ↔ IsObj R x ∧ x < 0) := fun x => ⟨fun h => (by cases h),fun ⟨h,h2⟩ => by have := obj_in hA.rows h; omega⟩
 refine callF_of_body tok Tryz.func57 (by kernel_rfl) rfl rfl rfl ?_; conv => cbv
 refine LoopF.mk (fun k s => ∃ (a j : Int) (O : List PV) (l : List Int),s = ⟨.ptr 0 (.lit 0) :: (undefs 2 ++ .sl 5 3 1 (.lit 0) (.sym j) :: .p (.int .i64 (.sym a)) :: undefs 17),[hpB 0 1 4 3 W,hpD 1 2 3 1 n 3 203 8 n,hpP 2 C,hpP 3 B,hpP 4 V,hpP 5 O],6⟩ ∧ O = ipv l ∧ j = gl l ∧ l.Pairwise (· < ·) ∧ (∀ x,x ∈ l ↔ IsObj R x ∧ x < a) ∧ 0 ≤ a ∧ a ≤ W ∧ 0 ≤ j ∧ j ≤ a ∧ k = (W - a).toNat) W.toNat _
  (Re.at [(0,0),(1,1),(2,2),(3,3),(4,4)] [5]) ⟨0,0,[],[],rfl,rfl,g0.symm,.nil,P0,by omega,by omega,by omega,by omega,by omega⟩ ?_
 clear P0 g0
 rintro k s ⟨a,j,O,l,rfl,hO,hj,hasc,hmem,ha0,ha1,hj0,hj1,hk⟩
 conv => cbv
 refine Br.mk (fun ga => ?_) (fun ga => ?_)
 ·have ga : a < W := ga
  obtain ⟨k',rfl⟩ : ∃ k',k = k' + 1 := ⟨k - 1,by omega⟩
  conv => cbv
  refine cfr (ris_lx R vs n a W C B V hC hB hV hn hR hA hW) [(0,0),(1,1),(2,2),(3,3),(4,4)] (fun r h' n' hrr => ?_)
  obtain ⟨b,e1,e2,e3,hb⟩ := hrr
  subst e1 e2 e3
  cases b with
  | false =>
   have hno : ¬ IsObj R a := fun h => by cases hb.2 h
   have hm2 : ∀ x,x ∈ l ↔ IsObj R x ∧ x < a + 1 := fun x => by
    rw [hmem x]
    constructor
    ·rintro ⟨h1,h2⟩; exact ⟨h1,by omega⟩
    ·rintro ⟨h1,h2⟩
     refine ⟨h1,?_⟩
     have : x ≠ a := fun e => hno (e ▸ h1)
     omega
   conv => cbv
   refine Fit.mk (by show (-9223372036854775808 : Int) ≤ a + 1; omega) (by show a + 1 ≤ 9223372036854775807; omega) fun a2 ha2 => ?_
   have ha2 : a2 = a + 1 := ha2
   rw [← ha2] at hm2
   conv => cbv
   refine Again.mk k' _ (Nat.lt_succ_self _) (Re.at [(0,0),(1,1),(2,2),(3,3),(4,4),(5,5)] []) ⟨a2,j,O,l,rfl,hO,hj,hasc,hm2,by omega,by omega,by omega,by omega,by omega⟩
  | true =>
   have hobj := hb.1 rfl
   have hm2 : ∀ x,x ∈ l ++ [a] ↔ IsObj R x ∧ x < a + 1 := fun x => by
    rw [List.mem_append,hmem x,List.mem_singleton]
    constructor
    ·rintro (⟨h1,h2⟩ | rfl)
     ·exact ⟨h1,by omega⟩
     ·exact ⟨hobj,by omega⟩
    ·rintro ⟨h1,h2⟩
     by_cases e : x = a
     ·exact .inr e
     ·exact .inl ⟨h1,by omega⟩
   have hasc2 : (l ++ [a]).Pairwise (· < ·) := List.pairwise_append.2 ⟨hasc,List.pairwise_singleton _ _,fun x hx y hy => by
    have := (hmem x).1 hx
    rw [List.mem_singleton.1 hy]; exact this.2⟩
   have hol : (O.length : Int) = j := by rw [hO,ipv_length,hj,hg]
   conv => cbv
   refine Room.new rfl ?_
   conv => cbv
   refine Room.new ⟨?_,?_,?_⟩ ?_
   ·show (O.length : Int) = j * 1; omega
   ·show (j + 1) * 8 ≤ 140737488355328; omega
   ·show j + 1 ≤ 9223372036854775807; omega
   conv => cbv
   refine Upd.mk fun O3 hO3 => ?_
   have hO3 : O3 = O ++ [.int .i64 (.sym a)] := hO3
   have hO3 : O3 = ipv (l ++ [a]) := by rw [hO3,hO,← ipv_app]; rfl
   conv => cbv
   refine Sum.mk fun j2 hj2 => ?_
   have hj2 : j2 = j + 1 := hj2
   have hj3 : j2 = gl (l ++ [a]) := by rw [hj2,hj,hg,hg,List.length_append]; rfl
   conv => cbv
   refine Fit.mk (by show (-9223372036854775808 : Int) ≤ a + 1; omega) (by show a + 1 ≤ 9223372036854775807; omega) fun a2 ha2 => ?_
   have ha2 : a2 = a + 1 := ha2
   rw [← ha2] at hm2
   conv => cbv
   refine Again.mk k' _ (Nat.lt_succ_self _) (Re.at [(0,0),(1,1),(2,2),(3,3),(4,4),(7,5)] []) ⟨a2,j2,O3,l ++ [a],rfl,hO3,hj3,hasc2,hm2,by omega,by omega,by omega,by omega,by omega⟩
 ·have ga : ¬ a < W := ga
  have hl : l = objsTo R R.length := objs_is hA.rows hasc fun x => by
   rw [hmem x]
   exact ⟨fun h => h.1,fun h => ⟨h,by have := obj_in hA.rows h; omega⟩⟩
  have hjm : j = m := by rw [hj,hg,hl,objs_length hA.rows,hm]
  rw [hl] at hO
  conv => cbv
  refine RetF.mk [.sl 5 3 1 (.lit 0) (.sym m)] [hpB 0 1 4 3 W,hpD 1 2 3 1 n 3 203 8 n,hpP 2 C,hpP 3 B,hpP 4 V,hpP 5 O] 6 (Re.at [(0,0),(1,1),(2,2),(3,3),(4,4),(5,5)] []) rfl ⟨O,rfl,rfl,rfl,hO⟩
theorem zer_snoc : ∀ (n : Nat) (ws : List Int) (j : Nat),zer ws j (n + 1) = (zer ws j n).set (j + n) 0
 | 0,ws,j => rfl
 | n + 1,ws,j => by
  rw [zer,zer_snoc n,zer,show j + 1 + n = j + (n + 1) by omega]
theorem rallocA_lx (kind m : Int) (R : List Rw) (vs : List Int) (n W : Int) (C B V : List PV) (hC : C = cpv R) (hB : B = bpv R) (hV : V = ipv vs) (hn : n = R.length) (hR : R.length ≤ 1000) (hA : AOk R vs) (hW : W = 32 * n) : CallF (fun _ => Tryz.prog) 211 [.ptr 0 (.lit 0),i6 kind,i6 m] [hpB 0 1 4 3 W,hpD 1 2 3 1 n 3 203 8 n,hpP 2 C,hpP 3 B,hpP 4 V] 5
  (fun r h n' => ∃ (at_ e : Int) (R' : List Rw) (vs' : List Int) (C' B' V' : List PV),r = .tup [i6 at_,i6 e] ∧ h = [hpB 0 1 4 3 W,hpD 1 2 3 1 n 3 203 8 n,hpP 2 C',hpP 3 B',hpP 4 V'] ∧ n' = 5 ∧ C' = cpv R' ∧ B' = bpv R' ∧ V' = ipv vs' ∧ AlloctV R vs kind m at_ e R' vs') := by
 have hlen := hA.len
 have hVl : V.length = vs.length := by rw [hV,ipv_length]
 refine callF_of_body tok Tryz.func211 (by kernel_rfl) rfl rfl rfl ?_; conv => cbv
 refine callF_frame (rclassOf_lx m) [] rfl trivial rfl rfl (fun r h' n' hrr => ?_)
 obtain ⟨c,b,e1,e2,e3,hO⟩ := hrr
 subst e1 e2 e3
 conv => cbv
 refine Br.mk (fun g => ?_) (fun g => ?_)
 ·have g : kind < 1 := g
  have hno : ¬ (0 ≤ m ∧ m ≤ 31 ∧ 1 ≤ kind ∧ kind ≤ 6) := fun h => by omega
  conv => cbv
  refine RetF.mk [i6 0,i6 1] [hpB 0 1 4 3 W,hpD 1 2 3 1 n 3 203 8 n,hpP 2 C,hpP 3 B,hpP 4 V] 5 (Re.at [(0,0),(1,1),(2,2),(3,3),(4,4)] []) rfl ⟨0,1,R,vs,C,B,V,rfl,rfl,rfl,hC,hB,hV,.arg hno⟩
 have g : ¬ kind < 1 := g
 conv => cbv
 refine Br.mk (fun g2 => ?_) (fun g2 => ?_)
 ·have g2 : 6 < kind := g2
  have hno : ¬ (0 ≤ m ∧ m ≤ 31 ∧ 1 ≤ kind ∧ kind ≤ 6) := fun h => by omega
  conv => cbv
  refine RetF.mk [i6 0,i6 1] [hpB 0 1 4 3 W,hpD 1 2 3 1 n 3 203 8 n,hpP 2 C,hpP 3 B,hpP 4 V] 5 (Re.at [(0,0),(1,1),(2,2),(3,3),(4,4)] []) rfl ⟨0,1,R,vs,C,B,V,rfl,rfl,rfl,hC,hB,hV,.arg hno⟩
 have g2 : ¬ 6 < kind := g2
 cases hO with
 | no hno =>
  conv => cbv
  refine RetF.mk [i6 0,i6 1] [hpB 0 1 4 3 W,hpD 1 2 3 1 n 3 203 8 n,hpP 2 C,hpP 3 B,hpP 4 V] 5 (Re.at [(0,0),(1,1),(2,2),(3,3),(4,4)] []) rfl ⟨0,1,R,vs,C,B,V,rfl,rfl,rfl,hC,hB,hV,.arg (fun h => hno ⟨h.1,h.2.1⟩)⟩
 | yes _ hc hyes =>
  have hyk : 0 ≤ m ∧ m ≤ 31 ∧ 1 ≤ kind ∧ kind ≤ 6 := by omega
  conv => cbv
  refine cfr (ralloc_lx c R n C B hC hB hn hR (rok_of hA.rows)) [(0,1),(1,2),(2,3)] (fun r h' n' hrr => ?_)
  obtain ⟨i,s,b,R2,C2,B2,e1,e2,e3,hC2,hB2,hAl⟩ := hrr
  subst e1 e2 e3
  cases b with
  | false =>
   conv => cbv
   rw [hc] at hAl
   refine RetF.mk [i6 0,i6 9] [hpB 0 1 4 3 W,hpD 1 2 3 1 n 3 203 8 n,hpP 2 C2,hpP 3 B2,hpP 4 V] 5 (Re.at [(0,0),(1,1),(2,2),(3,3),(4,4)] []) rfl ⟨0,9,R2,vs,C2,B2,V,rfl,rfl,rfl,hC2,hB2,hV,.room i s R2 hyk hAl⟩
  | true =>
   conv => cbv
   obtain ⟨hi0,hi1,hs0,hs1⟩ := alloced_in hA.rows hAl
   obtain ⟨w,hw⟩ : ∃ w,w = wordsOf c := ⟨_,rfl⟩
   have hmw : m < w ∧ w ≠ 0 := by rw [hw,hc]; exact ofN_words hyes
   have hwb := wordsOf_bd c
   rw [← hw] at hwb
   have hsw : (s.toNat : Int) * w + w ≤ 32 := by rw [hw]; exact slots_words (by rw [← hw]; exact hmw.2) (by omega)
   rw [show (s.toNat : Int) = s by omega] at hsw
   obtain ⟨sw,hsw2⟩ : ∃ sw,sw = s * w := ⟨_,rfl⟩
   have hsw0 : 0 ≤ sw := by rw [hsw2]; exact Int.mul_nonneg hs0 (by rw [hw]; exact (wordsOf_bd _).1)
   rw [← hsw2] at hsw
   refine Fit.mk (by show (-9223372036854775808 : Int) ≤ i * 32; omega) (by show i * 32 ≤ 9223372036854775807; omega) fun i32 hi32 => ?_
   have hi32 : i32 = i * 32 := hi32
   conv => cbv
   refine callF_frame (refWordsA_lx c w hw) [] rfl trivial rfl rfl (fun r h' n' ⟨e1,e2,e3⟩ => ?_)
   subst e1 e2 e3
   conv => cbv
   refine Fit.mk (by show (-9223372036854775808 : Int) ≤ s * w; rw [← hsw2]; omega) (by show s * w ≤ 9223372036854775807; rw [← hsw2]; omega) fun sw' hsw' => ?_
   have hsw' : sw' = sw := by rw [hsw2]; exact hsw'
   conv => cbv
   refine Fit.mk (by show (-9223372036854775808 : Int) ≤ i32 + sw'; omega) (by show i32 + sw' ≤ 9223372036854775807; omega) fun at_ hat => ?_
   have hat : at_ = i32 + sw' := hat
   have hat2 : at_ = 32 * i + sw := by omega
   conv => cbv
   have hloc : at_ + w ≤ W := by omega
   refine LoopF.mk (fun k st => ∃ (j : Int) (V2 : List PV),st = ⟨.ptr 0 (.lit 0) :: .p (.int .i64 (.sym kind)) :: .p (.int .i64 (.sym m)) :: (undefs 5 ++ .p (.int .i64 (.sym c)) :: (undefs 3 ++ .p (.int .i64 (.sym at_)) :: .p (.int .i64 (.sym j)) :: undefs 59)),[hpB 0 1 4 3 W,hpD 1 2 3 1 n 3 203 8 n,hpP 2 C2,hpP 3 B2,hpP 4 V2],5⟩ ∧ V2 = ipv (zer vs at_.toNat j.toNat) ∧ 0 ≤ j ∧ j ≤ w ∧ k = (w - j).toNat) w.toNat _
    (Re.at [(0,0),(1,1),(2,2),(3,3),(4,4)] []) ⟨0,V,rfl,hV,by omega,by omega,by omega⟩ ?_
   rintro k st ⟨j,V2,rfl,hV2,hj0,hj1,hk⟩
   have hV2l : V2.length = vs.length := by rw [hV2,ipv_length,zer_length]
   conv => cbv
   refine callF_frame (refWordsA_lx c w hw) [] rfl trivial rfl rfl (fun r h' n' ⟨e1,e2,e3⟩ => ?_)
   subst e1 e2 e3
   conv => cbv
   refine Br.mk (fun g3 => ?_) (fun g3 => ?_)
   ·have g3 : j < w := g3
    obtain ⟨k',rfl⟩ : ∃ k',k = k' + 1 := ⟨k - 1,by omega⟩
    obtain ⟨j2,hj2⟩ : ∃ j2,j2 = j + 1 := ⟨_,rfl⟩
    obtain ⟨V3,hV3⟩ : ∃ V3,V3 = ipv (zer vs at_.toNat j2.toNat) := ⟨_,rfl⟩
    conv => cbv
    refine Fit.mk (by show (-9223372036854775808 : Int) ≤ at_ + j; omega) (by show at_ + j ≤ 9223372036854775807; omega) fun x hx => ?_
    have hx : x = at_ + j := hx
    conv => cbv
    refine Need.mk ⟨by show 0 ≤ x; omega,by show x < W; omega⟩ ?_
    conv => cbv
    refine Need.mk (by show x + ((1 : Nat) : Int) ≤ (V2.length : Int); omega) ?_
    conv => cbv
    refine Upd.mk fun D2 hD2 => ?_
    have hle : pvles D2 V3 := by
     have hD2 : D2 = updL V2 x.toNat (repsP [.int .i64 (.lit 0)] 1) := hD2
     rw [hD2,hV3,hV2,show j2.toNat = j.toNat + 1 by omega,zer_snoc,show at_.toNat + j.toNat = x.toNat by omega]
     exact upd_zer 1 _ _ _ (pvles_self _)
    clear hD2
    unfold pvles at hle
    conv => cbv
    refine Fit.mk (by show (-9223372036854775808 : Int) ≤ j + 1; omega) (by show j + 1 ≤ 9223372036854775807; omega) fun j3 hj3 => ?_
    have hj3 : j3 = j + 1 := hj3
    obtain rfl : j3 = j2 := by omega
    conv => cbv
    refine Again.mk k' _ (Nat.lt_succ_self _) (Re.at [(0,0),(1,1),(2,2),(3,3),(4,4)] []) ⟨j3,V3,rfl,hV3,by omega,by omega,by omega⟩
   ·have g3 : ¬ j < w := g3
    have hjw : j = w := by omega
    subst hjw
    obtain ⟨V3,hV3⟩ : ∃ V3,V3 = ipv ((zer vs at_.toNat j.toNat).set at_.toNat (kind + 16 * m)) := ⟨_,rfl⟩
    have hres : AlloctV R vs kind m at_ 0 R2 ((zer vs at_.toNat j.toNat).set at_.toNat (kind + 16 * m)) := by
     rw [hw,hc]
     exact .ok i s at_ R2 hyk (hc ▸ hAl) (by rw [hat2,hsw2,hw,hc])
    conv => cbv
    refine Fit.mk (by show (-9223372036854775808 : Int) ≤ 16 * m; omega) (by show 16 * m ≤ 9223372036854775807; omega) fun x hx => ?_
    have hx : x = 16 * m := hx
    conv => cbv
    refine Fit.mk (by show (-9223372036854775808 : Int) ≤ kind + x; omega) (by show kind + x ≤ 9223372036854775807; omega) fun y hy => ?_
    have hy : y = kind + x := hy
    conv => cbv
    refine Need.mk ⟨by show 0 ≤ at_; omega,by show at_ < W; omega⟩ ?_
    conv => cbv
    refine Need.mk (by show at_ + ((1 : Nat) : Int) ≤ (V2.length : Int); omega) ?_
    conv => cbv
    refine Upd.mk fun D2 hD2 => ?_
    have hD2 : D2 = updL V2 at_.toNat [.int .i64 (.sym y)] := hD2
    have hD2 : D2 = V3 := by rw [hD2,hV2,hV3,updL_ipv,hy,hx]
    subst hD2
    conv => cbv
    refine RetF.mk [i6 at_,i6 0] [hpB 0 1 4 3 W,hpD 1 2 3 1 n 3 203 8 n,hpP 2 C2,hpP 3 B2,hpP 4 D2] 5 (Re.at [(0,0),(1,1),(2,2),(3,3),(4,4)] []) rfl ⟨at_,0,R2,_,C2,B2,D2,rfl,rfl,rfl,hC2,hB2,hV3,hres⟩
end Go.Proofs.YtcbombkaacjngaaGreatDoor
namespace Go.Proofs.YtcbombkaacjngaaGreatDoor
open Go Go.LX
set_option maxRecDepth 100000
set_option linter.unusedVariables false
set_option maxHeartbeats 32000000
theorem ipv_getx (A : List Int) (i : Nat) : (ipv A)[i]? = A[i]?.map (fun z => PV.int .i64 (.sym z)) := by rw [ipv,List.getElem?_map]
def PreI (k : IntKind) (l : List PV) (A : List Int) : Prop := ∀ (i : Nat) (x : Int),A[i]? = some x → l[i]? = some (.int k (.sym x))
theorem preI_ints (A : List Int) : PreI .i64 (ipv A) A := fun i x h => by rw [ipv_getx,h]; rfl
theorem eqi64_lx (x y : Int) :
  CallF (fun _ => Tryz.prog) 79 [i6 x,i6 y] [] 0 (fun r h n => (∃ b : Bool,r = .p (.bool b) ∧ (b = true ↔ x = y)) ∧ h = [] ∧ n = 0) := by
 refine callF_of_body tok Tryz.func79 (by kernel_rfl) rfl rfl rfl ?_; conv => cbv
 refine Br.mk (fun e => ?_) (fun e => ?_)
 ·have e : x = y := e
  conv => cbv
  refine RetF.mk [.p (.bool true)] [] 0 (Re.at [] []) rfl ⟨⟨true,rfl,by simp [e]⟩,rfl,rfl⟩
 ·have e : ¬ x = y := e
  conv => cbv
  refine RetF.mk [.p (.bool false)] [] 0 (Re.at [] []) rfl ⟨⟨false,rfl,by simp [e]⟩,rfl,rfl⟩
theorem samei64_lx (A B : List Int) (m n : Int) (la lb : List PV) (hm : m = A.length) (hn : n = B.length) (ha : PreI .i64 la A) (hb : PreI .i64 lb B) (hA : (A.length : Int) < 1000000) :
  CallF (fun _ => Tryz.prog) 78 [.p (.vsl (.sym m) true la),.p (.vsl (.sym n) true lb),.p (.fn 79)] [] 0 (fun r h n => (∃ b : Bool,r = .p (.bool b) ∧ (b = true ↔ A = B)) ∧ h = [] ∧ n = 0) := by
 refine callF_of_body tok Tryz.func78 (by kernel_rfl) rfl rfl rfl ?_; conv => cbv
 refine Br.mk (fun e1 => ?_) (fun e1 => ?_)
 ·simp only [I.val] at e1
  conv => cbv
  refine RetF.mk [.p (.bool false)] [] 0 (Re.at [] []) rfl ⟨⟨false,rfl,by simp; intro h; subst h; omega⟩,rfl,rfl⟩
 ·simp only [I.val] at e1
  conv => cbv
  have hmn : m = n := by omega
  refine LoopF.mk (fun k s => ∃ i : Int,s = ⟨.p (.vsl (.sym m) true la) :: .p (.vsl (.sym n) true lb) :: .p (.fn 79) :: .undef :: .undef :: .undef :: .undef :: .p (.int .i64 (.sym i)) :: undefs 22,[],0⟩ ∧ 0 ≤ i ∧ i ≤ m ∧ A.take i.toNat = B.take i.toNat ∧ k = (m - i).toNat) m.toNat _
   (Re.at [] []) ⟨0,rfl,by omega,by omega,rfl,by omega⟩ ?_
  rintro k s ⟨i,rfl,hi0,him,ht,hk⟩
  conv => cbv
  refine Br.mk (fun e2 => ?_) (fun e2 => ?_)
  ·simp only [I.val] at e2
   conv => cbv
   refine draw_sound tok (by kernel_rfl) rfl (by kernel_rfl) ?_
   conv => cbv
   obtain ⟨x1,hea⟩ : ∃ e,A[i.toNat]? = some e := ⟨_,List.getElem?_eq_getElem (by omega)⟩
   obtain ⟨x2,heb⟩ : ∃ e,B[i.toNat]? = some e := ⟨_,List.getElem?_eq_getElem (by omega)⟩
   have a1 := ha _ _ hea
   have b1 := hb _ _ heb
   refine Need.mk ⟨hi0,by simpa [I.val] using e2⟩ ?_
   conv => cbv
   refine Cell.at i _ a1 (by simp [I.val]) (by omega) ?_
   conv => cbv
   refine Need.mk ⟨hi0,by simp only [I.val]; omega⟩ ?_
   conv => cbv
   refine Cell.at i _ b1 (by simp [I.val]) (by omega) ?_
   conv => cbv
   refine callF_val (eqi64_lx x1 x2) (by simp [ales,ale,renVs,renV,pvle]) rfl (fun r ⟨b,hr,_⟩ => by subst hr; rfl) (fun r ⟨b,hr,he⟩ => ?_)
   subst hr
   have iff1 : b = true ↔ A[i.toNat]? = B[i.toNat]? := by rw [he,hea,heb]; simp
   cases b with
   | false =>
    conv => cbv
    refine RetF.mk [.p (.bool false)] [] 0 (Re.at [] []) rfl ⟨⟨false,rfl,by simp only [Bool.false_eq_true,false_iff]; intro h; subst h; simp at iff1⟩,rfl,rfl⟩
   | true =>
    obtain ⟨k',rfl⟩ : ∃ k',k = k' + 1 := ⟨k - 1,by omega⟩
    conv => cbv
    refine Fit.mk (by show (-9223372036854775808 : Int) ≤ i + 1; omega) (by show i + 1 ≤ 9223372036854775807; omega) ?_
    intro i2 hi2
    have hi3 : i2 = i + 1 := hi2
    clear hi2
    conv => cbv
    refine Again.mk k' _ (Nat.lt_succ_self _) (Re.at [] []) ⟨i2,rfl,by omega,by omega,?_,by omega⟩
    rw [show i2.toNat = i.toNat + 1 by omega,List.take_add_one,List.take_add_one,ht,iff1.1 rfl]
  ·simp only [I.val] at e2
   conv => cbv
   refine RetF.mk [.p (.bool true)] [] 0 (Re.at [] []) rfl ⟨⟨true,rfl,?_⟩,rfl,rfl⟩
   have : i.toNat = A.length := by omega
   rw [this,List.take_length] at ht
   rw [List.take_of_length_le (by omega)] at ht
   simp [ht]
theorem plaini64_lx (A B : List Int) (m n : Int) (la lb : List PV) (hm : m = A.length) (hn : n = B.length) (ha : PreI .i64 la A) (hb : PreI .i64 lb B) (hA : (A.length : Int) < 1000000) :
  CallF (fun _ => Tryz.prog) 23 [.p (.vsl (.sym m) true la),.p (.vsl (.sym n) true lb)] [] 0 (fun r h n => (∃ b : Bool,r = .p (.bool b) ∧ (b = true ↔ A = B)) ∧ h = [] ∧ n = 0) := by
 refine callF_of_body tok Tryz.func23 (by kernel_rfl) rfl rfl rfl ?_; conv => cbv
 refine callF_val (samei64_lx A B m n la lb hm hn ha hb hA) (by simp [ales,ale,renVs,renV,pvle,I.val]) rfl (fun r ⟨b,hr,_⟩ => by subst hr; rfl) (fun r ⟨b,hr,hb⟩ => ?_)
 subst hr
 conv => cbv
 refine RetF.mk [.p (.bool b)] [] 0 (Re.at [] []) rfl ⟨⟨b,rfl,hb⟩,rfl,rfl⟩
end Go.Proofs.YtcbombkaacjngaaGreatDoor
namespace Go.Proofs.YtcbombkaacjngaaGreatDoor
open Go Go.LX
set_option maxRecDepth 100000
set_option linter.unusedVariables false
set_option linter.unusedSimpArgs false
set_option maxHeartbeats 32000000
structure RM (R : List Rw) (vs C G : List Int) (N W : Int) (P B V Q la : List PV) (m : Int) : Prop where
 a : AOk R vs
 n : N = R.length
 r : R.length ≤ 1000
 w : W = 32 * N
 p : P = cpv R
 b : B = bpv R
 v : V = ipv vs
 q : Q = ipv C
 c : (C.length : Int) = W
 l : la = i64s G
 m : m = G.length
 g : ∀ x ∈ G,0 ≤ x ∧ x < W
 g8 : G.length ≤ 8
theorem RM.shade {R : List Rw} {vs C G C' G' : List Int} {N W m m' : Int} {P B V Q Q' la la' : List PV} {ph a : Int} {ov ov' : Bool} (h : RM R vs C G N W P B V Q la m) (hs : (C',G',ov') = Go.Proofs.YtcbombkaacjngaaGreatDoor.shade R ph a (C,G,ov)) (hQ : Q' = ipv C') (hl : la' = i64s G') (hm : m' = G'.length) : RM R vs C' G' N W P B V Q' la' m' := by
 unfold Go.Proofs.YtcbombkaacjngaaGreatDoor.shade at hs
 split at hs
 ·rename_i hc
  have hb := obj_bd h.a hc.2.1
  have hn := h.n; have hw := h.w
  split at hs
  ·rename_i h8
   have h8 : G.length < 8 := h8
   have hl8 : (G ++ [a]).length ≤ 8 := by rw [List.length_append]; show G.length + 1 ≤ 8; omega
   cases hs
   refine ⟨h.a,h.n,h.r,h.w,h.p,h.b,h.v,hQ,by rw [List.length_set]; exact h.c,hl,hm,fun x hx => ?_,hl8⟩
   rcases List.mem_append.1 hx with hx | hx
   ·exact h.g x hx
   ·rw [List.mem_singleton.1 hx]; omega
  ·cases hs
   exact ⟨h.a,h.n,h.r,h.w,h.p,h.b,h.v,hQ,by rw [List.length_set]; exact h.c,hl,hm,h.g,h.g8⟩
 ·cases hs
  exact ⟨h.a,h.n,h.r,h.w,h.p,h.b,h.v,hQ,h.c,hl,hm,h.g,h.g8⟩
theorem rIsPtr_lx (w : Int) : CallF (fun _ => Tryz.prog) 61 [i6 w] [] 0 (fun r h n => ∃ b : Bool,r = .p (.bool b) ∧ h = [] ∧ n = 0 ∧ (b = true ↔ w % 2 = 1)) := by
 refine callF_of_body tok Tryz.func61 (by kernel_rfl) rfl rfl rfl ?_; conv => cbv
 refine Sum.mk fun u hu => ?_
 have hu : u = w % 2 := hu.trans (and1_bv w)
 conv => cbv
 refine Br.mk (fun g => ?_) (fun g => ?_)
 ·have g : u = 1 := g
  conv => cbv
  refine RetF.mk [.p (.bool true)] [] 0 (Re.at [] []) rfl ⟨true,rfl,rfl,rfl,fun _ => (by omega),fun _ => rfl⟩
 ·have g : ¬ u = 1 := g
  conv => cbv
  refine RetF.mk [.p (.bool false)] [] 0 (Re.at [] []) rfl ⟨false,rfl,rfl,rfl,fun k => (by cases k),fun k => absurd k (by omega)⟩
theorem rAt_lx (w : Int) (hw : -9223372036854775808 ≤ w ∧ w ≤ 9223372036854775807) : CallF (fun _ => Tryz.prog) 63 [i6 w] [] 0 (fun r h n => ∃ x : Int,r = .p (.int .i64 (.sym x)) ∧ h = [] ∧ n = 0 ∧ (w % 2 = 1 → x = (w - 1) / 2) ∧ (¬ w % 2 = 1 → x = -1)) := by
 refine callF_of_body tok Tryz.func63 (by kernel_rfl) rfl rfl rfl ?_; conv => cbv
 refine callF_frame (rIsPtr_lx w) [] rfl trivial rfl rfl (fun r h' n' hrr => ?_)
 obtain ⟨b,e1,e2,e3,hb⟩ := hrr
 subst e1 e2 e3
 cases b with
 | false =>
  have hb : ¬ w % 2 = 1 := fun k => by have := hb.2 k; cases this
  conv => cbv
  refine RetF.mk [i6 (-1)] [] 0 (Re.at [] []) rfl ⟨-1,rfl,rfl,rfl,fun k => absurd k hb,fun _ => rfl⟩
 | true =>
  have hb : w % 2 = 1 := hb.1 rfl
  conv => cbv
  refine Fit.mk (by show (-9223372036854775808 : Int) ≤ w - 1; omega) (by show w - 1 ≤ 9223372036854775807; omega) fun v hv => ?_
  have hv : v = w - 1 := hv
  have hdv : v.tdiv 2 = (w - 1) / 2 := by rw [hv]; exact Int.tdiv_eq_ediv_of_dvd (by omega)
  conv => cbv
  refine Fit.mk (by show (-9223372036854775808 : Int) ≤ v.tdiv 2; omega) (by show v.tdiv 2 ≤ 9223372036854775807; omega) fun y hy => ?_
  have hy : y = (w - 1) / 2 := hy.trans hdv
  conv => cbv
  refine RetF.mk [i6 y] [] 0 (Re.at [] []) rfl ⟨y,rfl,rfl,rfl,fun _ => hy,fun k => absurd hb k⟩
theorem rshade_lx (R : List Rw) (vs C G : List Int) (N W ph sp cy : Int) (P B V Q la : List PV) (m : Int) (ov : Bool) (h : RM R vs C G N W P B V Q la m) (a : Int) : CallF (fun _ => Tryz.prog) 62 [.ptr 0 (.lit 0),i6 a] [hpR 0 1 6 3 W 7 ph sp cy,hpB 1 2 5 3 W,hpD 2 3 3 1 N 4 203 8 N,hpP 3 P,hpP 4 B,hpP 5 V,hpP 6 Q,(7,.mix [.p (.vsl (.sym m) true la),.p (.bool ov)])] 8 (fun r h n => ∃ (C' G' : List Int) (ov' : Bool) (Q' la' : List PV) (m' : Int),r = .tup [] ∧ h = [hpR 0 1 6 3 W 7 ph sp cy,hpB 1 2 5 3 W,hpD 2 3 3 1 N 4 203 8 N,hpP 3 P,hpP 4 B,hpP 5 V,hpP 6 Q',(7,.mix [.p (.vsl (.sym m') true la'),.p (.bool ov')])] ∧ n = 8 ∧ RM R vs C' G' N W P B V Q' la' m' ∧ (C',G',ov') = shade R ph a (C,G,ov)) := by
 have hCl := h.c; have hWn := h.w; have hNr := h.n; have hRr := h.r
 have hQl : Q.length = C.length := by rw [h.q,ipv_length]
 refine callF_of_body tok Tryz.func62 (by kernel_rfl) rfl rfl rfl ?_; conv => cbv
 refine Br.mk (fun g => ?_) (fun g => ?_)
 ·have g : ph = 1 := g
  conv => cbv
  refine cfr (ris_lx R vs N a W P B V h.p h.b h.v h.n h.r h.a h.w) [(0,1),(1,2),(2,3),(3,4),(4,5)] (fun r h' n' hrr => ?_)
  obtain ⟨b,e1,e2,e3,hb⟩ := hrr
  subst e1 e2 e3
  cases b with
  | false =>
   conv => cbv
   refine RetF.mk [] [hpR 0 1 6 3 W 7 ph sp cy,hpB 1 2 5 3 W,hpD 2 3 3 1 N 4 203 8 N,hpP 3 P,hpP 4 B,hpP 5 V,hpP 6 Q,(7,.mix [.p (.vsl (.sym m) true la),.p (.bool ov)])] 8 (Re.at [(0,0),(1,1),(2,2),(3,3),(4,4),(5,5),(6,6),(7,7)] []) rfl ⟨C,G,ov,Q,la,m,rfl,rfl,rfl,h,by unfold Go.Proofs.YtcbombkaacjngaaGreatDoor.shade; rw [if_neg (fun k => by have := hb.2 ((obj_iff h.a a).1 k.2.1); cases this)]⟩
  | true =>
   have hob : a ∈ objs R := (obj_iff h.a a).2 (hb.1 rfl)
   have hbd := obj_bd h.a hob
   obtain ⟨x,hx⟩ : ∃ x,C[a.toNat]? = some x := ⟨_,List.getElem?_eq_getElem (by omega)⟩
   have hq : Q[a.toNat]? = some (.int .i64 (.sym x)) := by rw [h.q]; exact ipv_get hx
   conv => cbv
   refine Need.mk ⟨by show 0 ≤ a; omega,by show a < W; omega⟩ ?_
   conv => cbv
   refine Cell.at a _ hq (by simp [I.val]) rfl ?_
   conv => cbv
   refine Br.mk (fun g2 => ?_) (fun g2 => ?_)
   ·have g2 : x = 0 := g2
    conv => cbv
    refine Need.mk ⟨by show 0 ≤ a; omega,by show a < W; omega⟩ ?_
    conv => cbv
    obtain ⟨Q3,hQ3⟩ : ∃ Q3,Q3 = ipv (C.set a.toNat 1) := ⟨_,rfl⟩
    refine Need.mk (by show a + 1 ≤ (Q.length : Int); omega) ?_
    conv => cbv
    refine Upd.mk fun Q2 hQ2 => ?_
    have hle : pvles Q2 Q3 := by
     have hQ2 : Q2 = Q.set a.toNat (.int .i64 (.lit 1)) := hQ2
     rw [hQ2,hQ3,h.q,← ipv_set]
     exact pvles_set _ _ _ _ _ (pvles_refl _) (by simp [pvle,I.val])
    unfold pvles at hle
    clear hQ2
    conv => cbv
    refine cfr (refPush_lx G a m la ov h.m h.l h.g8) [(0,7)] (fun r h' n' hrr => ?_)
    obtain ⟨b2,ov',m',la',G',e1,e2,e3,hm',hl',hp1,hp2⟩ := hrr
    subst e1 e2 e3
    have hsh : (C.set a.toNat 1,G',ov') = Go.Proofs.YtcbombkaacjngaaGreatDoor.shade R ph a (C,G,ov) := by
     unfold Go.Proofs.YtcbombkaacjngaaGreatDoor.shade
     rw [if_pos ⟨g,hob,by rw [hx,g2]⟩]
     dsimp only
     split
     ·obtain ⟨_,q1,q2⟩ := hp1 (by assumption)
      rw [q1,q2]
     ·obtain ⟨_,q1,q2⟩ := hp2 (by omega)
      rw [q1,q2]
    conv => cbv
    refine RetF.mk [] [hpR 0 1 6 3 W 7 ph sp cy,hpB 1 2 5 3 W,hpD 2 3 3 1 N 4 203 8 N,hpP 3 P,hpP 4 B,hpP 5 V,hpP 6 Q3,(7,.mix [.p (.vsl (.sym m') true la'),.p (.bool ov')])] 8 (Re.at [(0,0),(1,1),(2,2),(3,3),(4,4),(5,5),(6,6),(7,7)] []) rfl ⟨_,G',ov',Q3,la',m',rfl,rfl,rfl,h.shade hsh hQ3 hl' hm',hsh⟩
   ·have g2 : ¬ x = 0 := g2
    conv => cbv
    refine RetF.mk [] [hpR 0 1 6 3 W 7 ph sp cy,hpB 1 2 5 3 W,hpD 2 3 3 1 N 4 203 8 N,hpP 3 P,hpP 4 B,hpP 5 V,hpP 6 Q,(7,.mix [.p (.vsl (.sym m) true la),.p (.bool ov)])] 8 (Re.at [(0,0),(1,1),(2,2),(3,3),(4,4),(5,5),(6,6),(7,7)] []) rfl ⟨C,G,ov,Q,la,m,rfl,rfl,rfl,h,by unfold Go.Proofs.YtcbombkaacjngaaGreatDoor.shade; rw [if_neg (fun k => g2 (Option.some.inj (hx.symm.trans k.2.2)))]⟩
 ·have g : ¬ ph = 1 := g
  conv => cbv
  refine RetF.mk [] [hpR 0 1 6 3 W 7 ph sp cy,hpB 1 2 5 3 W,hpD 2 3 3 1 N 4 203 8 N,hpP 3 P,hpP 4 B,hpP 5 V,hpP 6 Q,(7,.mix [.p (.vsl (.sym m) true la),.p (.bool ov)])] 8 (Re.at [(0,0),(1,1),(2,2),(3,3),(4,4),(5,5),(6,6),(7,7)] []) rfl ⟨C,G,ov,Q,la,m,rfl,rfl,rfl,h,by unfold Go.Proofs.YtcbombkaacjngaaGreatDoor.shade; rw [if_neg (fun k => g k.1)]⟩
theorem RM.stored {R : List Rw} {vs vs' C G : List Int} {N W m : Int} {P B V V' Q la : List PV} {a i x e : Int} (h : RM R vs C G N W P B V Q la m) (hx : -9223372036854775808 ≤ x ∧ x ≤ 9223372036854775807) (hs : Stored R vs a i x e vs') (hV : V' = ipv vs') : RM R vs' C G N W P B V' Q la m :=
 ⟨h.a.stored hx hs,h.n,h.r,h.w,h.p,h.b,hV,h.q,h.c,h.l,h.m,h.g,h.g8⟩
theorem rstore9_lx (R : List Rw) (vs C G : List Int) (N W ph sp cy : Int) (P B V Q la : List PV) (m : Int) (ov : Bool) (h : RM R vs C G N W P B V Q la m) (a i x : Int) (hx : -9223372036854775808 ≤ x ∧ x ≤ 9223372036854775807) : CallF (fun _ => Tryz.prog) 19 [.ptr 0 (.lit 0),i6 a,i6 i,i6 x] [hpR 0 1 6 3 W 7 ph sp cy,hpB 1 2 5 3 W,hpD 2 3 3 1 N 4 203 8 N,hpP 3 P,hpP 4 B,hpP 5 V,hpP 6 Q,(7,.mix [.p (.vsl (.sym m) true la),.p (.bool ov)])] 8 (fun r h n => ∃ (e : Int) (vs' C' G' : List Int) (ov' : Bool) (V' Q' la' : List PV) (m' : Int),r = .p (.int .i64 (.sym e)) ∧ h = [hpR 0 1 6 3 W 7 ph sp cy,hpB 1 2 5 3 W,hpD 2 3 3 1 N 4 203 8 N,hpP 3 P,hpP 4 B,hpP 5 V',hpP 6 Q',(7,.mix [.p (.vsl (.sym m') true la'),.p (.bool ov')])] ∧ n = 8 ∧ RM R vs' C' G' N W P B V' Q' la' m' ∧ Stored R vs a i x e vs' ∧ (C',G',ov') = storeS R ph e x (C,G,ov)) := by
 refine callF_of_body tok Tryz.func19 (by kernel_rfl) rfl rfl rfl ?_; conv => cbv
 refine cfr (rstore_lx i x R vs N a W P B V h.p h.b h.v h.n h.r h.a h.w) [(0,1),(1,2),(2,3),(3,4),(4,5)] (fun r h' n' hrr => ?_)
 obtain ⟨e,vs',V',e1,e2,e3,hV',hT⟩ := hrr
 subst e1 e2 e3
 conv => cbv
 have h2 := h.stored hx hT hV'
 refine Br.mk (fun g => ?_) (fun g => ?_)
 ·have g : e = 0 := g
  conv => cbv
  refine callF_frame (rIsPtr_lx x) [] rfl trivial rfl rfl (fun r h' n' hrr => ?_)
  obtain ⟨b,e1,e2,e3,hb⟩ := hrr
  subst e1 e2 e3
  cases b with
  | false =>
   have hb : ¬ x % 2 = 1 := fun k => by have := hb.2 k; cases this
   conv => cbv
   refine RetF.mk [i6 e] [hpR 0 1 6 3 W 7 ph sp cy,hpB 1 2 5 3 W,hpD 2 3 3 1 N 4 203 8 N,hpP 3 P,hpP 4 B,hpP 5 V',hpP 6 Q,(7,.mix [.p (.vsl (.sym m) true la),.p (.bool ov)])] 8 (Re.at [(0,0),(1,1),(2,2),(3,3),(4,4),(5,5),(6,6),(7,7)] []) rfl ⟨e,vs',C,G,ov,V',Q,la,m,rfl,rfl,rfl,h2,hT,by unfold storeS shadeW; rw [if_pos g,if_neg hb]⟩
  | true =>
   have hb : x % 2 = 1 := hb.1 rfl
   conv => cbv
   refine callF_frame (rAt_lx x hx) [] rfl trivial rfl rfl (fun r h' n' hrr => ?_)
   obtain ⟨y,e1,e2,e3,hy,_⟩ := hrr
   subst e1 e2 e3
   have hy := hy hb
   conv => cbv
   refine cfr (rshade_lx R vs' C G N W ph sp cy P B V' Q la m ov h2 y) [(0,0),(1,1),(2,2),(3,3),(4,4),(5,5),(6,6),(7,7)] (fun r h' n' hrr => ?_)
   obtain ⟨C',G',ov',Q',la',m',e1,e2,e3,h3,hs⟩ := hrr
   subst e1 e2 e3
   conv => cbv
   refine RetF.mk [i6 e] [hpR 0 1 6 3 W 7 ph sp cy,hpB 1 2 5 3 W,hpD 2 3 3 1 N 4 203 8 N,hpP 3 P,hpP 4 B,hpP 5 V',hpP 6 Q',(7,.mix [.p (.vsl (.sym m') true la'),.p (.bool ov')])] 8 (Re.at [(0,0),(1,1),(2,2),(3,3),(4,4),(5,5),(6,6),(7,7)] []) rfl ⟨e,vs',C',G',ov',V',Q',la',m',rfl,rfl,rfl,h3,hT,by unfold storeS shadeW; rw [if_pos g,if_pos hb,← hy]; exact hs⟩
 ·have g : ¬ e = 0 := g
  conv => cbv
  refine RetF.mk [i6 e] [hpR 0 1 6 3 W 7 ph sp cy,hpB 1 2 5 3 W,hpD 2 3 3 1 N 4 203 8 N,hpP 3 P,hpP 4 B,hpP 5 V',hpP 6 Q,(7,.mix [.p (.vsl (.sym m) true la),.p (.bool ov)])] 8 (Re.at [(0,0),(1,1),(2,2),(3,3),(4,4),(5,5),(6,6),(7,7)] []) rfl ⟨e,vs',C,G,ov,V',Q,la,m,rfl,rfl,rfl,h2,hT,by unfold storeS; rw [if_neg g]⟩
end Go.Proofs.YtcbombkaacjngaaGreatDoor
