/-
  The ground of the proof, part 7: the calculus and what is proved with it.
-/
import Derived.Test.YtjfdfbpgckilpaaGreatDoorBe
import Derived.Test.YtjfdfbpgckilpaaGreatDoorBf
namespace Go.Proofs.YtjfdfbpgckilpaaGreatDoor
open Go Go.LX
set_option maxRecDepth 100000
set_option linter.unusedVariables false
set_option maxHeartbeats 32000000
theorem ipv_getx (A : List Int) (i : Nat) : (ipv A)[i]? = A[i]?.map (fun z => PV.int .i64 (.sym z)) := by rw [ipv,List.getElem?_map]
def PreI (k : IntKind) (l : List PV) (A : List Int) : Prop := ∀ (i : Nat) (x : Int),A[i]? = some x → l[i]? = some (.int k (.sym x))
theorem preI_ints (A : List Int) : PreI .i64 (ipv A) A := fun i x h => by rw [ipv_getx,h]; rfl
theorem eqi64_lx (x y : Int) :
  CallF (fun _ => Tryz.prog) 88 [i6 x,i6 y] [] 0 (fun r h n => (∃ b : Bool,r = .p (.bool b) ∧ (b = true ↔ x = y)) ∧ h = [] ∧ n = 0) := by
 refine callF_of_body tok Tryz.func88 (by kernel_rfl) rfl rfl rfl ?_; conv => cbv
 refine Br.mk (fun e => ?_) (fun e => ?_)
 ·have e : x = y := e
  conv => cbv
  refine RetF.mk [.p (.bool true)] [] 0 (Re.at [] []) rfl ⟨⟨true,rfl,by simp [e]⟩,rfl,rfl⟩
 ·have e : ¬ x = y := e
  conv => cbv
  refine RetF.mk [.p (.bool false)] [] 0 (Re.at [] []) rfl ⟨⟨false,rfl,by simp [e]⟩,rfl,rfl⟩
theorem samei64_lx (A B : List Int) (m n : Int) (la lb : List PV) (hm : m = A.length) (hn : n = B.length) (ha : PreI .i64 la A) (hb : PreI .i64 lb B) (hA : (A.length : Int) < 1000000) :
  CallF (fun _ => Tryz.prog) 87 [.p (.vsl (.sym m) true la),.p (.vsl (.sym n) true lb),.p (.fn 88)] [] 0 (fun r h n => (∃ b : Bool,r = .p (.bool b) ∧ (b = true ↔ A = B)) ∧ h = [] ∧ n = 0) := by
 refine callF_of_body tok Tryz.func87 (by kernel_rfl) rfl rfl rfl ?_; conv => cbv
 refine Br.mk (fun e1 => ?_) (fun e1 => ?_)
 ·simp only [I.val] at e1
  conv => cbv
  refine RetF.mk [.p (.bool false)] [] 0 (Re.at [] []) rfl ⟨⟨false,rfl,by simp; intro h; subst h; omega⟩,rfl,rfl⟩
 ·simp only [I.val] at e1
  conv => cbv
  have hmn : m = n := by omega
  refine LoopF.mk (fun k s => ∃ i : Int,s = ⟨.p (.vsl (.sym m) true la) :: .p (.vsl (.sym n) true lb) :: .p (.fn 88) :: .undef :: .undef :: .undef :: .undef :: .p (.int .i64 (.sym i)) :: undefs 22,[],0⟩ ∧ 0 ≤ i ∧ i ≤ m ∧ A.take i.toNat = B.take i.toNat ∧ k = (m - i).toNat) m.toNat _
   (Re.at [] []) ⟨0,rfl,by omega,by omega,rfl,by omega⟩ ?_
  rintro k s ⟨i,rfl,hi0,him,ht,hk⟩
  conv => cbv
  refine Br.mk (fun e2 => ?_) (fun e2 => ?_)
  ·simp only [I.val] at e2
   conv => cbv
   refine draw_sound tok (by kernel_rfl) rfl (by kernel_rfl) ?_
   conv => cbv
   obtain ⟨x1,hea⟩ : ∃ e,A[i.toNat]? = some e := ⟨_,List.getElem?_eq_getElem (by omega)⟩
   obtain ⟨x2,heb⟩ : ∃ e,B[i.toNat]? = some e := ⟨_,List.getElem?_eq_getElem (by omega)⟩
   have a1 := ha _ _ hea
   have b1 := hb _ _ heb
   refine Need.mk ⟨hi0,by simpa [I.val] using e2⟩ ?_
   conv => cbv
   refine Cell.at i _ a1 (by simp [I.val]) (by omega) ?_
   conv => cbv
   refine Need.mk ⟨hi0,by simp only [I.val]; omega⟩ ?_
   conv => cbv
   refine Cell.at i _ b1 (by simp [I.val]) (by omega) ?_
   conv => cbv
   refine callF_val (eqi64_lx x1 x2) (by simp [ales,ale,renVs,renV,pvle]) rfl (fun r ⟨b,hr,_⟩ => by subst hr; rfl) (fun r ⟨b,hr,he⟩ => ?_)
   subst hr
   have iff1 : b = true ↔ A[i.toNat]? = B[i.toNat]? := by rw [he,hea,heb]; simp
   cases b with
   | false =>
    conv => cbv
    refine RetF.mk [.p (.bool false)] [] 0 (Re.at [] []) rfl ⟨⟨false,rfl,by simp only [Bool.false_eq_true,false_iff]; intro h; subst h; simp at iff1⟩,rfl,rfl⟩
   | true =>
    obtain ⟨k',rfl⟩ : ∃ k',k = k' + 1 := ⟨k - 1,by omega⟩
    conv => cbv
    refine Fit.mk (by show (-9223372036854775808 : Int) ≤ i + 1; omega) (by show i + 1 ≤ 9223372036854775807; omega) ?_
    intro i2 hi2
    have hi3 : i2 = i + 1 := hi2
    clear hi2
    conv => cbv
    refine Again.mk k' _ (Nat.lt_succ_self _) (Re.at [] []) ⟨i2,rfl,by omega,by omega,?_,by omega⟩
    rw [show i2.toNat = i.toNat + 1 by omega,List.take_add_one,List.take_add_one,ht,iff1.1 rfl]
  ·simp only [I.val] at e2
   conv => cbv
   refine RetF.mk [.p (.bool true)] [] 0 (Re.at [] []) rfl ⟨⟨true,rfl,?_⟩,rfl,rfl⟩
   have : i.toNat = A.length := by omega
   rw [this,List.take_length] at ht
   rw [List.take_of_length_le (by omega)] at ht
   simp [ht]
theorem plaini64_lx (A B : List Int) (m n : Int) (la lb : List PV) (hm : m = A.length) (hn : n = B.length) (ha : PreI .i64 la A) (hb : PreI .i64 lb B) (hA : (A.length : Int) < 1000000) :
  CallF (fun _ => Tryz.prog) 35 [.p (.vsl (.sym m) true la),.p (.vsl (.sym n) true lb)] [] 0 (fun r h n => (∃ b : Bool,r = .p (.bool b) ∧ (b = true ↔ A = B)) ∧ h = [] ∧ n = 0) := by
 refine callF_of_body tok Tryz.func35 (by kernel_rfl) rfl rfl rfl ?_; conv => cbv
 refine callF_val (samei64_lx A B m n la lb hm hn ha hb hA) (by simp [ales,ale,renVs,renV,pvle,I.val]) rfl (fun r ⟨b,hr,_⟩ => by subst hr; rfl) (fun r ⟨b,hr,hb⟩ => ?_)
 subst hr
 conv => cbv
 refine RetF.mk [.p (.bool b)] [] 0 (Re.at [] []) rfl ⟨⟨b,rfl,hb⟩,rfl,rfl⟩
end Go.Proofs.YtjfdfbpgckilpaaGreatDoor
namespace Go.Proofs.YtjfdfbpgckilpaaGreatDoor
open Go Go.LX
set_option maxRecDepth 100000
set_option linter.unusedVariables false
set_option linter.unusedSimpArgs false
set_option maxHeartbeats 32000000
structure RM (R : List Rw) (vs C G : List Int) (N W : Int) (P B V Q la : List PV) (m : Int) : Prop where
 a : AOk R vs
 n : N = R.length
 r : R.length ≤ 1000
 w : W = 32 * N
 p : P = cpv R
 b : B = bpv R
 v : V = ipv vs
 q : Q = ipv C
 c : (C.length : Int) = W
 l : la = i64s G
 m : m = G.length
 g : ∀ x ∈ G,0 ≤ x ∧ x < W
 g8 : G.length ≤ 8
theorem RM.shade {R : List Rw} {vs C G C' G' : List Int} {N W m m' : Int} {P B V Q Q' la la' : List PV} {ph a : Int} {ov ov' : Bool} (h : RM R vs C G N W P B V Q la m) (hs : (C',G',ov') = Go.Proofs.YtjfdfbpgckilpaaGreatDoor.shade R ph a (C,G,ov)) (hQ : Q' = ipv C') (hl : la' = i64s G') (hm : m' = G'.length) : RM R vs C' G' N W P B V Q' la' m' := by
 unfold Go.Proofs.YtjfdfbpgckilpaaGreatDoor.shade at hs
 split at hs
 ·rename_i hc
  have hb := obj_bd h.a hc.2.1
  have hn := h.n; have hw := h.w
  split at hs
  ·rename_i h8
   have h8 : G.length < 8 := h8
   have hl8 : (G ++ [a]).length ≤ 8 := by rw [List.length_append]; show G.length + 1 ≤ 8; omega
   cases hs
   refine ⟨h.a,h.n,h.r,h.w,h.p,h.b,h.v,hQ,by rw [List.length_set]; exact h.c,hl,hm,fun x hx => ?_,hl8⟩
   rcases List.mem_append.1 hx with hx | hx
   ·exact h.g x hx
   ·rw [List.mem_singleton.1 hx]; omega
  ·cases hs
   exact ⟨h.a,h.n,h.r,h.w,h.p,h.b,h.v,hQ,by rw [List.length_set]; exact h.c,hl,hm,h.g,h.g8⟩
 ·cases hs
  exact ⟨h.a,h.n,h.r,h.w,h.p,h.b,h.v,hQ,h.c,hl,hm,h.g,h.g8⟩
theorem rIsPtr_lx (w : Int) : CallF (fun _ => Tryz.prog) 22 [i6 w] [] 0 (fun r h n => ∃ b : Bool,r = .p (.bool b) ∧ h = [] ∧ n = 0 ∧ (b = true ↔ w % 2 = 1)) := by
 refine callF_of_body tok Tryz.func22 (by kernel_rfl) rfl rfl rfl ?_; conv => cbv
 refine Sum.mk fun u hu => ?_
 have hu : u = w % 2 := hu.trans (and1_bv w)
 conv => cbv
 refine Br.mk (fun g => ?_) (fun g => ?_)
 ·have g : u = 1 := g
  conv => cbv
  refine RetF.mk [.p (.bool true)] [] 0 (Re.at [] []) rfl ⟨true,rfl,rfl,rfl,fun _ => (by omega),fun _ => rfl⟩
 ·have g : ¬ u = 1 := g
  conv => cbv
  refine RetF.mk [.p (.bool false)] [] 0 (Re.at [] []) rfl ⟨false,rfl,rfl,rfl,fun k => (by cases k),fun k => absurd k (by omega)⟩
theorem rAt_lx (w : Int) (hw : -9223372036854775808 ≤ w ∧ w ≤ 9223372036854775807) : CallF (fun _ => Tryz.prog) 109 [i6 w] [] 0 (fun r h n => ∃ x : Int,r = .p (.int .i64 (.sym x)) ∧ h = [] ∧ n = 0 ∧ (w % 2 = 1 → x = (w - 1) / 2) ∧ (¬ w % 2 = 1 → x = -1)) := by
 refine callF_of_body tok Tryz.func109 (by kernel_rfl) rfl rfl rfl ?_; conv => cbv
 refine callF_frame (rIsPtr_lx w) [] rfl trivial rfl rfl (fun r h' n' hrr => ?_)
 obtain ⟨b,e1,e2,e3,hb⟩ := hrr
 subst e1 e2 e3
 cases b with
 | false =>
  have hb : ¬ w % 2 = 1 := fun k => by have := hb.2 k; cases this
  conv => cbv
  refine RetF.mk [i6 (-1)] [] 0 (Re.at [] []) rfl ⟨-1,rfl,rfl,rfl,fun k => absurd k hb,fun _ => rfl⟩
 | true =>
  have hb : w % 2 = 1 := hb.1 rfl
  conv => cbv
  refine Fit.mk (by show (-9223372036854775808 : Int) ≤ w - 1; omega) (by show w - 1 ≤ 9223372036854775807; omega) fun v hv => ?_
  have hv : v = w - 1 := hv
  have hdv : v.tdiv 2 = (w - 1) / 2 := by rw [hv]; exact Int.tdiv_eq_ediv_of_dvd (by omega)
  conv => cbv
  refine Fit.mk (by show (-9223372036854775808 : Int) ≤ v.tdiv 2; omega) (by show v.tdiv 2 ≤ 9223372036854775807; omega) fun y hy => ?_
  have hy : y = (w - 1) / 2 := hy.trans hdv
  conv => cbv
  refine RetF.mk [i6 y] [] 0 (Re.at [] []) rfl ⟨y,rfl,rfl,rfl,fun _ => hy,fun k => absurd hb k⟩
theorem rshade_lx (R : List Rw) (vs C G : List Int) (N W ph sp cy : Int) (P B V Q la : List PV) (m : Int) (ov : Bool) (h : RM R vs C G N W P B V Q la m) (a : Int) : CallF (fun _ => Tryz.prog) 83 [.ptr 0 (.lit 0),i6 a] [hpR 0 1 6 3 W 7 ph sp cy,hpB 1 2 5 3 W,hpD 2 3 3 1 N 4 254 8 N,hpP 3 P,hpP 4 B,hpP 5 V,hpP 6 Q,(7,.mix [.p (.vsl (.sym m) true la),.p (.bool ov)])] 8 (fun r h n => ∃ (C' G' : List Int) (ov' : Bool) (Q' la' : List PV) (m' : Int),r = .tup [] ∧ h = [hpR 0 1 6 3 W 7 ph sp cy,hpB 1 2 5 3 W,hpD 2 3 3 1 N 4 254 8 N,hpP 3 P,hpP 4 B,hpP 5 V,hpP 6 Q',(7,.mix [.p (.vsl (.sym m') true la'),.p (.bool ov')])] ∧ n = 8 ∧ RM R vs C' G' N W P B V Q' la' m' ∧ (C',G',ov') = shade R ph a (C,G,ov)) := by
 have hCl := h.c; have hWn := h.w; have hNr := h.n; have hRr := h.r
 have hQl : Q.length = C.length := by rw [h.q,ipv_length]
 refine callF_of_body tok Tryz.func83 (by kernel_rfl) rfl rfl rfl ?_; conv => cbv
 refine Br.mk (fun g => ?_) (fun g => ?_)
 ·have g : ph = 1 := g
  conv => cbv
  refine cfr (ris_lx R vs N a W P B V h.p h.b h.v h.n h.r h.a h.w) [(0,1),(1,2),(2,3),(3,4),(4,5)] (fun r h' n' hrr => ?_)
  obtain ⟨b,e1,e2,e3,hb⟩ := hrr
  subst e1 e2 e3
  cases b with
  | false =>
   conv => cbv
   refine RetF.mk [] [hpR 0 1 6 3 W 7 ph sp cy,hpB 1 2 5 3 W,hpD 2 3 3 1 N 4 254 8 N,hpP 3 P,hpP 4 B,hpP 5 V,hpP 6 Q,(7,.mix [.p (.vsl (.sym m) true la),.p (.bool ov)])] 8 (Re.at [(0,0),(1,1),(2,2),(3,3),(4,4),(5,5),(6,6),(7,7)] []) rfl ⟨C,G,ov,Q,la,m,rfl,rfl,rfl,h,by unfold Go.Proofs.YtjfdfbpgckilpaaGreatDoor.shade; rw [if_neg (fun k => by have := hb.2 ((obj_iff h.a a).1 k.2.1); cases this)]⟩
  | true =>
   have hob : a ∈ objs R := (obj_iff h.a a).2 (hb.1 rfl)
   have hbd := obj_bd h.a hob
   obtain ⟨x,hx⟩ : ∃ x,C[a.toNat]? = some x := ⟨_,List.getElem?_eq_getElem (by omega)⟩
   have hq : Q[a.toNat]? = some (.int .i64 (.sym x)) := by rw [h.q]; exact ipv_get hx
   conv => cbv
   refine Need.mk ⟨by show 0 ≤ a; omega,by show a < W; omega⟩ ?_
   conv => cbv
   refine Cell.at a _ hq (by simp [I.val]) rfl ?_
   conv => cbv
   refine Br.mk (fun g2 => ?_) (fun g2 => ?_)
   ·have g2 : x = 0 := g2
    conv => cbv
    refine Need.mk ⟨by show 0 ≤ a; omega,by show a < W; omega⟩ ?_
    conv => cbv
    obtain ⟨Q3,hQ3⟩ : ∃ Q3,Q3 = ipv (C.set a.toNat 1) := ⟨_,rfl⟩
    refine Need.mk (by show a + 1 ≤ (Q.length : Int); omega) ?_
    conv => cbv
    refine Upd.mk fun Q2 hQ2 => ?_
    have hle : pvles Q2 Q3 := by
     have hQ2 : Q2 = Q.set a.toNat (.int .i64 (.lit 1)) := hQ2
     rw [hQ2,hQ3,h.q,← ipv_set]
     exact pvles_set _ _ _ _ _ (pvles_refl _) (by simp [pvle,I.val])
    unfold pvles at hle
    clear hQ2
    conv => cbv
    refine cfr (refPush_lx G a m la ov h.m h.l h.g8) [(0,7)] (fun r h' n' hrr => ?_)
    obtain ⟨b2,ov',m',la',G',e1,e2,e3,hm',hl',hp1,hp2⟩ := hrr
    subst e1 e2 e3
    have hsh : (C.set a.toNat 1,G',ov') = Go.Proofs.YtjfdfbpgckilpaaGreatDoor.shade R ph a (C,G,ov) := by
     unfold Go.Proofs.YtjfdfbpgckilpaaGreatDoor.shade
     rw [if_pos ⟨g,hob,by rw [hx,g2]⟩]
     dsimp only
     split
     ·obtain ⟨_,q1,q2⟩ := hp1 (by assumption)
      rw [q1,q2]
     ·obtain ⟨_,q1,q2⟩ := hp2 (by omega)
      rw [q1,q2]
    conv => cbv
    refine RetF.mk [] [hpR 0 1 6 3 W 7 ph sp cy,hpB 1 2 5 3 W,hpD 2 3 3 1 N 4 254 8 N,hpP 3 P,hpP 4 B,hpP 5 V,hpP 6 Q3,(7,.mix [.p (.vsl (.sym m') true la'),.p (.bool ov')])] 8 (Re.at [(0,0),(1,1),(2,2),(3,3),(4,4),(5,5),(6,6),(7,7)] []) rfl ⟨_,G',ov',Q3,la',m',rfl,rfl,rfl,h.shade hsh hQ3 hl' hm',hsh⟩
   ·have g2 : ¬ x = 0 := g2
    conv => cbv
    refine RetF.mk [] [hpR 0 1 6 3 W 7 ph sp cy,hpB 1 2 5 3 W,hpD 2 3 3 1 N 4 254 8 N,hpP 3 P,hpP 4 B,hpP 5 V,hpP 6 Q,(7,.mix [.p (.vsl (.sym m) true la),.p (.bool ov)])] 8 (Re.at [(0,0),(1,1),(2,2),(3,3),(4,4),(5,5),(6,6),(7,7)] []) rfl ⟨C,G,ov,Q,la,m,rfl,rfl,rfl,h,by unfold Go.Proofs.YtjfdfbpgckilpaaGreatDoor.shade; rw [if_neg (fun k => g2 (Option.some.inj (hx.symm.trans k.2.2)))]⟩
 ·have g : ¬ ph = 1 := g
  conv => cbv
  refine RetF.mk [] [hpR 0 1 6 3 W 7 ph sp cy,hpB 1 2 5 3 W,hpD 2 3 3 1 N 4 254 8 N,hpP 3 P,hpP 4 B,hpP 5 V,hpP 6 Q,(7,.mix [.p (.vsl (.sym m) true la),.p (.bool ov)])] 8 (Re.at [(0,0),(1,1),(2,2),(3,3),(4,4),(5,5),(6,6),(7,7)] []) rfl ⟨C,G,ov,Q,la,m,rfl,rfl,rfl,h,by unfold Go.Proofs.YtjfdfbpgckilpaaGreatDoor.shade; rw [if_neg (fun k => g k.1)]⟩
theorem RM.stored {R : List Rw} {vs vs' C G : List Int} {N W m : Int} {P B V V' Q la : List PV} {a i x e : Int} (h : RM R vs C G N W P B V Q la m) (hx : -9223372036854775808 ≤ x ∧ x ≤ 9223372036854775807) (hs : Stored R vs a i x e vs') (hV : V' = ipv vs') : RM R vs' C G N W P B V' Q la m :=
 ⟨h.a.stored hx hs,h.n,h.r,h.w,h.p,h.b,hV,h.q,h.c,h.l,h.m,h.g,h.g8⟩
theorem rstore9_lx (R : List Rw) (vs C G : List Int) (N W ph sp cy : Int) (P B V Q la : List PV) (m : Int) (ov : Bool) (h : RM R vs C G N W P B V Q la m) (a i x : Int) (hx : -9223372036854775808 ≤ x ∧ x ≤ 9223372036854775807) : CallF (fun _ => Tryz.prog) 82 [.ptr 0 (.lit 0),i6 a,i6 i,i6 x] [hpR 0 1 6 3 W 7 ph sp cy,hpB 1 2 5 3 W,hpD 2 3 3 1 N 4 254 8 N,hpP 3 P,hpP 4 B,hpP 5 V,hpP 6 Q,(7,.mix [.p (.vsl (.sym m) true la),.p (.bool ov)])] 8 (fun r h n => ∃ (e : Int) (vs' C' G' : List Int) (ov' : Bool) (V' Q' la' : List PV) (m' : Int),r = .p (.int .i64 (.sym e)) ∧ h = [hpR 0 1 6 3 W 7 ph sp cy,hpB 1 2 5 3 W,hpD 2 3 3 1 N 4 254 8 N,hpP 3 P,hpP 4 B,hpP 5 V',hpP 6 Q',(7,.mix [.p (.vsl (.sym m') true la'),.p (.bool ov')])] ∧ n = 8 ∧ RM R vs' C' G' N W P B V' Q' la' m' ∧ Stored R vs a i x e vs' ∧ (C',G',ov') = storeS R ph e x (C,G,ov)) := by
 refine callF_of_body tok Tryz.func82 (by kernel_rfl) rfl rfl rfl ?_; conv => cbv
 refine cfr (rstore_lx i x R vs N a W P B V h.p h.b h.v h.n h.r h.a h.w) [(0,1),(1,2),(2,3),(3,4),(4,5)] (fun r h' n' hrr => ?_)
 obtain ⟨e,vs',V',e1,e2,e3,hV',hT⟩ := hrr
 subst e1 e2 e3
 conv => cbv
 have h2 := h.stored hx hT hV'
 refine Br.mk (fun g => ?_) (fun g => ?_)
 ·have g : e = 0 := g
  conv => cbv
  refine callF_frame (rIsPtr_lx x) [] rfl trivial rfl rfl (fun r h' n' hrr => ?_)
  obtain ⟨b,e1,e2,e3,hb⟩ := hrr
  subst e1 e2 e3
  cases b with
  | false =>
   have hb : ¬ x % 2 = 1 := fun k => by have := hb.2 k; cases this
   conv => cbv
   refine RetF.mk [i6 e] [hpR 0 1 6 3 W 7 ph sp cy,hpB 1 2 5 3 W,hpD 2 3 3 1 N 4 254 8 N,hpP 3 P,hpP 4 B,hpP 5 V',hpP 6 Q,(7,.mix [.p (.vsl (.sym m) true la),.p (.bool ov)])] 8 (Re.at [(0,0),(1,1),(2,2),(3,3),(4,4),(5,5),(6,6),(7,7)] []) rfl ⟨e,vs',C,G,ov,V',Q,la,m,rfl,rfl,rfl,h2,hT,by unfold storeS shadeW; rw [if_pos g,if_neg hb]⟩
  | true =>
   have hb : x % 2 = 1 := hb.1 rfl
   conv => cbv
   refine callF_frame (rAt_lx x hx) [] rfl trivial rfl rfl (fun r h' n' hrr => ?_)
   obtain ⟨y,e1,e2,e3,hy,_⟩ := hrr
   subst e1 e2 e3
   have hy := hy hb
   conv => cbv
   refine cfr (rshade_lx R vs' C G N W ph sp cy P B V' Q la m ov h2 y) [(0,0),(1,1),(2,2),(3,3),(4,4),(5,5),(6,6),(7,7)] (fun r h' n' hrr => ?_)
   obtain ⟨C',G',ov',Q',la',m',e1,e2,e3,h3,hs⟩ := hrr
   subst e1 e2 e3
   conv => cbv
   refine RetF.mk [i6 e] [hpR 0 1 6 3 W 7 ph sp cy,hpB 1 2 5 3 W,hpD 2 3 3 1 N 4 254 8 N,hpP 3 P,hpP 4 B,hpP 5 V',hpP 6 Q',(7,.mix [.p (.vsl (.sym m') true la'),.p (.bool ov')])] 8 (Re.at [(0,0),(1,1),(2,2),(3,3),(4,4),(5,5),(6,6),(7,7)] []) rfl ⟨e,vs',C',G',ov',V',Q',la',m',rfl,rfl,rfl,h3,hT,by unfold storeS shadeW; rw [if_pos g,if_pos hb,← hy]; exact hs⟩
 ·have g : ¬ e = 0 := g
  conv => cbv
  refine RetF.mk [i6 e] [hpR 0 1 6 3 W 7 ph sp cy,hpB 1 2 5 3 W,hpD 2 3 3 1 N 4 254 8 N,hpP 3 P,hpP 4 B,hpP 5 V',hpP 6 Q,(7,.mix [.p (.vsl (.sym m) true la),.p (.bool ov)])] 8 (Re.at [(0,0),(1,1),(2,2),(3,3),(4,4),(5,5),(6,6),(7,7)] []) rfl ⟨e,vs',C,G,ov,V',Q,la,m,rfl,rfl,rfl,h2,hT,by unfold storeS; rw [if_neg g]⟩
theorem rwords9_lx (R : List Rw) (vs C G : List Int) (N W ph sp cy : Int) (P B V Q la : List PV) (m : Int) (ov : Bool) (h : RM R vs C G N W P B V Q la m) (a : Int) : CallF (fun _ => Tryz.prog) 108 [.ptr 0 (.lit 0),i6 a] [hpR 0 1 6 3 W 7 ph sp cy,hpB 1 2 5 3 W,hpD 2 3 3 1 N 4 254 8 N,hpP 3 P,hpP 4 B,hpP 5 V,hpP 6 Q,(7,.mix [.p (.vsl (.sym m) true la),.p (.bool ov)])] 8 (fun r h n => ∃ (X : List Int) (k : Int) (O : List PV),r = .sl 8 3 1 (.lit 0) (.sym k) ∧ h = [hpR 0 1 6 3 W 7 ph sp cy,hpB 1 2 5 3 W,hpD 2 3 3 1 N 4 254 8 N,hpP 3 P,hpP 4 B,hpP 5 V,hpP 6 Q,(7,.mix [.p (.vsl (.sym m) true la),.p (.bool ov)]),hpP 8 O] ∧ n = 9 ∧ O = ipv X ∧ k = X.length ∧ Wrds R vs a X) := by
 have hVl : V.length = vs.length := by rw [h.v,ipv_length]
 have hWn := h.w; have hNr := h.n; have hRr := h.r
 have hlen := h.a.len
 obtain ⟨v,hv⟩ : ∃ v,LenR R vs a v := by
  by_cases ho : IsObj R a
  ·obtain ⟨k,l,hk⟩ := Kept.of h.a ho; exact ⟨l,.is k l hk⟩
  ·exact ⟨0,.no ho⟩
 obtain ⟨X,hX,hvX,hX31⟩ := wrds_ex h.a hv
 refine callF_of_body tok Tryz.func108 (by kernel_rfl) rfl rfl rfl ?_; conv => cbv
 refine LoopF.mk (fun k s => ∃ (i : Int) (O : List PV),s = ⟨.ptr 0 (.lit 0) :: .p (.int .i64 (.sym a)) :: (undefs 3 ++ .sl 8 3 1 (.lit 0) (.sym i) :: .p (.int .i64 (.sym i)) :: undefs 27),[hpR 0 1 6 3 W 7 ph sp cy,hpB 1 2 5 3 W,hpD 2 3 3 1 N 4 254 8 N,hpP 3 P,hpP 4 B,hpP 5 V,hpP 6 Q,(7,.mix [.p (.vsl (.sym m) true la),.p (.bool ov)]),hpP 8 O],9⟩ ∧ 0 ≤ i ∧ i ≤ v ∧ O = ipv (X.take i.toNat) ∧ k = (v - i).toNat) v.toNat _
  (Re.at [(0,0),(1,1),(2,2),(3,3),(4,4),(5,5),(6,6),(7,7)] [8]) ⟨0,[],rfl,by omega,by omega,by simp [ipv],by omega⟩ ?_
 rintro k s ⟨i,O,rfl,hi0,hi1,hO,hk⟩
 have hOl : (O.length : Int) = i := by rw [hO,ipv_length,List.length_take]; omega
 conv => cbv
 refine cfr (rlen_lx R vs N a W P B V h.p h.b h.v h.n h.r h.a h.w) [(0,1),(1,2),(2,3),(3,4),(4,5)] (fun r h' n' hrr => ?_)
 obtain ⟨v2,e1,e2,e3,hv2⟩ := hrr
 subst e1 e2 e3
 obtain rfl : v2 = v := by
  cases hv with
  | no hn => cases hv2 with
   | no _ => rfl
   | is k l hk => exact absurd hk.obj6 hn
  | is k l hk => cases hv2 with
   | no hn => exact absurd hk.obj6 hn
   | is k' l' hk' => exact (hk'.det9 hk).2
 conv => cbv
 refine Br.mk (fun gi => ?_) (fun gi => ?_)
 ·have gi : i < v2 := gi
  obtain ⟨k',rfl⟩ : ∃ k',k = k' + 1 := ⟨k - 1,by omega⟩
  obtain ⟨x0,hx0⟩ : ∃ x0,X[i.toNat]? = some x0 := ⟨_,List.getElem?_eq_getElem (by omega)⟩
  have hld := hX.2 _ _ hx0
  rw [show ((i.toNat : Nat) : Int) = i by omega] at hld
  obtain ⟨hab,hxv⟩ : (0 ≤ a ∧ a + 1 + v2 ≤ W) ∧ vs[(a + 1 + i).toNat]? = some x0 := by
   cases hld with
   | ok k0 l0 _ hK hi hx =>
    have hb := hK.bounds h.a
    have : l0 = v2 := by
     clear hX hvX hO hOl
     cases hv with
     | no hn => exact absurd hK.obj6 hn
     | is k' l' hK' => exact (hK.det9 hK').2
    exact ⟨⟨by omega,by omega⟩,hx⟩
  have hq : V[(a + 1 + i).toNat]? = some (.int .i64 (.sym x0)) := by rw [h.v]; exact ipv_get hxv
  conv => cbv
  refine Fit.mk (by show (-9223372036854775808 : Int) ≤ a + 1; omega) (by show a + 1 ≤ 9223372036854775807; omega) fun a1 ha1 => ?_
  have ha1 : a1 = a + 1 := ha1
  conv => cbv
  refine Fit.mk (by show (-9223372036854775808 : Int) ≤ a1 + i; omega) (by show a1 + i ≤ 9223372036854775807; omega) fun a2 ha2 => ?_
  have ha2 : a2 = a1 + i := ha2
  rw [show (a + 1 + i).toNat = a2.toNat by omega] at hq
  conv => cbv
  refine Need.mk ⟨by show 0 ≤ a2; omega,by show a2 < W; omega⟩ ?_
  conv => cbv
  refine Cell.at a2 _ hq (by simp [I.val]) rfl ?_
  conv => cbv
  refine Room.new rfl ?_
  conv => cbv
  refine Room.new ⟨?_,?_,?_⟩ ?_
  ·show (O.length : Int) = i * 1; omega
  ·show (i + 1) * 8 ≤ 140737488355328; omega
  ·show i + 1 ≤ 9223372036854775807; omega
  conv => cbv
  refine Upd.mk fun O3 hO3 => ?_
  have hO3 : O3 = O ++ [.int .i64 (.sym x0)] := hO3
  have hO3 : O3 = ipv (X.take (i.toNat + 1)) := by
   rw [hO3,hO,List.take_add_one,hx0]
   simp [ipv]
  conv => cbv
  refine Sum.mk fun j2 hj2 => ?_
  have hj2 : j2 = i + 1 := hj2
  conv => cbv
  refine Fit.mk (by show (-9223372036854775808 : Int) ≤ i + 1; omega) (by show i + 1 ≤ 9223372036854775807; omega) fun i2 hi2 => ?_
  have hi2 : i2 = i + 1 := hi2
  obtain rfl : j2 = i2 := by omega
  have htt : j2.toNat = i.toNat + 1 := by omega
  rw [← htt] at hO3
  conv => cbv
  refine Again.mk k' _ (Nat.lt_succ_self _) (Re.at [(0,0),(1,1),(2,2),(3,3),(4,4),(5,5),(6,6),(7,7),(10,8)] []) ⟨j2,O3,rfl,by omega,by omega,hO3,by omega⟩
 ·have gi : ¬ i < v2 := gi
  obtain rfl : i = v2 := by omega
  have hOX : O = ipv X := by rw [hO,List.take_of_length_le (by omega)]
  conv => cbv
  refine RetF.mk [.sl 8 3 1 (.lit 0) (.sym i)] [hpR 0 1 6 3 W 7 ph sp cy,hpB 1 2 5 3 W,hpD 2 3 3 1 N 4 254 8 N,hpP 3 P,hpP 4 B,hpP 5 V,hpP 6 Q,(7,.mix [.p (.vsl (.sym m) true la),.p (.bool ov)]),hpP 8 O] 9 (Re.at [(0,0),(1,1),(2,2),(3,3),(4,4),(5,5),(6,6),(7,7),(8,8)] []) rfl ⟨X,i,O,rfl,rfl,rfl,hOX,hvX,hX⟩
theorem alloctV_gen9 {R R' : List Rw} {vs vs' : List Int} {kind n a e : Int} (hA : AOk R vs) (h : AlloctV R vs kind n a e R' vs') :
  AOk R' vs' ∧ R'.length = R.length ∧ ((e ≠ 0 ∧ a = 0 ∧ R' = R ∧ vs' = vs) ∨ (e = 0 ∧ (0 ≤ n ∧ n ≤ 31 ∧ 1 ≤ kind ∧ kind ≤ 6) ∧ Kept R' vs' a kind n ∧ (∀ b k l,Kept R vs b k l → Kept R' vs' b k l ∧ b ≠ a ∧ ∀ i,0 ≤ i → i < l → vs'[(b + 1 + i).toNat]? = vs[(b + 1 + i).toNat]?) ∧ (∀ b,IsObj R' b → b = a ∨ IsObj R b))) := by
 cases h with
 | arg h => exact ⟨hA,rfl,.inl ⟨by decide,rfl,rfl,rfl⟩⟩
 | room i s R' hc ha =>
  obtain ⟨rfl,_⟩ := full_count hA.rows (ofN_slots n) ha
  exact ⟨hA,rfl,.inl ⟨by decide,rfl,rfl,rfl⟩⟩
 | ok i s _ R' hc ha hat =>
  obtain ⟨w,hw⟩ : ∃ w,w = wordsOf (ofN n) := ⟨_,rfl⟩
  obtain ⟨q1,q2,q3,q4,q5⟩ := alloc_objs hA.rows ha a w hat hw
  have hobj : ObjAt R' a w := (q5 _ _).2 (.inr ⟨rfl,rfl⟩)
  obtain ⟨f1,f2,f3,_⟩ := hobj.facts q1
  have hnw : n < w := by rw [hw]; exact (ofN_words ⟨hc.1,hc.2.1⟩).1
  have hlv := hA.len
  have gv : ∀ j : Nat,j < vs.length → j ≠ a.toNat → ((zer vs a.toNat (wordsOf (ofN n)).toNat).set a.toNat (kind + 16 * n))[j]? = if a.toNat ≤ j ∧ j < a.toNat + (wordsOf (ofN n)).toNat then some 0 else vs[j]? := fun j hj hne => by
   rw [List.getElem?_set_ne (fun e => hne e.symm),zer_get _ _ _ _ hj]
  rw [← hw] at gv ⊢
  have farv : ∀ j : Nat,(j : Int) < a ∨ a + w ≤ j → ((zer vs a.toNat w.toNat).set a.toNat (kind + 16 * n))[j]? = vs[j]? := fun j hj => by
   by_cases hjl : j < vs.length
   ·rw [gv j hjl (by omega),if_neg (by omega)]
   ·rw [List.getElem?_eq_none (by rw [List.length_set,zer_length]; omega),List.getElem?_eq_none (by omega)]
  have hbdv : ∀ x ∈ (zer vs a.toNat w.toNat).set a.toNat (kind + 16 * n),-9223372036854775808 ≤ x ∧ x ≤ 9223372036854775807 := by
   intro x hx
   rcases List.mem_or_eq_of_mem_set hx with hx | rfl
   ·obtain ⟨j,hj⟩ := List.getElem?_of_mem hx
    have hjl : j < vs.length := by have := (List.getElem?_eq_some_iff.1 hj).1; rw [zer_length] at this; exact this
    rw [zer_get _ _ _ _ hjl] at hj
    split at hj
    ·cases hj; omega
    ·exact hA.bd x (List.mem_of_getElem? hj)
   ·omega
  obtain ⟨r1,r2,r3,r4⟩ := alloc_gen hA hc ha hat hw (by rw [List.length_set,zer_length]) (by rw [List.getElem?_set_self (by rw [zer_length]; omega)]) farv hbdv
  exact ⟨r1,q2,.inr ⟨rfl,hc,r2,r3,r4⟩⟩
theorem RM.alloct {R R' : List Rw} {vs vs' C C' G : List Int} {N W m : Int} {P P' B B' V V' Q Q' la : List PV} {kind n a e : Int} (h : RM R vs C G N W P B V Q la m) (hs : AlloctV R vs kind n a e R' vs') (hP : P' = cpv R') (hB : B' = bpv R') (hV : V' = ipv vs') (hC : C'.length = C.length) (hQ : Q' = ipv C') : RM R' vs' C' G N W P' B' V' Q' la m := by
 obtain ⟨h1,h2,_⟩ := alloctV_gen9 h.a hs
 exact ⟨h1,by rw [h2]; exact h.n,by rw [h2]; exact h.r,h.w,hP,hB,hV,hQ,by rw [hC]; exact h.c,h.l,h.m,h.g,h.g8⟩
theorem ralloc9_lx (R : List Rw) (vs C G : List Int) (N W ph sp cy : Int) (P B V Q la : List PV) (m : Int) (ov : Bool) (h : RM R vs C G N W P B V Q la m) (kind mm : Int) : CallF (fun _ => Tryz.prog) 103 [.ptr 0 (.lit 0),i6 kind,i6 mm] [hpR 0 1 6 3 W 7 ph sp cy,hpB 1 2 5 3 W,hpD 2 3 3 1 N 4 254 8 N,hpP 3 P,hpP 4 B,hpP 5 V,hpP 6 Q,(7,.mix [.p (.vsl (.sym m) true la),.p (.bool ov)])] 8 (fun r h n => ∃ (a e : Int) (R' : List Rw) (vs' C' : List Int) (P' B' V' Q' : List PV),r = .tup [i6 a,i6 e] ∧ h = [hpR 0 1 6 3 W 7 ph sp cy,hpB 1 2 5 3 W,hpD 2 3 3 1 N 4 254 8 N,hpP 3 P',hpP 4 B',hpP 5 V',hpP 6 Q',(7,.mix [.p (.vsl (.sym m) true la),.p (.bool ov)])] ∧ n = 8 ∧ RM R' vs' C' G N W P' B' V' Q' la m ∧ AlloctV R vs kind mm a e R' vs' ∧ C' = allocC ph a e C) := by
 have hCl := h.c; have hWn := h.w; have hNr := h.n; have hRr := h.r
 have hQl : Q.length = C.length := by rw [h.q,ipv_length]
 refine callF_of_body tok Tryz.func103 (by kernel_rfl) rfl rfl rfl ?_; conv => cbv
 refine cfr (rallocA_lx kind mm R vs N W P B V h.p h.b h.v h.n h.r h.a h.w) [(0,1),(1,2),(2,3),(3,4),(4,5)] (fun r h' n' hrr => ?_)
 obtain ⟨a,e,R',vs',P',B',V',e1,e2,e3,hP',hB',hV',hT⟩ := hrr
 subst e1 e2 e3
 conv => cbv
 have hgen := alloctV_gen9 h.a hT
 refine Br.mk (fun g => ?_) (fun g => ?_)
 ·have g : e ≠ 0 := g
  have ha0 : a = 0 := by
   rcases hgen.2.2 with h | h
   ·exact h.2.1
   ·exact absurd h.1 g
  conv => cbv
  refine RetF.mk [i6 a,i6 e] [hpR 0 1 6 3 W 7 ph sp cy,hpB 1 2 5 3 W,hpD 2 3 3 1 N 4 254 8 N,hpP 3 P',hpP 4 B',hpP 5 V',hpP 6 Q,(7,.mix [.p (.vsl (.sym m) true la),.p (.bool ov)])] 8 (Re.at [(0,0),(1,1),(2,2),(3,3),(4,4),(5,5),(6,6),(7,7)] []) rfl ⟨a,e,R',vs',C,P',B',V',Q,rfl,rfl,rfl,h.alloct hT hP' hB' hV' rfl h.q,hT,by unfold allocC; rw [if_neg g]⟩
 ·have g : ¬ e ≠ 0 := g
  have g : e = 0 := by omega
  have hA1 := hgen.1
  have hlR := hgen.2.1
  have hb : 0 ≤ a ∧ a < W := by
   rcases hgen.2.2 with h | h
   ·exact absurd g h.1
   ·have h1 := (h.2.2.1).bounds hA1
    omega
  obtain ⟨C',hC'⟩ : ∃ C',C' = allocC ph a e C := ⟨_,rfl⟩
  obtain ⟨Q',hQ'⟩ : ∃ Q',Q' = ipv C' := ⟨_,rfl⟩
  have hfin := h.alloct hT hP' hB' hV' (by rw [hC']; exact allocC_length _ _ _ _) hQ'
  conv => cbv
  refine Need.mk ⟨by show 0 ≤ a; omega,by show a < W; omega⟩ ?_
  conv => cbv
  refine Need.mk (by show a + 1 ≤ (Q.length : Int); omega) ?_
  conv => cbv
  refine Upd.mk fun Q2 hQ2 => ?_
  have hQ2 : Q2 = Q.set a.toNat (.int .i64 (.lit 0)) := hQ2
  conv => cbv
  refine Br.mk (fun gp => ?_) (fun gp => ?_)
  ·have gp : ph ≠ 0 := gp
   conv => cbv
   refine Need.mk ⟨by show 0 ≤ a; omega,by show a < W; omega⟩ ?_
   conv => cbv
   refine Need.mk (by show a + 1 ≤ (Q2.length : Int); rw [hQ2,List.length_set]; omega) ?_
   conv => cbv
   refine Upd.mk fun Q3 hQ3 => ?_
   have hle : pvles Q3 Q' := by
    have hQ3 : Q3 = Q2.set a.toNat (.int .i64 (.lit 2)) := hQ3
    rw [hQ3,hQ2,hQ',hC',allocC,if_pos g,if_neg gp,h.q,← ipv_set,List.set_set]
    exact pvles_set _ _ _ _ _ (pvles_refl _) (by simp [pvle,I.val])
   unfold pvles at hle
   clear hQ3 hQ2
   conv => cbv
   refine RetF.mk [i6 a,i6 e] [hpR 0 1 6 3 W 7 ph sp cy,hpB 1 2 5 3 W,hpD 2 3 3 1 N 4 254 8 N,hpP 3 P',hpP 4 B',hpP 5 V',hpP 6 Q',(7,.mix [.p (.vsl (.sym m) true la),.p (.bool ov)])] 8 (Re.at [(0,0),(1,1),(2,2),(3,3),(4,4),(5,5),(6,6),(7,7)] []) rfl ⟨a,e,R',vs',C',P',B',V',Q',rfl,rfl,rfl,hfin,hT,hC'⟩
  ·have gp : ¬ ph ≠ 0 := gp
   have gp : ph = 0 := by omega
   have hle : pvles Q2 Q' := by
    rw [hQ2,hQ',hC',allocC,if_pos g,if_pos gp,h.q,← ipv_set]
    exact pvles_set _ _ _ _ _ (pvles_refl _) (by simp [pvle,I.val])
   unfold pvles at hle
   clear hQ2
   conv => cbv
   refine RetF.mk [i6 a,i6 e] [hpR 0 1 6 3 W 7 ph sp cy,hpB 1 2 5 3 W,hpD 2 3 3 1 N 4 254 8 N,hpP 3 P',hpP 4 B',hpP 5 V',hpP 6 Q',(7,.mix [.p (.vsl (.sym m) true la),.p (.bool ov)])] 8 (Re.at [(0,0),(1,1),(2,2),(3,3),(4,4),(5,5),(6,6),(7,7)] []) rfl ⟨a,e,R',vs',C',P',B',V',Q',rfl,rfl,rfl,hfin,hT,hC'⟩
theorem rbegin_lx (R : List Rw) (vs C G : List Int) (N W ph sp cy : Int) (P B V Q la : List PV) (m : Int) (ov : Bool) (h : RM R vs C G N W P B V Q la m) (A : List Int) (k : Int) (rs : List PV) (hrs : rs = ipv A) (hk : k = A.length) (hA : (A.length : Int) < 1000000) (hph : ph = 0) : CallF (fun _ => Tryz.prog) 29 [.ptr 0 (.lit 0),.p (.vsl (.sym k) true rs)] [hpR 0 1 6 3 W 7 ph sp cy,hpB 1 2 5 3 W,hpD 2 3 3 1 N 4 254 8 N,hpP 3 P,hpP 4 B,hpP 5 V,hpP 6 Q,(7,.mix [.p (.vsl (.sym m) true la),.p (.bool ov)])] 8 (fun r h n => ∃ (C' G' : List Int) (ov' : Bool) (Q' la' : List PV) (m' : Int),r = .p (.int .i64 (.lit 0)) ∧ h = [hpR 0 1 6 3 W 8 1 sp cy,hpB 1 2 5 3 W,hpD 2 3 3 1 N 4 254 8 N,hpP 3 P,hpP 4 B,hpP 5 V,hpP 6 Q',(8,.mix [.p (.vsl (.sym m') true la'),.p (.bool ov')])] ∧ n = 9 ∧ RM R vs C' G' N W P B V Q' la' m' ∧ (C',G',ov') = begS R W A) := by
 have hCl := h.c; have hWn := h.w; have hNr := h.n; have hRr := h.r
 have hQl : Q.length = C.length := by rw [h.q,ipv_length]
 refine callF_of_body tok Tryz.func29 (by kernel_rfl) rfl rfl rfl ?_; conv => cbv
 refine Br.no (show ¬ (ph ≠ 0) by omega) ?_
 conv => cbv
 refine LoopF.mk (fun kk s => ∃ (i : Int) (C' : List Int) (Q' : List PV),s = ⟨.ptr 0 (.lit 0) :: .p (.vsl (.sym k) true rs) :: (undefs 3 ++ .p (.int .i64 (.sym i)) :: undefs 41),[hpR 0 1 6 3 W 7 ph sp cy,hpB 1 2 5 3 W,hpD 2 3 3 1 N 4 254 8 N,hpP 3 P,hpP 4 B,hpP 5 V,hpP 6 Q',(7,.mix [.p (.vsl (.sym m) true la),.p (.bool ov)])],8⟩ ∧ 0 ≤ i ∧ i ≤ W ∧ Q' = ipv C' ∧ C' = List.replicate i.toNat 0 ++ C.drop i.toNat ∧ kk = (W - i).toNat) W.toNat _
  (Re.at [(0,0),(1,1),(2,2),(3,3),(4,4),(5,5),(6,6),(7,7)] []) ⟨0,C,Q,rfl,by omega,by omega,h.q,by simp,by omega⟩ ?_
 rintro kk s ⟨i,C',Q',rfl,hi0,hi1,hQ',hC',hkk⟩
 have hC'l : C'.length = C.length := by rw [hC',List.length_append,List.length_replicate,List.length_drop]; omega
 have hQ'l : Q'.length = C.length := by rw [hQ',ipv_length]; exact hC'l
 conv => cbv
 refine Br.mk (fun gi => ?_) (fun gi => ?_)
 ·have gi : i < W := gi
  obtain ⟨k',rfl⟩ : ∃ k',kk = k' + 1 := ⟨kk - 1,by omega⟩
  conv => cbv
  refine Need.mk ⟨hi0,gi⟩ ?_
  conv => cbv
  refine Need.mk (by show i + 1 ≤ (Q'.length : Int); omega) ?_
  conv => cbv
  obtain ⟨C2,hC2⟩ : ∃ C2,C2 = C'.set i.toNat 0 := ⟨_,rfl⟩
  obtain ⟨Q3,hQ3⟩ : ∃ Q3,Q3 = ipv C2 := ⟨_,rfl⟩
  refine Upd.mk fun Q2 hQ2 => ?_
  have hle : pvles Q2 Q3 := by
   have hQ2 : Q2 = Q'.set i.toNat (.int .i64 (.lit 0)) := hQ2
   rw [hQ2,hQ3,hC2,hQ',← ipv_set]
   exact pvles_set _ _ _ _ _ (pvles_refl _) (by simp [pvle,I.val])
  unfold pvles at hle
  clear hQ2
  have hC3 : C2 = List.replicate (i.toNat + 1) 0 ++ C.drop (i.toNat + 1) := by
   rw [hC2,hC',List.set_append_right _ _ (by rw [List.length_replicate]; omega),List.length_replicate,Nat.sub_self,List.drop_eq_getElem_cons (by omega),List.set_cons_zero,List.replicate_succ',List.append_assoc]
   rfl
  conv => cbv
  refine Fit.mk (by show (-9223372036854775808 : Int) ≤ i + 1; omega) (by show i + 1 ≤ 9223372036854775807; omega) fun i2 hi2 => ?_
  have hi2 : i2 = i + 1 := hi2
  rw [show i.toNat + 1 = i2.toNat by omega] at hC3
  conv => cbv
  refine Again.mk k' _ (Nat.lt_succ_self _) (Re.at [(0,0),(1,1),(2,2),(3,3),(4,4),(5,5),(6,6),(7,7)] []) ⟨i2,C2,Q3,rfl,by omega,by omega,hQ3,hC3,by omega⟩
 ·have gi : ¬ i < W := gi
  have hC' : C' = List.replicate W.toNat 0 := by rw [hC',show i.toNat = W.toNat by omega,List.drop_of_length_le (by omega),List.append_nil]
  have hM0 : RM R vs (List.replicate W.toNat 0) [] N W P B V Q' [] 0 := ⟨h.a,h.n,h.r,h.w,h.p,h.b,h.v,by rw [hQ',hC'],by rw [List.length_replicate]; omega,rfl,rfl,fun x hx => (by cases hx),Nat.zero_le _⟩
  clear hQ' hC' hC'l hQ'l
  conv => cbv
  refine LoopF.mk (fun kk s => ∃ (i : Int) (C' G' : List Int) (ov' : Bool) (Q' la' : List PV) (m' : Int),s = ⟨.ptr 0 (.lit 0) :: .p (.vsl (.sym k) true rs) :: (undefs 4 ++ .p (.int .i64 (.sym i)) :: undefs 40),[hpR 0 1 6 3 W 8 1 sp cy,hpB 1 2 5 3 W,hpD 2 3 3 1 N 4 254 8 N,hpP 3 P,hpP 4 B,hpP 5 V,hpP 6 Q',(8,.mix [.p (.vsl (.sym m') true la'),.p (.bool ov')])],9⟩ ∧ 0 ≤ i ∧ i ≤ k ∧ RM R vs C' G' N W P B V Q' la' m' ∧ (C',G',ov') = begS R W (A.take i.toNat) ∧ kk = (k - i).toNat) k.toNat _
   (Re.at [(0,0),(1,1),(2,2),(3,3),(4,4),(5,5),(6,6),(8,8)] []) ⟨0,_,_,_,Q',[],0,rfl,by omega,by omega,hM0,rfl,by omega⟩ ?_
  clear hM0
  rintro kk s ⟨i,C',G',ov',Q',la',m',rfl,hi0,hi1,h2,hS,hk2⟩
  conv => cbv
  refine Br.mk (fun gi => ?_) (fun gi => ?_)
  ·have gi : i < k := gi
   obtain ⟨k',rfl⟩ : ∃ k',kk = k' + 1 := ⟨kk - 1,by omega⟩
   obtain ⟨a,ha⟩ : ∃ a,A[i.toNat]? = some a := ⟨_,List.getElem?_eq_getElem (by omega)⟩
   have hc : rs[i.toNat]? = some (.int .i64 (.sym a)) := by rw [hrs]; exact ipv_get ha
   conv => cbv
   refine Need.mk ⟨hi0,gi⟩ ?_
   conv => cbv
   refine Cell.at i _ hc (by simp [I.val]) rfl ?_
   conv => cbv
   refine cfr (rshade_lx R vs C' G' N W 1 sp cy P B V Q' la' m' ov' h2 a) [(0,0),(1,1),(2,2),(3,3),(4,4),(5,5),(6,6),(7,8)] (fun r h' n' hrr => ?_)
   obtain ⟨C2,G2,ov2,Q2,la2,m2,e1,e2,e3,h3,hS2⟩ := hrr
   subst e1 e2 e3
   have hS3 : (C2,G2,ov2) = begS R W (A.take (i.toNat + 1)) := by
    rw [hS2,hS]
    unfold begS
    rw [List.take_add_one,ha,Option.toList_some,List.foldl_append]; rfl
   conv => cbv
   refine Fit.mk (by show (-9223372036854775808 : Int) ≤ i + 1; omega) (by show i + 1 ≤ 9223372036854775807; omega) fun i2 hi2 => ?_
   have hi2 : i2 = i + 1 := hi2
   rw [show i.toNat + 1 = i2.toNat by omega] at hS3
   conv => cbv
   refine Again.mk k' _ (Nat.lt_succ_self _) (Re.at [(0,0),(1,1),(2,2),(3,3),(4,4),(5,5),(6,6),(8,8)] []) ⟨i2,C2,G2,ov2,Q2,la2,m2,rfl,by omega,by omega,h3,hS3,by omega⟩
  ·have gi : ¬ i < k := gi
   rw [List.take_of_length_le (by omega)] at hS
   conv => cbv
   refine RetF.mk [.p (.int .i64 (.lit 0))] [hpR 0 1 6 3 W 8 1 sp cy,hpB 1 2 5 3 W,hpD 2 3 3 1 N 4 254 8 N,hpP 3 P,hpP 4 B,hpP 5 V,hpP 6 Q',(8,.mix [.p (.vsl (.sym m') true la'),.p (.bool ov')])] 9 (Re.at [(0,0),(1,1),(2,2),(3,3),(4,4),(5,5),(6,6),(8,8)] []) rfl ⟨C',G',ov',Q',la',m',rfl,rfl,rfl,h2,hS⟩
theorem rbeginState_lx (R : List Rw) (vs C G : List Int) (N W ph sp cy : Int) (P B V Q la : List PV) (m : Int) (ov : Bool) (h : RM R vs C G N W P B V Q la m) (k : Int) (rs : List PV) (hph : ph ≠ 0) : CallF (fun _ => Tryz.prog) 29 [.ptr 0 (.lit 0),.p (.vsl (.sym k) true rs)] [hpR 0 1 6 3 W 7 ph sp cy,hpB 1 2 5 3 W,hpD 2 3 3 1 N 4 254 8 N,hpP 3 P,hpP 4 B,hpP 5 V,hpP 6 Q,(7,.mix [.p (.vsl (.sym m) true la),.p (.bool ov)])] 8 (fun r h n => r = .p (.int .i64 (.lit 11)) ∧ h = [hpR 0 1 6 3 W 7 ph sp cy,hpB 1 2 5 3 W,hpD 2 3 3 1 N 4 254 8 N,hpP 3 P,hpP 4 B,hpP 5 V,hpP 6 Q,(7,.mix [.p (.vsl (.sym m) true la),.p (.bool ov)])] ∧ n = 8) := by
 refine callF_of_body tok Tryz.func29 (by kernel_rfl) rfl rfl rfl ?_; conv => cbv
 refine Br.yes (show ph ≠ 0 from hph) ?_
 conv => cbv
 refine RetF.mk [.p (.int .i64 (.lit 11))] [hpR 0 1 6 3 W 7 ph sp cy,hpB 1 2 5 3 W,hpD 2 3 3 1 N 4 254 8 N,hpP 3 P,hpP 4 B,hpP 5 V,hpP 6 Q,(7,.mix [.p (.vsl (.sym m) true la),.p (.bool ov)])] 8 (Re.at [(0,0),(1,1),(2,2),(3,3),(4,4),(5,5),(6,6),(7,7)] []) rfl ⟨rfl,rfl,rfl⟩
theorem HM.pop {R : List Rw} {ws C A : List Int} {v : Int} {N W : Int} {L D Q : List PV} {z z' : ByteArray} (h : HM R ws C (A ++ [v]) N W L D Q z) (hz : z' = ⟨(enc A).toArray⟩) : HM R ws C A N W L D Q z' ∧ 0 ≤ v ∧ v < W :=
 ⟨⟨h.a,h.k,h.n,h.r,h.w,h.l,h.d,h.q,h.c,hz,fun x hx => h.g x (List.mem_append_left _ hx),by have := h.g8; rw [List.length_append] at this; omega⟩,h.g v (by simp)⟩
theorem nextGreyPop_lx (R : List Rw) (ws C G : List Int) (N W ph sp cy : Int) (L D Q : List PV) (z : ByteArray) (ov : Bool) (h : HM R ws C G N W L D Q z) (A : List Int) (v : Int) (hG : G = A ++ [v]) : CallF (fun _ => Tryz.prog) 126 [.ptr 0 (.lit 0)] [hpA 0 1 5 6 3 W ph sp cy,hpB 1 2 4 3 W,hpC 2 3 179 2 N,hpP 3 L,hpP 4 D,hpF 5 z ov,hpP 6 Q] 7 (fun r h n => ∃ (z' : ByteArray),r = .tup [i6 v,.p (.bool true)] ∧ h = [hpA 0 1 5 6 3 W ph sp cy,hpB 1 2 4 3 W,hpC 2 3 179 2 N,hpP 3 L,hpP 4 D,hpF 5 z' ov,hpP 6 Q] ∧ n = 7 ∧ HM R ws C A N W L D Q z') := by
 refine callF_of_body tok Tryz.func126 (by kernel_rfl) rfl rfl rfl ?_; conv => cbv
 refine cfr (greyPop_lx G z ov h.z h.g64 h.g8) [(0,5)] (fun r h' n' hrr => ?_)
 obtain ⟨v2,b,z',A',e1,e2,e3,hz',h4⟩ := hrr
 subst e1 e2 e3
 obtain ⟨hGA,rfl⟩ : G = A' ++ [v2] ∧ b = true := by
  rcases h4 with ⟨e,_⟩ | h4
  ·rw [e] at hG; exact absurd hG.symm (by simp)
  ·exact h4
 obtain ⟨rfl,hv2⟩ := List.append_inj' (hG.symm.trans hGA) rfl
 obtain rfl : v = v2 := by simpa using hv2
 conv => cbv
 refine RetF.mk [i6 v,.p (.bool true)] [hpA 0 1 5 6 3 W ph sp cy,hpB 1 2 4 3 W,hpC 2 3 179 2 N,hpP 3 L,hpP 4 D,hpF 5 z' ov,hpP 6 Q] 7 (Re.at [(0,0),(1,1),(2,2),(3,3),(4,4),(5,5),(6,6)] []) rfl ⟨z',rfl,rfl,rfl,(HM.pop (hG ▸ h) hz').1⟩
theorem markPop_lx (R : List Rw) (ws C G : List Int) (N W ph sp cy : Int) (L D Q : List PV) (z : ByteArray) (ov : Bool) (h : HM R ws C G N W L D Q z) (o : Unit → Obj) (ho : IsPow o) (A : List Int) (v : Int) (hG : G = A ++ [v]) : CallF (fun _ => Tryz.prog) 62 [.ptr 0 (.lit 0)] [hpA 0 1 5 6 3 W ph sp cy,hpB 1 2 4 3 W,hpC 2 3 179 2 N,hpP 3 L,hpP 4 D,hpF 5 z ov,hpP 6 Q,(7,.fix 0 o)] 8 (fun r h n => ∃ (X C' G' : List Int) (ov' : Bool) (Q' : List PV) (z' : ByteArray),r = .p .nils ∧ h = [hpA 0 1 5 6 3 W ph sp cy,hpB 1 2 4 3 W,hpC 2 3 179 2 N,hpP 3 L,hpP 4 D,hpF 5 z' ov',hpP 6 Q',(7,.fix 0 o)] ∧ n = 8 ∧ HM R ws C' G' N W L D Q' z' ∧ Wrds R ws v X ∧ (C',G',ov') = scanS R ph v X (C,A,ov)) := by
 have hv := (HM.pop (z' := ⟨(enc A).toArray⟩) (hG ▸ h) rfl).2
 refine callF_of_body tok Tryz.func62 (by kernel_rfl) rfl rfl rfl ?_; conv => cbv
 refine cfr (nextGreyPop_lx R ws C G N W ph sp cy L D Q z ov h A v hG) [(0,0),(1,1),(2,2),(3,3),(4,4),(5,5),(6,6)] (fun r h' n' hrr => ?_)
 obtain ⟨z1,e1,e2,e3,h1⟩ := hrr
 subst e1 e2 e3
 conv => cbv
 refine cfr (scan_lx R ws C A N W ph sp cy L D Q z1 ov h1 o ho v hv) [(0,0),(1,1),(2,2),(3,3),(4,4),(5,5),(6,6),(7,7)] (fun r h' n' hrr => ?_)
 obtain ⟨X,C',G',ov',Q',z',e1,e2,e3,h2,hX,hS⟩ := hrr
 subst e1 e2 e3
 conv => cbv
 refine RetF.mk [.p .nils] [hpA 0 1 5 6 3 W ph sp cy,hpB 1 2 4 3 W,hpC 2 3 179 2 N,hpP 3 L,hpP 4 D,hpF 5 z' ov',hpP 6 Q',(7,.fix 0 o)] 8 (Re.at [(0,0),(1,1),(2,2),(3,3),(4,4),(5,5),(6,6),(7,7)] []) rfl ⟨X,C',G',ov',Q',z',rfl,rfl,rfl,h2,hX,hS⟩
theorem stepPop_lx (R : List Rw) (ws C G : List Int) (N W ph sp cy : Int) (L D Q : List PV) (z : ByteArray) (ov : Bool) (h : HM R ws C G N W L D Q z) (o : Unit → Obj) (ho : IsPow o) (A : List Int) (v : Int) (hG : G = A ++ [v]) (hph : ph = 1) : CallF (fun _ => Tryz.prog) 20 [.ptr 0 (.lit 0)] [hpA 0 1 5 6 3 W ph sp cy,hpB 1 2 4 3 W,hpC 2 3 179 2 N,hpP 3 L,hpP 4 D,hpF 5 z ov,hpP 6 Q,(7,.fix 0 o)] 8 (fun r h n => ∃ (X C' G' : List Int) (ov' : Bool) (Q' : List PV) (z' : ByteArray),r = .p .nils ∧ h = [hpA 0 1 5 6 3 W ph sp cy,hpB 1 2 4 3 W,hpC 2 3 179 2 N,hpP 3 L,hpP 4 D,hpF 5 z' ov',hpP 6 Q',(7,.fix 0 o)] ∧ n = 8 ∧ HM R ws C' G' N W L D Q' z' ∧ Wrds R ws v X ∧ (C',G',ov') = scanS R ph v X (C,A,ov)) := by
 refine callF_of_body tok Tryz.func20 (by kernel_rfl) rfl rfl rfl ?_; conv => cbv
 refine cfr (phase_lx R ws C G N W ph sp cy L D Q z ov) [(0,0),(1,1),(2,2),(3,3),(4,4),(5,5),(6,6)] (fun r h' n' ⟨e1,e2,e3⟩ => ?_)
 subst e1 e2 e3
 conv => cbv
 refine Br.mk (fun g => ?_) (fun g => ?_)
 case refine_2 =>
  have g : ¬ ph = 1 := g
  exact absurd hph g
 conv => cbv
 refine cfr (markPop_lx R ws C G N W ph sp cy L D Q z ov h o ho A v hG) [(0,0),(1,1),(2,2),(3,3),(4,4),(5,5),(6,6),(7,7)] (fun r h' n' hrr => ?_)
 obtain ⟨X,C',G',ov',Q',z',e1,e2,e3,h2,hX,hS⟩ := hrr
 subst e1 e2 e3
 conv => cbv
 refine RetF.mk [.p .nils] [hpA 0 1 5 6 3 W ph sp cy,hpB 1 2 4 3 W,hpC 2 3 179 2 N,hpP 3 L,hpP 4 D,hpF 5 z' ov',hpP 6 Q',(7,.fix 0 o)] 8 (Re.at [(0,0),(1,1),(2,2),(3,3),(4,4),(5,5),(6,6),(7,7)] []) rfl ⟨X,C',G',ov',Q',z',rfl,rfl,rfl,h2,hX,hS⟩
theorem stepIdle_lx (R : List Rw) (ws C G : List Int) (N W ph sp cy : Int) (L D Q : List PV) (z : ByteArray) (ov : Bool) (h : HM R ws C G N W L D Q z) (hph : ph = 0) : CallF (fun _ => Tryz.prog) 20 [.ptr 0 (.lit 0)] [hpA 0 1 5 6 3 W ph sp cy,hpB 1 2 4 3 W,hpC 2 3 179 2 N,hpP 3 L,hpP 4 D,hpF 5 z ov,hpP 6 Q] 7 (fun r h n => r = .p .nils ∧ h = [hpA 0 1 5 6 3 W ph sp cy,hpB 1 2 4 3 W,hpC 2 3 179 2 N,hpP 3 L,hpP 4 D,hpF 5 z ov,hpP 6 Q] ∧ n = 7) := by
 refine callF_of_body tok Tryz.func20 (by kernel_rfl) rfl rfl rfl ?_; conv => cbv
 refine cfr (phase_lx R ws C G N W ph sp cy L D Q z ov) [(0,0),(1,1),(2,2),(3,3),(4,4),(5,5),(6,6)] (fun r h' n' ⟨e1,e2,e3⟩ => ?_)
 subst e1 e2 e3
 conv => cbv
 refine Br.mk (fun g => ?_) (fun g => ?_)
 case refine_1 =>
  have g : ph = 1 := g
  exfalso
  omega
 conv => cbv
 refine Br.mk (fun g => ?_) (fun g => ?_)
 case refine_1 =>
  have g : ph = 2 := g
  exfalso
  omega
 conv => cbv
 refine RetF.mk [.p .nils] [hpA 0 1 5 6 3 W ph sp cy,hpB 1 2 4 3 W,hpC 2 3 179 2 N,hpP 3 L,hpP 4 D,hpF 5 z ov,hpP 6 Q] 7 (Re.at [(0,0),(1,1),(2,2),(3,3),(4,4),(5,5),(6,6)] []) rfl ⟨rfl,rfl,rfl⟩
theorem stepNil_lx : CallF (fun _ => Tryz.prog) 20 [.p .nilp] [] 0 (fun r h n => r = .p .nils ∧ h = [] ∧ n = 0) := by
 refine callF_of_body tok Tryz.func20 (by kernel_rfl) rfl rfl rfl ?_; conv => cbv
 refine callF_frame phaseNil_lx [] rfl trivial rfl rfl (fun r h' n' ⟨e1,e2,e3⟩ => ?_)
 subst e1 e2 e3
 conv => cbv
 refine Br.mk (fun g => ?_) (fun g => ?_)
 case refine_1 =>
  have g : (0 : Int) = 1 := g
  exfalso
  omega
 conv => cbv
 refine Br.mk (fun g => ?_) (fun g => ?_)
 case refine_1 =>
  have g : (0 : Int) = 2 := g
  exfalso
  omega
 conv => cbv
 refine RetF.mk [.p .nils] [] 0 (Re.at [] []) rfl ⟨rfl,rfl,rfl⟩
theorem shadeNil_lx (a : I) : CallF (fun _ => Tryz.prog) 61 [.p .nilp,.p (.int .i64 a)] [] 0 (fun r h n => r = .tup [] ∧ h = [] ∧ n = 0) := by
 refine callF_of_body tok Tryz.func61 (by kernel_rfl) rfl rfl rfl ?_; conv => cbv
 refine callF_frame phaseNil_lx [] rfl trivial rfl rfl (fun r h' n' ⟨e1,e2,e3⟩ => ?_)
 subst e1 e2 e3
 conv => cbv
 refine Br.mk (fun g => ?_) (fun g => ?_)
 case refine_2 =>
  have g : ¬ (0 : Int) ≠ 1 := g
  exfalso
  omega
 conv => cbv
 refine RetF.mk [] [] 0 (Re.at [] []) rfl ⟨rfl,rfl,rfl⟩
theorem scan_self {R : List Rw} {ph a : Int} {X C G : List Int} {ov : Bool} {s : List Int × List Int × Bool} (h : (C,G,ov) = scanS R ph a X s) (hl : a.toNat < C.length) : C[a.toNat]? = some 2 := by
 unfold scanS at h
 have h1 := congrArg Prod.fst h
 dsimp only at h1
 rw [h1] at hl ⊢
 rw [List.length_set] at hl
 exact List.getElem?_set_self hl
theorem beg_one {R : List Rw} {ws C G : List Int} {ov : Bool} {W a : Int} (ha : a ∈ objs R) (hA : AOk R ws) (hW : W = 32 * R.length) (hS : (C,G,ov) = begS R W [a]) : C = (List.replicate W.toNat 0).set a.toNat 1 ∧ G = [a] ∧ ov = false := by
 have hb := obj_bd hA ha
 have hS : (C,G,ov) = shade R 1 a (List.replicate W.toNat 0,[],false) := hS
 unfold shade at hS
 rw [if_pos ⟨rfl,ha,by show (List.replicate W.toNat (0 : Int))[a.toNat]? = some 0; rw [List.getElem?_replicate,if_pos (by omega)]⟩] at hS
 simpa using hS
theorem awake09_lx (o : Unit → Obj) (ho : IsPow o) : CallF (fun _ => Tryz.prog) 11 [] [(0,.fix 0 o)] 1 (fun r h n => r = .p (.bool true) ∧ h = [(0,.fix 0 o)] ∧ n = 1) := by
 obtain ⟨Rz,hRz⟩ : ∃ Rz,Rz = List.replicate (2 : Int).toNat ((0,[]) : Rw) := ⟨_,rfl⟩
 obtain ⟨wz,hwz⟩ : ∃ wz,wz = List.replicate (64 : Int).toNat (0 : Int) := ⟨_,rfl⟩
 obtain ⟨L0,hL0⟩ : ∃ L0,L0 = rpv Rz := ⟨_,rfl⟩
 obtain ⟨D0,hD0⟩ : ∃ D0,D0 = ipv wz := ⟨_,rfl⟩
 obtain ⟨z0,hz0⟩ : ∃ z0 : ByteArray,z0 = ⟨(enc []).toArray⟩ := ⟨_,rfl⟩
 have hM0 : HM Rz wz wz [] 2 64 L0 D0 D0 z0 := by
  have := HM.new (N := 2) (W := 64) (by decide) (by decide) (by decide) (L := L0) (D := D0) (Q := D0) (z := z0) (by rw [hL0,hRz]) (by rw [hD0,hwz]) (by rw [hD0,hwz]) hz0
  rw [← hRz,← hwz] at this
  exact this
 refine callF_of_body tok Tryz.func11 (by kernel_rfl) rfl rfl rfl ?_; conv => cbv
 refine CallF.le (args0 := [i6 2]) (callF_frame (newH_lx 2 64 (by decide) (by decide) rfl L0 D0 D0 z0 (by rw [hL0,hRz]) (by rw [hD0,hwz]) (by rw [hD0,hwz]) hz0) [] rfl trivial rfl rfl (fun r h' n' ⟨e1,e2,e3⟩ => ?_)) (by simp [ales,ale,pvle,I.val])
 subst e1 e2 e3
 conv => cbv
 refine cfr (arena_lx Rz wz wz [] 2 64 0 0 0 L0 D0 D0 z0 false) [(0,1),(1,2),(2,3),(3,4),(4,5),(5,6),(6,7)] (fun r h' n' ⟨e1,e2,e3⟩ => ?_)
 subst e1 e2 e3
 conv => cbv
 refine CallF.le (args0 := [.ptr 1 (.lit 0),i6 5,i6 2]) (cfr (alloc9_lx Rz wz wz [] 2 64 0 0 0 L0 D0 D0 z0 false hM0 5 2) [(0,1),(1,2),(2,3),(3,4),(4,5),(5,6),(6,7)] (fun r h' n' hrr => ?_)) (by simp [ales,ale,pvle,I.val])
 obtain ⟨a,e,R1,w1,C1,L1,D1,Q1,e1,e2,e3,hM1,hT,hC1⟩ := hrr
 subst e1 e2 e3
 conv => cbv
 have he : e = 0 := by have := alloct_err hM0.a hT (by rw [hRz]; decide); rw [if_pos (by decide)] at this; exact this
 have hk : Kept R1 w1 a 5 2 := by
  rcases alloct_gen9 hM0.a hT with h | h
  ·exact absurd he h.1
  ·exact h.2.2.1
 have ho1 : a ∈ objs R1 := (obj_iff hM1.a a).2 hk.obj6
 have hab := obj_bd hM1.a ho1
 have hR1l : (R1.length : Int) = 2 := hM1.n.symm
 have hC1l : C1.length = 64 := by have := hM1.c; omega
 refine CallF.re (args0 := [.ptr 1 (.lit 0),.p (.vsl (.sym 1) true [.int .i64 (.sym a)])]) (h' := [hpA 1 2 6 7 3 64 0 0 0,hpB 2 3 5 3 64,hpC 3 4 179 2 2,hpP 4 L1,hpP 5 D1,hpF 6 z0 false,hpP 7 Q1,(0,.fix 0 o)]) (Re.at [(0,0),(1,1),(2,2),(3,3),(4,4),(5,5),(6,6),(7,7)] []) (cfr (begin_lx R1 w1 C1 [] 2 64 0 0 0 L1 D1 Q1 z0 false hM1 o ho [a] 1 [.int .i64 (.sym a)] rfl rfl (by simp) rfl) [(0,1),(1,2),(2,3),(3,4),(4,5),(5,6),(6,7),(7,0)] (fun r h' n' hrr => ?_))
 obtain ⟨C2,G2,ov2,Q2,z2,e1,e2,e3,hM2,hS⟩ := hrr
 subst e1 e2 e3
 obtain ⟨hC2,hG2,_⟩ := beg_one ho1 hM1.a (show (64 : Int) = 32 * R1.length by omega) hS
 clear hS
 conv => cbv
 refine Br.yes (show e = 0 from he) ?_
 conv => cbv
 refine cfr (phase_lx R1 w1 C2 G2 2 64 1 0 0 L1 D1 Q2 z2 ov2) [(0,1),(1,2),(2,3),(3,4),(4,5),(5,9),(6,7)] (fun r h' n' ⟨e1,e2,e3⟩ => ?_)
 subst e1 e2 e3
 conv => cbv
 refine Br.yes (show (1 : Int) = 1 from rfl) ?_
 conv => cbv
 refine cfr (colour_lx R1 w1 C2 G2 2 64 1 0 0 L1 D1 Q2 z2 ov2 hM2 a) [(0,1),(1,2),(2,3),(3,4),(4,5),(5,9),(6,7)] (fun r h' n' hrr => ?_)
 obtain ⟨c1,e1,e2,e3,hc1,_⟩ := hrr
 subst e1 e2 e3
 conv => cbv
 have hc1 : c1 = 1 := by
  have := hc1 ho1
  rw [hC2,List.getElem?_set_self (by rw [List.length_replicate]; omega)] at this
  exact (Option.some.inj this).symm
 refine Br.yes (show c1 = 1 from hc1) ?_
 conv => cbv
 refine cfr (stepPop_lx R1 w1 C2 G2 2 64 1 0 0 L1 D1 Q2 z2 ov2 hM2 o ho [] a hG2 rfl) [(0,1),(1,2),(2,3),(3,4),(4,5),(5,9),(6,7),(7,0)] (fun r h' n' hrr => ?_)
 obtain ⟨X,C3,G3,ov3,Q3,z3,e1,e2,e3,hM3,hX,hS⟩ := hrr
 subst e1 e2 e3
 conv => cbv
 refine cfr (colour_lx R1 w1 C3 G3 2 64 1 0 0 L1 D1 Q3 z3 ov3 hM3 a) [(0,1),(1,2),(2,3),(3,4),(4,5),(5,9),(6,7)] (fun r h' n' hrr => ?_)
 obtain ⟨c2,e1,e2,e3,hc2,_⟩ := hrr
 subst e1 e2 e3
 conv => cbv
 have hc2 : c2 = 2 := by
  have := hc2 ho1
  rw [scan_self hS (by have := hM3.c; omega)] at this
  exact (Option.some.inj this).symm
 refine Br.yes (show c2 = 2 from hc2) ?_
 conv => cbv
 refine RetF.mk [.p (.bool true)] [(0,.fix 0 o)] 1 (Re.at [(0,0)] []) rfl ⟨rfl,rfl,rfl⟩
inductive NextG (R : List Rw) (C G : List Int) (ov : Bool) : Int → Bool → List Int → Bool → Prop
 | pop (A : List Int) (v : Int) (h : G = A ++ [v]) : NextG R C G ov v true A ov
 | none (h : G = []) (ho : ov = false) : NextG R C G ov 0 false [] false
 | found (i : Nat) (a : Int) (h : G = []) (ho : ov = true) (ha : (objs R)[i]? = some a) (hc : C[a.toNat]? = some 1) (hn : ∀ j b,j < i → (objs R)[j]? = some b → C[b.toNat]? ≠ some 1) : NextG R C G ov a true [] true
 | settle (h : G = []) (ho : ov = true) (hn : ∀ (j : Nat) b,(objs R)[j]? = some b → C[b.toNat]? ≠ some 1) : NextG R C G ov 0 false [] false
theorem NextG.det {R : List Rw} {C G G1 G2 : List Int} {ov o1 o2 b1 b2 : Bool} {v1 v2 : Int} (h1 : NextG R C G ov v1 b1 G1 o1) (h2 : NextG R C G ov v2 b2 G2 o2) : v1 = v2 ∧ b1 = b2 ∧ G1 = G2 ∧ o1 = o2 := by
 cases h1 with
 | pop A v h => cases h2 with
  | pop A' v' h' =>
   obtain ⟨rfl,e⟩ := List.append_inj' (h.symm.trans h') rfl
   obtain rfl : v1 = v2 := by simpa using e
   exact ⟨rfl,rfl,rfl,rfl⟩
  | none h' _ => rw [h'] at h; exact absurd h.symm (by simp)
  | found i a h' _ _ _ _ => rw [h'] at h; exact absurd h.symm (by simp)
  | settle h' _ _ => rw [h'] at h; exact absurd h.symm (by simp)
 | none h ho => cases h2 with
  | pop A' v' h' => rw [h] at h'; exact absurd h'.symm (by simp)
  | none _ _ => exact ⟨rfl,rfl,rfl,rfl⟩
  | found i a h' ho' _ _ _ => rw [ho] at ho'; cases ho'
  | settle h' ho' _ => rw [ho] at ho'; cases ho'
 | found i a h ho ha hc hn => cases h2 with
  | pop A' v' h' => rw [h] at h'; exact absurd h'.symm (by simp)
  | none _ ho' => rw [ho] at ho'; cases ho'
  | found i' a' h' ho' ha' hc' hn' =>
   obtain rfl : i = i' := by
    rcases Nat.lt_trichotomy i i' with q | q | q
    ·exact absurd hc (hn' _ _ q ha)
    ·exact q
    ·exact absurd hc' (hn _ _ q ha')
   rw [ha] at ha'
   obtain rfl := Option.some.inj ha'
   exact ⟨rfl,rfl,rfl,rfl⟩
  | settle _ _ hn' => exact absurd hc (hn' _ _ ha)
 | settle h ho hn => cases h2 with
  | pop A' v' h' => rw [h] at h'; exact absurd h'.symm (by simp)
  | none _ ho' => rw [ho] at ho'; cases ho'
  | found i' a' h' ho' ha' hc' hn' => exact absurd hc' (hn _ _ ha')
  | settle _ _ _ => exact ⟨rfl,rfl,rfl,rfl⟩
def Due (R : List Rw) (ws C : List Int) (a : Int) : Prop := (∃ l,Kept R ws a 5 l) ∧ C[a.toNat]? = some 0 ∧ ∃ x,Loaded R ws a 1 x 0 ∧ x ≠ 0
inductive NextF (R : List Rw) (ws C : List Int) : Int → Bool → Prop
 | found (i : Nat) (a : Int) (ha : (objs R)[i]? = some a) (hd : Due R ws C a) (hn : ∀ j b,j < i → (objs R)[j]? = some b → ¬ Due R ws C b) : NextF R ws C a true
 | none (hn : ∀ (j : Nat) b,(objs R)[j]? = some b → ¬ Due R ws C b) : NextF R ws C 0 false
theorem NextF.det {R : List Rw} {ws C : List Int} {b1 b2 : Bool} {v1 v2 : Int} (h1 : NextF R ws C v1 b1) (h2 : NextF R ws C v2 b2) : v1 = v2 ∧ b1 = b2 := by
 cases h1 with
 | found i a ha hd hn => cases h2 with
  | found i' a' ha' hd' hn' =>
   obtain rfl : i = i' := by
    rcases Nat.lt_trichotomy i i' with q | q | q
    ·exact absurd hd (hn' _ _ q ha)
    ·exact q
    ·exact absurd hd' (hn _ _ q ha')
   rw [ha] at ha'
   obtain rfl := Option.some.inj ha'
   exact ⟨rfl,rfl⟩
  | none hn' => exact absurd hd (hn' _ _ ha)
 | none hn => cases h2 with
  | found i' a' ha' hd' hn' => exact absurd hd' (hn _ _ ha')
  | none _ => exact ⟨rfl,rfl⟩
abbrev Gn := Int × Int × List Int × Bool
def gpv : List Gn → List PV
 | [] => []
 | g :: l => .int .i64 (.sym g.1) :: .int .i64 (.sym g.2.1) :: .vsl (.sym (g.2.2.1.length : Int)) true (ipv g.2.2.1) :: .bool g.2.2.2 :: gpv l
theorem gpv_length : ∀ l,(gpv l).length = 4 * l.length
 | [] => rfl
 | g :: l => by simp [gpv,gpv_length l]; omega
theorem gpv_app : ∀ l m,gpv (l ++ m) = gpv l ++ gpv m
 | [],m => rfl
 | g :: l,m => by simp [gpv,gpv_app l m]
inductive Marked (R : List Rw) (ws C G : List Int) (ov : Bool) (sp : Int) : List Gn → Int → Int → List Int → List Int → List Int → Bool → Prop
 | scan (v : Int) (A X C' G' : List Int) (o1 ov' : Bool) (hg : NextG R C G ov v true A o1) (hX : Wrds R ws v X) (hs : (C',G',ov') = scanS R 1 v X (C,A,o1)) : Marked R ws C G ov sp [] 1 sp ws C' G' ov'
 | keep (a : Int) (A X ws' C' G' : List Int) (o1 ov' : Bool) (hg : NextG R C G ov 0 false A o1) (hf : NextF R ws C a true) (hX : Wrds R ws a X) (hst : Stored R ws a 1 0 0 ws') (hs : (C',G',ov') = shade R 1 a (C,A,o1)) : Marked R ws C G ov sp [(5,a,X,true)] 1 sp ws' C' G' ov'
 | sweep (A : List Int) (o1 : Bool) (hg : NextG R C G ov 0 false A o1) (hf : NextF R ws C 0 false) : Marked R ws C G ov sp [] 2 0 ws C A o1
theorem HM.over {R : List Rw} {ws C G : List Int} {N W : Int} {L D Q : List PV} {z z' : ByteArray} {G' : List Int} (h : HM R ws C G N W L D Q z) (hz : z' = ⟨(enc G').toArray⟩) (hG : G = [] ∧ G' = []) : HM R ws C G' N W L D Q z' :=
 ⟨h.a,h.k,h.n,h.r,h.w,h.l,h.d,h.q,h.c,hz,fun x hx => (by rw [hG.2] at hx; cases hx),(by rw [hG.2]; exact Nat.zero_le _)⟩
theorem nextGrey_lx (R : List Rw) (ws C G : List Int) (N W ph sp cy : Int) (L D Q : List PV) (z : ByteArray) (ov : Bool) (h : HM R ws C G N W L D Q z) : CallF (fun _ => Tryz.prog) 126 [.ptr 0 (.lit 0)] [hpA 0 1 5 6 3 W ph sp cy,hpB 1 2 4 3 W,hpC 2 3 179 2 N,hpP 3 L,hpP 4 D,hpF 5 z ov,hpP 6 Q] 7 (fun r h n => ∃ (v : Int) (b : Bool) (G' : List Int) (ov' : Bool) (z' : ByteArray),r = .tup [i6 v,.p (.bool b)] ∧ h = [hpA 0 1 5 6 3 W ph sp cy,hpB 1 2 4 3 W,hpC 2 3 179 2 N,hpP 3 L,hpP 4 D,hpF 5 z' ov',hpP 6 Q] ∧ n = 7 ∧ HM R ws C G' N W L D Q z' ∧ NextG R C G ov v b G' ov') := by
 by_cases hG0 : G = []
 case neg =>
  obtain ⟨A,v,hG⟩ : ∃ A v,G = A ++ [v] := ⟨_,_,(List.dropLast_concat_getLast hG0).symm⟩
  exact (nextGreyPop_lx R ws C G N W ph sp cy L D Q z ov h A v hG).mono fun r h' n' ⟨z',e1,e2,e3,h2⟩ => ⟨v,true,A,ov,z',e1,e2,e3,h2,.pop A v hG⟩
 refine callF_of_body tok Tryz.func126 (by kernel_rfl) rfl rfl rfl ?_; conv => cbv
 refine cfr (greyPop_lx G z ov h.z h.g64 h.g8) [(0,5)] (fun r h' n' hrr => ?_)
 obtain ⟨v2,b,z',A',e1,e2,e3,hz',h4⟩ := hrr
 subst e1 e2 e3
 obtain ⟨rfl,rfl,hA'⟩ : v2 = 0 ∧ b = false ∧ A' = [] := by
  rcases h4 with ⟨_,e1,e2,e3⟩ | ⟨e,_⟩
  ·exact ⟨e1,e2,e3⟩
  ·rw [hG0] at e; exact absurd e (by simp)
 have h1 := h.over hz' ⟨hG0,hA'⟩
 conv => cbv
 refine cfr (greyOver_lx z' ov) [(0,5)] (fun r h' n' ⟨e1,e2,e3⟩ => ?_)
 subst e1 e2 e3
 cases ov with
 | false =>
  conv => cbv
  refine RetF.mk [i6 0,.p (.bool false)] [hpA 0 1 5 6 3 W ph sp cy,hpB 1 2 4 3 W,hpC 2 3 179 2 N,hpP 3 L,hpP 4 D,hpF 5 z' false,hpP 6 Q] 7 (Re.at [(0,0),(1,1),(2,2),(3,3),(4,4),(5,5),(6,6)] []) rfl ⟨0,false,A',false,z',rfl,rfl,rfl,h1,by rw [hA']; exact .none hG0 rfl⟩
 | true =>
  conv => cbv
  obtain ⟨m,hm⟩ : ∃ m : Int,m = objCount R := ⟨_,rfl⟩
  refine cfr (objects_lx m R N W L D h.l h.n h.r h.a.rows h.w hm) [(0,1),(1,2),(2,3),(3,4)] (fun r h' n' hrr => ?_)
  obtain ⟨O,e1,e2,e3,hO⟩ := hrr
  subst e1 e2 e3
  have hOl : (O.length : Int) = m := by rw [hO,ipv_length,objs_length h.a.rows,hm]
  have hO : O = ipv (objs R) := hO
  have hol : ((objs R).length : Int) = m := by rw [← hOl,hO,ipv_length]
  have hob : m ≤ 8000 := by have := objsTo_le R R.length; rw [objs_length h.a.rows] at this; have := h.r; omega
  conv => cbv
  refine LoopF.mk (fun k s => ∃ i : Int,s = ⟨.ptr 0 (.lit 0) :: (undefs 27 ++ .sl 7 3 1 (.lit 0) (.sym m) :: .p (.int .i64 (.sym m)) :: .p (.int .i64 (.sym i)) :: undefs 13),[hpA 0 1 5 6 3 W ph sp cy,hpB 1 2 4 3 W,hpC 2 3 179 2 N,hpP 3 L,hpP 4 D,hpF 5 z' true,hpP 6 Q,hpP 7 O],8⟩ ∧ 0 ≤ i ∧ i ≤ m ∧ (∀ (j : Nat) b,(j : Int) < i → (objs R)[j]? = some b → C[b.toNat]? ≠ some 1) ∧ k = (m - i).toNat) m.toNat _
   (Re.at [(0,0),(1,1),(2,2),(3,3),(4,4),(5,5),(6,6),(7,7)] []) ⟨0,rfl,by omega,by omega,fun j b hj => by omega,by omega⟩ ?_
  rintro k s ⟨i,rfl,hi0,hi1,hn,hk⟩
  conv => cbv
  refine Br.mk (fun gi => ?_) (fun gi => ?_)
  ·have gi : i < m := gi
   obtain ⟨k',rfl⟩ : ∃ k',k = k' + 1 := ⟨k - 1,by omega⟩
   obtain ⟨a,ha⟩ : ∃ a,(objs R)[i.toNat]? = some a := ⟨_,List.getElem?_eq_getElem (by omega)⟩
   have hc : O[i.toNat]? = some (.int .i64 (.sym a)) := by rw [hO]; exact ipv_get ha
   conv => cbv
   refine Need.mk ⟨hi0,gi⟩ ?_
   conv => cbv
   refine Cell.at i _ hc (by simp [I.val]) rfl ?_
   conv => cbv
   refine CallF.le (args0 := [.ptr 0 (.lit 0),i6 a,i6 1]) (cfr (is_lx R ws C A' N W ph sp cy L D Q z' true h1 a 1) [(0,0),(1,1),(2,2),(3,3),(4,4),(5,5),(6,6)] (fun r h' n' hrr => ?_)) (by simp [ales,ale,pvle,I.val])
   obtain ⟨b,e1,e2,e3,hb⟩ := hrr
   subst e1 e2 e3
   cases b with
   | true =>
    conv => cbv
    refine RetF.mk [i6 a,.p (.bool true)] [hpA 0 1 5 6 3 W ph sp cy,hpB 1 2 4 3 W,hpC 2 3 179 2 N,hpP 3 L,hpP 4 D,hpF 5 z' true,hpP 6 Q] 7 (Re.at [(0,0),(1,1),(2,2),(3,3),(4,4),(5,5),(6,6)] []) rfl ⟨a,true,A',true,z',rfl,rfl,rfl,h1,by rw [hA']; exact .found i.toNat a hG0 rfl ha (hb.1 rfl).2 (fun j b hj => hn j b (by omega))⟩
   | false =>
    have hna : C[a.toNat]? ≠ some 1 := fun hx => by have := hb.2 ⟨List.mem_of_getElem? ha,hx⟩; cases this
    conv => cbv
    refine Fit.mk (by show (-9223372036854775808 : Int) ≤ i + 1; omega) (by show i + 1 ≤ 9223372036854775807; omega) fun i2 hi2 => ?_
    have hi2 : i2 = i + 1 := hi2
    conv => cbv
    refine Again.mk k' _ (Nat.lt_succ_self _) (Re.at [(0,0),(1,1),(2,2),(3,3),(4,4),(5,5),(6,6),(7,7)] []) ⟨i2,rfl,by omega,by omega,fun j b hj hjb => ?_,by omega⟩
    by_cases q : j = i.toNat
    ·rw [q,ha] at hjb; obtain rfl := Option.some.inj hjb; exact hna
    ·have hj : (j : Int) < i2 := hj
     have hj2 : (j : Int) < i := by omega
     exact hn j b hj2 hjb
  ·have gi : ¬ i < m := gi
   conv => cbv
   refine cfr (greySettle_lx z' true) [(0,5)] (fun r h' n' ⟨e1,e2,e3⟩ => ?_)
   subst e1 e2 e3
   conv => cbv
   refine RetF.mk [i6 0,.p (.bool false)] [hpA 0 1 5 6 3 W ph sp cy,hpB 1 2 4 3 W,hpC 2 3 179 2 N,hpP 3 L,hpP 4 D,hpF 5 z' false,hpP 6 Q] 7 (Re.at [(0,0),(1,1),(2,2),(3,3),(4,4),(5,5),(6,6)] []) rfl ⟨0,false,A',false,z',rfl,rfl,rfl,h1,by rw [hA']; exact .settle hG0 rfl (fun j b hj => hn j b (by have := (List.getElem?_eq_some_iff.1 hj).1; omega) hj)⟩
inductive LookR (R : List Rw) (ws : List Int) (a : Int) : LV → Prop
 | box (x e : Int) (hk : KindR R ws a 5) (hx : Loaded R ws a 1 x e) : LookR R ws a (.iface 171 (.agg [i6 a,i6 x]))
 | other (k : Int) (hk : KindR R ws a k) (hne : k ≠ 5) : LookR R ws a (.iface 281 (.agg []))
theorem look9_lx (R : List Rw) (ws C G : List Int) (N W ph sp cy : Int) (L D Q : List PV) (z : ByteArray) (ov : Bool) (h : HM R ws C G N W L D Q z) (a : Int) : CallF (fun _ => Tryz.prog) 186 [.ptr 0 (.lit 0),i6 a] [hpA 0 1 5 6 3 W ph sp cy,hpB 1 2 4 3 W,hpC 2 3 179 2 N,hpP 3 L,hpP 4 D,hpF 5 z ov,hpP 6 Q] 7 (fun r h n => LookR R ws a r ∧ h = [hpA 0 1 5 6 3 W ph sp cy,hpB 1 2 4 3 W,hpC 2 3 179 2 N,hpP 3 L,hpP 4 D,hpF 5 z ov,hpP 6 Q] ∧ n = 7) := by
 refine callF_of_body tok Tryz.func186 (by kernel_rfl) rfl rfl rfl ?_; conv => cbv
 refine cfr (kind_lx R ws N a W L D h.l h.d h.n h.r h.a h.w) [(0,1),(1,2),(2,3),(3,4)] (fun r h' n' hrr => ?_)
 obtain ⟨v,e1,e2,e3,hv⟩ := hrr
 subst e1 e2 e3
 conv => cbv
 refine Br.mk (fun g => ?_) (fun g => ?_)
 ·have g : v = 5 := g
  conv => cbv
  refine CallF.le (args0 := [.ptr 1 (.lit 0),i6 a,i6 1]) (cfr (load_lx 1 R ws N a W L D h.l h.d h.n h.r h.a h.w) [(0,1),(1,2),(2,3),(3,4)] (fun r h' n' hrr => ?_)) (by simp [ales,ale,pvle,I.val])
  obtain ⟨x,e,e1,e2,e3,hx⟩ := hrr
  subst e1 e2 e3
  conv => cbv
  refine RetF.mk [.iface 171 (.agg [i6 a,i6 x])] [hpA 0 1 5 6 3 W ph sp cy,hpB 1 2 4 3 W,hpC 2 3 179 2 N,hpP 3 L,hpP 4 D,hpF 5 z ov,hpP 6 Q] 7 (Re.at [(0,0),(1,1),(2,2),(3,3),(4,4),(5,5),(6,6)] []) rfl ⟨.box x e (g ▸ hv) hx,rfl,rfl⟩
 ·have g : ¬ v = 5 := g
  conv => cbv
  refine RetF.mk [.iface 281 (.agg [])] [hpA 0 1 5 6 3 W ph sp cy,hpB 1 2 4 3 W,hpC 2 3 179 2 N,hpP 3 L,hpP 4 D,hpF 5 z ov,hpP 6 Q] 7 (Re.at [(0,0),(1,1),(2,2),(3,3),(4,4),(5,5),(6,6)] []) rfl ⟨.other v hv g,rfl,rfl⟩
theorem nextFinal_lx (R : List Rw) (ws C G : List Int) (N W ph sp cy : Int) (L D Q : List PV) (z : ByteArray) (ov : Bool) (h : HM R ws C G N W L D Q z) : CallF (fun _ => Tryz.prog) 128 [.ptr 0 (.lit 0)] [hpA 0 1 5 6 3 W ph sp cy,hpB 1 2 4 3 W,hpC 2 3 179 2 N,hpP 3 L,hpP 4 D,hpF 5 z ov,hpP 6 Q] 7 (fun r h n => ∃ (a x : Int) (b : Bool),r = .tup [.agg [i6 a,i6 x],.p (.bool b)] ∧ h = [hpA 0 1 5 6 3 W ph sp cy,hpB 1 2 4 3 W,hpC 2 3 179 2 N,hpP 3 L,hpP 4 D,hpF 5 z ov,hpP 6 Q] ∧ n = 7 ∧ NextF R ws C a b) := by
 obtain ⟨m,hm⟩ : ∃ m : Int,m = objCount R := ⟨_,rfl⟩
 refine callF_of_body tok Tryz.func128 (by kernel_rfl) rfl rfl rfl ?_; conv => cbv
 refine cfr (objects_lx m R N W L D h.l h.n h.r h.a.rows h.w hm) [(0,1),(1,2),(2,3),(3,4)] (fun r h' n' hrr => ?_)
 obtain ⟨O,e1,e2,e3,hO⟩ := hrr
 subst e1 e2 e3
 have hOl : (O.length : Int) = m := by rw [hO,ipv_length,objs_length h.a.rows,hm]
 have hO : O = ipv (objs R) := hO
 have hol : ((objs R).length : Int) = m := by rw [← hOl,hO,ipv_length]
 have hob : m ≤ 8000 := by have := objsTo_le R R.length; rw [objs_length h.a.rows] at this; have := h.r; omega
 conv => cbv
 refine LoopF.mk (fun k s => ∃ i : Int,s = ⟨.ptr 0 (.lit 0) :: .undef :: .ptr 7 (.lit 0) :: .p (.bool false) :: (undefs 8 ++ .sl 8 3 1 (.lit 0) (.sym m) :: .p (.int .i64 (.sym m)) :: .p (.int .i64 (.sym i)) :: undefs 24),[hpA 0 1 5 6 3 W ph sp cy,hpB 1 2 4 3 W,hpC 2 3 179 2 N,hpP 3 L,hpP 4 D,hpF 5 z ov,hpP 6 Q,hpP 8 O,(7,.pure false [.int .i64 (.lit 0),.int .i64 (.lit 0)])],9⟩ ∧ 0 ≤ i ∧ i ≤ m ∧ (∀ (j : Nat) b,(j : Int) < i → (objs R)[j]? = some b → ¬ Due R ws C b) ∧ k = (m - i).toNat) m.toNat _
  (Re.at [(0,0),(1,1),(2,2),(3,3),(4,4),(5,5),(6,6),(7,7),(8,8)] []) ⟨0,rfl,by omega,by omega,fun j b hj => by omega,by omega⟩ ?_
 rintro k s ⟨i,rfl,hi0,hi1,hn,hk⟩
 conv => cbv
 refine Br.mk (fun gi => ?_) (fun gi => ?_)
 ·have gi : i < m := gi
  obtain ⟨k',rfl⟩ : ∃ k',k = k' + 1 := ⟨k - 1,by omega⟩
  obtain ⟨a,ha⟩ : ∃ a,(objs R)[i.toNat]? = some a := ⟨_,List.getElem?_eq_getElem (by omega)⟩
  have hc : O[i.toNat]? = some (.int .i64 (.sym a)) := by rw [hO]; exact ipv_get ha
  have hob2 := (obj_iff h.a a).1 (List.mem_of_getElem? ha)
  have hstep : ∀ i2 : Int,i2 = i + 1 → ¬ Due R ws C a → ∀ (j : Nat) b,(j : Int) < i2 → (objs R)[j]? = some b → ¬ Due R ws C b := by
   intro i2 hi2 hd j b hj hjb
   by_cases q : j = i.toNat
   ·rw [q,ha] at hjb; obtain rfl := Option.some.inj hjb; exact hd
   ·exact hn j b (by omega) hjb
  conv => cbv
  refine Need.mk ⟨hi0,gi⟩ ?_
  conv => cbv
  refine Cell.at i _ hc (by simp [I.val]) rfl ?_
  conv => cbv
  refine cfr (look9_lx R ws C G N W ph sp cy L D Q z ov h a) [(0,0),(1,1),(2,2),(3,3),(4,4),(5,5),(6,6)] (fun r h' n' hrr => ?_)
  obtain ⟨hL,e2,e3⟩ := hrr
  subst e2 e3
  cases hL with
  | other k2 hk2 hne =>
   have hnd : ¬ Due R ws C a := by
    rintro ⟨⟨l,hK⟩,_⟩
    cases hk2 with
    | no hno => exact hno hob2
    | is _ l2 hK2 => exact hne (hK2.det9 hK).1
   conv => cbv
   refine Fit.mk (by show (-9223372036854775808 : Int) ≤ i + 1; omega) (by show i + 1 ≤ 9223372036854775807; omega) fun i2 hi2 => ?_
   have hi2 : i2 = i + 1 := hi2
   conv => cbv
   refine Again.mk k' _ (Nat.lt_succ_self _) (Re.at [(0,0),(1,1),(2,2),(3,3),(4,4),(5,5),(6,6),(7,7),(8,8)] []) ⟨i2,rfl,by omega,by omega,hstep i2 hi2 hnd,by omega⟩
  | box x e hk2 hx =>
   obtain ⟨l,hK⟩ : ∃ l,Kept R ws a 5 l := by
    generalize hk5 : (5 : Int) = k5 at hk2
    cases hk2 with
    | no _ => cases hk5
    | is _ l hK => exact ⟨l,hk5 ▸ hK⟩
   have hx0 : x ≠ 0 → e = 0 := by
    intro hne
    generalize h1 : (1 : Int) = i1 at hx
    cases hx with
    | none _ => exact absurd rfl hne
    | arg _ _ _ _ => exact absurd rfl hne
    | ok _ _ _ _ _ _ => rfl
   conv => cbv
   refine Br.mk (fun gx => ?_) (fun gx => ?_)
   ·have gx : x ≠ 0 := gx
    obtain rfl := hx0 gx
    conv => cbv
    refine CallF.le (args0 := [.ptr 0 (.lit 0),i6 a,i6 0]) (cfr (is_lx R ws C G N W ph sp cy L D Q z ov h a 0) [(0,0),(1,1),(2,2),(3,3),(4,4),(5,5),(6,6)] (fun r h' n' hrr => ?_)) (by simp [ales,ale,pvle,I.val])
    obtain ⟨b,e1,e2,e3,hb⟩ := hrr
    subst e1 e2 e3
    cases b with
    | true =>
     conv => cbv
     refine RetF.mk [.agg [i6 a,i6 x],.p (.bool true)] [hpA 0 1 5 6 3 W ph sp cy,hpB 1 2 4 3 W,hpC 2 3 179 2 N,hpP 3 L,hpP 4 D,hpF 5 z ov,hpP 6 Q] 7 (Re.at [(0,0),(1,1),(2,2),(3,3),(4,4),(5,5),(6,6)] []) rfl ⟨a,x,true,rfl,rfl,rfl,.found i.toNat a ha ⟨⟨l,hK⟩,(hb.1 rfl).2,x,hx,gx⟩ (fun j b hj => hn j b (by omega))⟩
    | false =>
     have hnd : ¬ Due R ws C a := fun hd => by have := hb.2 ⟨List.mem_of_getElem? ha,hd.2.1⟩; cases this
     conv => cbv
     refine Fit.mk (by show (-9223372036854775808 : Int) ≤ i + 1; omega) (by show i + 1 ≤ 9223372036854775807; omega) fun i2 hi2 => ?_
     have hi2 : i2 = i + 1 := hi2
     conv => cbv
     refine Again.mk k' _ (Nat.lt_succ_self _) (Re.at [(0,0),(1,1),(2,2),(3,3),(4,4),(5,5),(6,6),(7,7),(8,8)] []) ⟨i2,rfl,by omega,by omega,hstep i2 hi2 hnd,by omega⟩
   ·have gx : ¬ x ≠ 0 := gx
    have hnd : ¬ Due R ws C a := by
     rintro ⟨_,_,y,hy,hy0⟩
     obtain ⟨rfl,_⟩ := loaded_det hx hy
     exact gx hy0
    conv => cbv
    refine Fit.mk (by show (-9223372036854775808 : Int) ≤ i + 1; omega) (by show i + 1 ≤ 9223372036854775807; omega) fun i2 hi2 => ?_
    have hi2 : i2 = i + 1 := hi2
    conv => cbv
    refine Again.mk k' _ (Nat.lt_succ_self _) (Re.at [(0,0),(1,1),(2,2),(3,3),(4,4),(5,5),(6,6),(7,7),(8,8)] []) ⟨i2,rfl,by omega,by omega,hstep i2 hi2 hnd,by omega⟩
 ·have gi : ¬ i < m := gi
  conv => cbv
  refine RetF.mk [.agg [i6 0,i6 0],.p (.bool false)] [hpA 0 1 5 6 3 W ph sp cy,hpB 1 2 4 3 W,hpC 2 3 179 2 N,hpP 3 L,hpP 4 D,hpF 5 z ov,hpP 6 Q] 7 (Re.at [(0,0),(1,1),(2,2),(3,3),(4,4),(5,5),(6,6)] []) rfl ⟨0,0,false,rfl,rfl,rfl,.none (fun j b hj => hn j b (by have := (List.getElem?_eq_some_iff.1 hj).1; omega) hj)⟩
theorem wordsV_lx (R : List Rw) (ws C G : List Int) (N W ph sp cy : Int) (L D Q : List PV) (z : ByteArray) (ov : Bool) (h : HM R ws C G N W L D Q z) (a : Int) : CallF (fun _ => Tryz.prog) 130 [.ptr 0 (.lit 0),i6 a] [hpA 0 1 5 6 3 W ph sp cy,hpB 1 2 4 3 W,hpC 2 3 179 2 N,hpP 3 L,hpP 4 D,hpF 5 z ov,hpP 6 Q] 7 (fun r h n => ∃ (X : List Int) (m : Int) (O : List PV),r = .p (.vsl (.sym m) true O) ∧ h = [hpA 0 1 5 6 3 W ph sp cy,hpB 1 2 4 3 W,hpC 2 3 179 2 N,hpP 3 L,hpP 4 D,hpF 5 z ov,hpP 6 Q] ∧ n = 7 ∧ O = ipv X ∧ m = X.length ∧ Wrds R ws a X) :=
 (wordsH_lx R ws C G N W ph sp cy L D Q z ov h a).ret fun r h' n' ⟨X,m,O,e1,e2,e3,hO,hm,hX⟩ => by
  subst e1 e2 e3
  exact RetF.mk [.p (.vsl (.sym m) true O)] [hpA 0 1 5 6 3 W ph sp cy,hpB 1 2 4 3 W,hpC 2 3 179 2 N,hpP 3 L,hpP 4 D,hpF 5 z ov,hpP 6 Q] 7 (Re.at [(0,0),(1,1),(2,2),(3,3),(4,4),(5,5),(6,6)] []) rfl ⟨X,m,O,rfl,rfl,rfl,hO,hm,hX⟩
theorem shadeW_zero (R : List Rw) (ph : Int) (s : List Int × List Int × Bool) (e : Int) : storeS R ph e 0 s = s := by
 unfold storeS shadeW
 split
 ·rw [if_neg (by decide)]
 ·rfl
theorem keep_lx (R : List Rw) (ws C G : List Int) (N W ph sp cy : Int) (L D Q : List PV) (z : ByteArray) (ov : Bool) (h : HM R ws C G N W L D Q z) (o : Unit → Obj) (ho : IsPow o) (a x : Int) : CallF (fun _ => Tryz.prog) 129 [.ptr 0 (.lit 0),.agg [i6 a,i6 x]] [hpA 0 1 5 6 3 W ph sp cy,hpB 1 2 4 3 W,hpC 2 3 179 2 N,hpP 3 L,hpP 4 D,hpF 5 z ov,hpP 6 Q,(7,.fix 0 o)] 8 (fun r h n => ∃ (X : List Int) (m e : Int) (O : List PV) (ws' C' G' : List Int) (ov' : Bool) (D' Q' : List PV) (z' : ByteArray),r = .agg [.p (.int .i64 (.lit 5)),i6 a,.p (.vsl (.sym m) true O),.p (.bool true)] ∧ h = [hpA 0 1 5 6 3 W ph sp cy,hpB 1 2 4 3 W,hpC 2 3 179 2 N,hpP 3 L,hpP 4 D',hpF 5 z' ov',hpP 6 Q',(7,.fix 0 o)] ∧ n = 8 ∧ HM R ws' C' G' N W L D' Q' z' ∧ O = ipv X ∧ m = X.length ∧ Wrds R ws a X ∧ Stored R ws a 1 0 e ws' ∧ (C',G',ov') = shade R ph a (C,G,ov)) := by
 refine callF_of_body tok Tryz.func129 (by kernel_rfl) rfl rfl rfl ?_; conv => cbv
 refine cfr (wordsV_lx R ws C G N W ph sp cy L D Q z ov h a) [(0,0),(1,1),(2,2),(3,3),(4,4),(5,5),(6,6)] (fun r h' n' hrr => ?_)
 obtain ⟨X,m,O,e1,e2,e3,hO,hm,hX⟩ := hrr
 subst e1 e2 e3
 conv => cbv
 refine CallF.le (args0 := [.ptr 0 (.lit 0),i6 a,i6 1,i6 0]) (cfr (store9_lx R ws C G N W ph sp cy L D Q z ov h o ho a 1 0 (by decide)) [(0,0),(1,1),(2,2),(3,3),(4,4),(5,5),(6,6),(7,7)] (fun r h' n' hrr => ?_)) (by simp [ales,ale,pvle,I.val])
 obtain ⟨e,ws',C1,G1,ov1,D',Q1,z1,e1,e2,e3,h1,hT,hS⟩ := hrr
 subst e1 e2 e3
 rw [shadeW_zero] at hS
 conv => cbv
 refine cfr (shade_lx R ws' C1 G1 N W ph sp cy L D' Q1 z1 ov1 h1 o ho a) [(0,0),(1,1),(2,2),(3,3),(4,4),(5,5),(6,6),(7,7)] (fun r h' n' hrr => ?_)
 obtain ⟨C',G',ov',Q',z',e1,e2,e3,h2,hS2⟩ := hrr
 subst e1 e2 e3
 rw [hS] at hS2
 conv => cbv
 refine RetF.mk [.agg [.p (.int .i64 (.lit 5)),i6 a,.p (.vsl (.sym m) true O),.p (.bool true)]] [hpA 0 1 5 6 3 W ph sp cy,hpB 1 2 4 3 W,hpC 2 3 179 2 N,hpP 3 L,hpP 4 D',hpF 5 z' ov',hpP 6 Q',(7,.fix 0 o)] 8 (Re.at [(0,0),(1,1),(2,2),(3,3),(4,4),(5,5),(6,6),(7,7)] []) rfl ⟨X,m,e,O,ws',C',G',ov',D',Q',z',rfl,rfl,rfl,h2,hO,hm,hX,hT,hS2⟩
theorem markH_lx (R : List Rw) (ws C G : List Int) (N W ph sp cy : Int) (L D Q : List PV) (z : ByteArray) (ov : Bool) (h : HM R ws C G N W L D Q z) (o : Unit → Obj) (ho : IsPow o) (hph : ph = 1) : CallF (fun _ => Tryz.prog) 62 [.ptr 0 (.lit 0)] [hpA 0 1 5 6 3 W ph sp cy,hpB 1 2 4 3 W,hpC 2 3 179 2 N,hpP 3 L,hpP 4 D,hpF 5 z ov,hpP 6 Q,(7,.fix 0 o)] 8 (fun r h n => ∃ (out : List Gn) (k ph' sp' : Int) (cells : List PV) (ws' C' G' : List Int) (ov' : Bool) (D' Q' : List PV) (z' : ByteArray),r = .p (.vsl (.sym k) true cells) ∧ h = [hpA 0 1 5 6 3 W ph' sp' cy,hpB 1 2 4 3 W,hpC 2 3 179 2 N,hpP 3 L,hpP 4 D',hpF 5 z' ov',hpP 6 Q',(7,.fix 0 o)] ∧ n = 8 ∧ HM R ws' C' G' N W L D' Q' z' ∧ cells = gpv out ∧ k = out.length ∧ Marked R ws C G ov sp out ph' sp' ws' C' G' ov') := by
 subst hph
 refine callF_of_body tok Tryz.func62 (by kernel_rfl) rfl rfl rfl ?_; conv => cbv
 refine cfr (nextGrey_lx R ws C G N W 1 sp cy L D Q z ov h) [(0,0),(1,1),(2,2),(3,3),(4,4),(5,5),(6,6)] (fun r h' n' hrr => ?_)
 obtain ⟨v,b,G1,ov1,z1,e1,e2,e3,h1,hg⟩ := hrr
 subst e1 e2 e3
 cases b with
 | true =>
  have hv : 0 ≤ v ∧ v < W := by
   cases hg with
   | pop A _ hG => exact h.g v (by rw [hG]; simp)
   | found i _ _ _ ha _ _ => have := obj_bd h.a (List.mem_of_getElem? ha); have := h.w; have := h.n; omega
  conv => cbv
  refine cfr (scan_lx R ws C G1 N W 1 sp cy L D Q z1 ov1 h1 o ho v hv) [(0,0),(1,1),(2,2),(3,3),(4,4),(5,5),(6,6),(7,7)] (fun r h' n' hrr => ?_)
  obtain ⟨X,C',G',ov',Q',z',e1,e2,e3,h2,hX,hS⟩ := hrr
  subst e1 e2 e3
  conv => cbv
  refine RetF.mk [.p (.vsl (.sym 0) true [])] [hpA 0 1 5 6 3 W 1 sp cy,hpB 1 2 4 3 W,hpC 2 3 179 2 N,hpP 3 L,hpP 4 D,hpF 5 z' ov',hpP 6 Q',(7,.fix 0 o)] 8 (Re.at [(0,0),(1,1),(2,2),(3,3),(4,4),(5,5),(6,6),(7,7)] []) rfl ⟨[],0,1,sp,[],ws,C',G',ov',D,Q',z',rfl,rfl,rfl,h2,rfl,rfl,.scan v G1 X C' G' ov1 ov' hg hX hS⟩
 | false =>
  have hv0 : v = 0 := by
   cases hg <;> rfl
  subst hv0
  conv => cbv
  refine cfr (nextFinal_lx R ws C G1 N W 1 sp cy L D Q z1 ov1 h1) [(0,0),(1,1),(2,2),(3,3),(4,4),(5,5),(6,6)] (fun r h' n' hrr => ?_)
  obtain ⟨a,x,b,e1,e2,e3,hf⟩ := hrr
  subst e1 e2 e3
  cases b with
  | true =>
   conv => cbv
   refine cfr (keep_lx R ws C G1 N W 1 sp cy L D Q z1 ov1 h1 o ho a x) [(0,0),(1,1),(2,2),(3,3),(4,4),(5,5),(6,6),(7,7)] (fun r h' n' hrr => ?_)
   obtain ⟨X,m,e,O,ws',C',G',ov',D',Q',z',e1,e2,e3,h2,hO,hm,hX,hT,hS⟩ := hrr
   subst e1 e2 e3
   have he : e = 0 := by
    cases hf with
    | found i _ ha hd _ =>
     obtain ⟨⟨l,hK⟩,_,y,hy,_⟩ := hd
     cases hy with
     | ok _ l2 _ hK2 hi _ =>
      cases hT with
      | none hno => exact absurd hK2.obj6 hno
      | arg k3 l3 hK3 hi3 => obtain ⟨_,rfl⟩ := hK2.det9 hK3; exact absurd hi hi3
      | ok _ _ _ _ => rfl
   subst he
   conv => cbv
   refine RetF.mk [.p (.vsl (.sym 1) true [.int .i64 (.sym 5),.int .i64 (.sym a),.vsl (.sym m) true O,.bool true])] [hpA 0 1 5 6 3 W 1 sp cy,hpB 1 2 4 3 W,hpC 2 3 179 2 N,hpP 3 L,hpP 4 D',hpF 5 z' ov',hpP 6 Q',(7,.fix 0 o)] 8 (Re.at [(0,0),(1,1),(2,2),(3,3),(4,4),(5,5),(6,6),(7,7)] []) rfl ⟨[(5,a,X,true)],1,1,sp,_,ws',C',G',ov',D',Q',z',rfl,rfl,rfl,h2,by rw [hO,hm]; rfl,rfl,.keep a G1 X ws' C' G' ov1 ov' hg hf hX hT hS⟩
  | false =>
   have ha0 : a = 0 := by cases hf; rfl
   subst ha0
   conv => cbv
   refine RetF.mk [.p (.vsl (.sym 0) true [])] [hpA 0 1 5 6 3 W 2 0 cy,hpB 1 2 4 3 W,hpC 2 3 179 2 N,hpP 3 L,hpP 4 D,hpF 5 z1 ov1,hpP 6 Q,(7,.fix 0 o)] 8 (Re.at [(0,0),(1,1),(2,2),(3,3),(4,4),(5,5),(6,6),(7,7)] []) rfl ⟨[],0,2,0,[],ws,C,G1,ov1,D,Q,z1,rfl,rfl,rfl,h1,rfl,rfl,.sweep G1 ov1 hg hf⟩
def Wh (R : List Rw) (C : List Int) (p : Int) : Prop := p ∈ objs R ∧ C[p.toNat]? = some 0
inductive SweptTo (ws C : List Int) (R : List Rw) (p : Int) : Nat → List Gn → List Rw → Prop
 | zero : SweptTo ws C R p 0 [] R
 | skip (i : Nat) (out : List Gn) (R1 : List Rw) (h : SweptTo ws C R p i out R1) (hn : ¬ Wh R1 C (p + i)) : SweptTo ws C R p (i + 1) out R1
 | free (i : Nat) (out : List Gn) (R1 R2 : List Rw) (k : Int) (X : List Int) (h : SweptTo ws C R p i out R1) (hw : Wh R1 C (p + i)) (hk : KindR R1 ws (p + i) k) (hX : Wrds R1 ws (p + i) X) (hf : Freet R1 (p + i) 0 R2) : SweptTo ws C R p (i + 1) (out ++ [(k,p + i,X,false)]) R2
theorem SweptTo.le {ws C : List Int} {R R' : List Rw} {p : Int} {i : Nat} {out : List Gn} (h : SweptTo ws C R p i out R') : out.length ≤ i := by
 induction h with
 | zero => exact Nat.le_refl _
 | skip i out R1 h hn ih => omega
 | free i out R1 R2 k X h hw hk hX hf ih => rw [List.length_append]; simp; omega
theorem kept_freet {R R' : List Rw} {ws : List Int} {a e : Int} (hA : AOk R ws) (h : Freet R a e R') : ∀ b k l,Kept R' ws b k l → Kept R ws b k l := by
 cases h with
 | none _ => exact fun _ _ _ hk => hk
 | ok q s e he hs hat =>
  obtain ⟨_,_,_,g4⟩ := free_objs hA.rows he hs a hat
  rintro b k l ⟨w,h1,h2,h3,h4,h5,h6⟩
  exact .mk k l w ((g4 b w).1 h1).1 h2 h3 h4 h5 h6
theorem HM.freet {R R' : List Rw} {ws C G : List Int} {N W : Int} {L L' D Q : List PV} {z : ByteArray} {a e : Int} (h : HM R ws C G N W L D Q z) (hf : Freet R a e R') (hL : L' = rpv R') : HM R' ws C G N W L' D Q z := by
 obtain ⟨h1,h2⟩ := h.a.freet hf
 exact ⟨h1,fun b k l hb => h.k b k l (kept_freet h.a hf b k l hb),by rw [h2]; exact h.n,by rw [h2]; exact h.r,h.w,hL,h.d,h.q,h.c,h.z,h.g,h.g8⟩
theorem freet_ok {R R' : List Rw} {ws : List Int} {a e : Int} (hA : AOk R ws) (ho : a ∈ objs R) (h : Freet R a e R') : e = 0 := by
 cases h with
 | none hn => exact absurd ((obj_iff hA a).1 ho) hn
 | ok _ _ _ _ _ _ => rfl
def swPh (sp W : Int) : Int := if W ≤ (sp + 1) * 32 then 0 else 2
def swCy (sp W cy : Int) : Int := if W ≤ (sp + 1) * 32 then cy + 1 else cy
theorem sweepH_lx (R : List Rw) (ws C G : List Int) (N W ph sp cy : Int) (L D Q : List PV) (z : ByteArray) (ov : Bool) (h : HM R ws C G N W L D Q z) (hph : ph = 2) (hsp : 0 ≤ sp ∧ sp ≤ 1000) (hcy : 0 ≤ cy ∧ cy ≤ 1000000000) : CallF (fun _ => Tryz.prog) 63 [.ptr 0 (.lit 0)] [hpA 0 1 5 6 3 W ph sp cy,hpB 1 2 4 3 W,hpC 2 3 179 2 N,hpP 3 L,hpP 4 D,hpF 5 z ov,hpP 6 Q] 7 (fun r h n => ∃ (out : List Gn) (k ph' sp' cy' : Int) (cells L' : List PV) (R' : List Rw),r = .p (.vsl (.sym k) true cells) ∧ h = [hpA 0 1 5 6 3 W ph' sp' cy',hpB 1 2 4 3 W,hpC 2 3 179 2 N,hpP 3 L',hpP 4 D,hpF 5 z ov,hpP 6 Q] ∧ n = 7 ∧ HM R' ws C G N W L' D Q z ∧ cells = gpv out ∧ k = out.length ∧ SweptTo ws C R (32 * sp) 32 out R' ∧ sp' = sp + 1 ∧ ph' = swPh sp W ∧ cy' = swCy sp W cy) := by
 have hWn := h.w; have hNr := h.n; have hRr := h.r
 refine callF_of_body tok Tryz.func63 (by kernel_rfl) rfl rfl rfl ?_; conv => cbv
 refine drawn_sound tok (by kernel_rfl) [] [0,1,2,3,4,5,6,7,8,9,10,11,12] (by kernel_rfl) ?_; conv => cbv
 refine Fit.mk (by show (-9223372036854775808 : Int) ≤ sp * 32; omega) (by show sp * 32 ≤ 9223372036854775807; omega) fun f hf => ?_
 have hf : f = sp * 32 := hf
 conv => cbv
 refine Fit.mk (by show (-9223372036854775808 : Int) ≤ sp + 1; omega) (by show sp + 1 ≤ 9223372036854775807; omega) fun s1 hs1 => ?_
 have hs1 : s1 = sp + 1 := hs1
 conv => cbv
 refine Fit.mk (by show (-9223372036854775808 : Int) ≤ s1 * 32; omega) (by show s1 * 32 ≤ 9223372036854775807; omega) fun be hbe => ?_
 have hbe : be = s1 * 32 := hbe
 conv => cbv
 refine LoopF.mk (fun kk s => ∃ (at_ k : Int) (i : Nat) (out : List Gn) (cells L1 : List PV) (R1 : List Rw),s = ⟨.ptr 0 (.lit 0) :: (undefs 2 ++ .sl 7 42 4 (.lit 0) (.sym k) :: .undef :: .p (.int .i64 (.sym be)) :: .p (.int .i64 (.sym at_)) :: undefs 65),[hpA 0 1 5 6 3 W ph sp cy,hpB 1 2 4 3 W,hpC 2 3 179 2 N,hpP 3 L1,hpP 4 D,hpF 5 z ov,hpP 6 Q,hpP 7 cells],8⟩ ∧ at_ = 32 * sp + i ∧ i ≤ 32 ∧ HM R1 ws C G N W L1 D Q z ∧ SweptTo ws C R (32 * sp) i out R1 ∧ cells = gpv out ∧ k = out.length ∧ kk = 32 - i) 32 _
  (Re.at [(0,0),(1,1),(2,2),(3,3),(4,4),(5,5),(6,6)] [7]) ⟨f,0,0,[],[],L,R,rfl,by omega,by omega,h,.zero,rfl,rfl,by omega⟩ ?_
 rintro kk s ⟨at_,k,i,out,cells,L1,R1,rfl,hat,hi,h1,hS,hcs,hk,hkk⟩
 have hle := hS.le
 have hcl : (cells.length : Int) = 4 * k := by rw [hcs,gpv_length]; omega
 conv => cbv
 refine Br.mk (fun gi => ?_) (fun gi => ?_)
 ·have gi : at_ < be := gi
  obtain ⟨k',rfl⟩ : ∃ k',kk = k' + 1 := ⟨kk - 1,by omega⟩
  conv => cbv
  refine CallF.le (args0 := [.ptr 0 (.lit 0),i6 at_,i6 0]) (cfr (is_lx R1 ws C G N W ph sp cy L1 D Q z ov h1 at_ 0) [(0,0),(1,1),(2,2),(3,3),(4,4),(5,5),(6,6)] (fun r h' n' hrr => ?_)) (by simp [ales,ale,pvle,I.val])
  obtain ⟨b,e1,e2,e3,hb⟩ := hrr
  subst e1 e2 e3
  cases b with
  | false =>
   have hnw : ¬ Wh R1 C (32 * sp + i) := fun hw => by have := hb.2 (hat ▸ hw); cases this
   conv => cbv
   refine Fit.mk (by show (-9223372036854775808 : Int) ≤ at_ + 1; omega) (by show at_ + 1 ≤ 9223372036854775807; omega) fun i2 hi2 => ?_
   have hi2 : i2 = at_ + 1 := hi2
   have hat2 : i2 = 32 * sp + ((i + 1 : Nat) : Int) := by omega
   conv => cbv
   refine Again.mk k' _ (Nat.lt_succ_self _) (Re.at [(0,0),(1,1),(2,2),(3,3),(4,4),(5,5),(6,6),(7,7)] []) ⟨i2,k,i + 1,out,cells,L1,R1,rfl,hat2,by omega,h1,.skip i out R1 hS hnw,hcs,hk,by omega⟩
  | true =>
   have hw : Wh R1 C (32 * sp + i) := hat ▸ hb.1 rfl
   conv => cbv
   refine cfr (kind_lx R1 ws N at_ W L1 D h1.l h1.d h1.n h1.r h1.a h1.w) [(0,1),(1,2),(2,3),(3,4)] (fun r h' n' hrr => ?_)
   obtain ⟨v,e1,e2,e3,hv⟩ := hrr
   subst e1 e2 e3
   conv => cbv
   refine cfr (wordsV_lx R1 ws C G N W ph sp cy L1 D Q z ov h1 at_) [(0,0),(1,1),(2,2),(3,3),(4,4),(5,5),(6,6)] (fun r h' n' hrr => ?_)
   obtain ⟨X,m,O,e1,e2,e3,hO,hm,hX⟩ := hrr
   subst e1 e2 e3
   conv => cbv
   refine Room.new rfl ?_
   conv => cbv
   refine Room.new ⟨?_,?_,?_⟩ ?_
   ·show (cells.length : Int) = k * 4; omega
   ·show (k + 1) * 48 ≤ 140737488355328; omega
   ·show k + 1 ≤ 9223372036854775807; omega
   conv => cbv
   refine Upd.mk fun c2 hc2 => ?_
   have hc2 : c2 = cells ++ [.int .i64 (.sym v),.int .i64 (.sym at_),.vsl (.sym m) true O,.bool false] := hc2
   have hc2 : c2 = gpv (out ++ [(v,32 * sp + i,X,false)]) := by rw [hc2,hcs,gpv_app,hO,hm,hat]; rfl
   conv => cbv
   refine Sum.mk fun k2 hk2 => ?_
   have hk2 : k2 = k + 1 := hk2
   conv => cbv
   refine cfr (freeA_lx at_ R1 ws N W L1 D h1.l h1.d h1.n h1.r h1.a h1.w) [(0,1),(1,2),(2,3),(3,4)] (fun r h' n' hrr => ?_)
   obtain ⟨e,R2,L2,e1,e2,e3,hL2,hF⟩ := hrr
   subst e1 e2 e3
   have he := freet_ok h1.a (hat.symm ▸ hw.1) hF
   subst he
   have h2 := h1.freet hF hL2
   conv => cbv
   refine Fit.mk (by show (-9223372036854775808 : Int) ≤ at_ + 1; omega) (by show at_ + 1 ≤ 9223372036854775807; omega) fun i2 hi2 => ?_
   have hi2 : i2 = at_ + 1 := hi2
   have hat2 : i2 = 32 * sp + ((i + 1 : Nat) : Int) := by omega
   have hS2 := SweptTo.free i out R1 R2 v X hS hw (hat ▸ hv) (hat ▸ hX) (hat ▸ hF)
   have hk3 : k2 = ((out ++ [(v,32 * sp + (i : Int),X,false)]).length : Int) := by rw [List.length_append]; show k2 = ((out.length + 1 : Nat) : Int); omega
   conv => cbv
   refine Again.mk k' _ (Nat.lt_succ_self _) (Re.at [(0,0),(1,1),(2,2),(3,3),(4,4),(5,5),(6,6),(9,7)] []) ⟨i2,k2,i + 1,_,c2,L2,R2,rfl,hat2,by omega,h2,hS2,hc2,hk3,by omega⟩
 ·have gi : ¬ at_ < be := gi
  obtain rfl : i = 32 := by omega
  conv => cbv
  refine Fit.mk (by show (-9223372036854775808 : Int) ≤ sp + 1; omega) (by show sp + 1 ≤ 9223372036854775807; omega) fun s2 hs2 => ?_
  have hs2 : s2 = sp + 1 := hs2
  conv => cbv
  refine cfr (wordsA_lx R1 ws N W L1 D h1.l h1.d h1.n h1.r h1.a h1.w) [(0,1),(1,2),(2,3),(3,4)] (fun r h' n' ⟨e1,e2,e3⟩ => ?_)
  subst e1 e2 e3
  conv => cbv
  refine Br.mk (fun gw => ?_) (fun gw => ?_)
  ·have gw : W ≤ be := gw
   conv => cbv
   refine Fit.mk (by show (-9223372036854775808 : Int) ≤ cy + 1; omega) (by show cy + 1 ≤ 9223372036854775807; omega) fun c2 hc2 => ?_
   have hc2 : c2 = cy + 1 := hc2
   conv => cbv
   refine RetF.mk [.p (.vsl (.sym k) true cells)] [hpA 0 1 5 6 3 W 0 s2 c2,hpB 1 2 4 3 W,hpC 2 3 179 2 N,hpP 3 L1,hpP 4 D,hpF 5 z ov,hpP 6 Q] 7 (Re.at [(0,0),(1,1),(2,2),(3,3),(4,4),(5,5),(6,6)] []) rfl ⟨out,k,0,s2,c2,cells,L1,R1,rfl,rfl,rfl,h1,hcs,hk,hS,hs2,by unfold swPh; rw [if_pos (by omega)],by unfold swCy; rw [if_pos (by omega)]; exact hc2⟩
  ·have gw : ¬ W ≤ be := gw
   conv => cbv
   refine RetF.mk [.p (.vsl (.sym k) true cells)] [hpA 0 1 5 6 3 W ph s2 cy,hpB 1 2 4 3 W,hpC 2 3 179 2 N,hpP 3 L1,hpP 4 D,hpF 5 z ov,hpP 6 Q] 7 (Re.at [(0,0),(1,1),(2,2),(3,3),(4,4),(5,5),(6,6)] []) rfl ⟨out,k,ph,s2,cy,cells,L1,R1,rfl,rfl,rfl,h1,hcs,hk,hS,hs2,by unfold swPh; rw [if_neg (by omega)]; exact hph,by unfold swCy; rw [if_neg (by omega)]⟩
inductive Stepd (R : List Rw) (ws C G : List Int) (ov : Bool) (ph sp cy W : Int) : List Gn → List Rw → List Int → List Int → List Int → Bool → Int → Int → Int → Prop
 | mark (out : List Gn) (ws' C' G' : List Int) (ov' : Bool) (ph' sp' : Int) (h : ph = 1) (hm : Marked R ws C G ov sp out ph' sp' ws' C' G' ov') : Stepd R ws C G ov ph sp cy W out R ws' C' G' ov' ph' sp' cy
 | sweep (out : List Gn) (R' : List Rw) (h : ph = 2) (hs : SweptTo ws C R (32 * sp) 32 out R') : Stepd R ws C G ov ph sp cy W out R' ws C G ov (swPh sp W) (sp + 1) (swCy sp W cy)
 | idle (h : ph ≠ 1) (h2 : ph ≠ 2) : Stepd R ws C G ov ph sp cy W [] R ws C G ov ph sp cy
theorem step_lx (R : List Rw) (ws C G : List Int) (N W ph sp cy : Int) (L D Q : List PV) (z : ByteArray) (ov : Bool) (h : HM R ws C G N W L D Q z) (o : Unit → Obj) (ho : IsPow o) (hsp : 0 ≤ sp ∧ sp ≤ 1000) (hcy : 0 ≤ cy ∧ cy ≤ 1000000000) : CallF (fun _ => Tryz.prog) 20 [.ptr 0 (.lit 0)] [hpA 0 1 5 6 3 W ph sp cy,hpB 1 2 4 3 W,hpC 2 3 179 2 N,hpP 3 L,hpP 4 D,hpF 5 z ov,hpP 6 Q,(7,.fix 0 o)] 8 (fun r h n => ∃ (out : List Gn) (k ph' sp' cy' : Int) (R' : List Rw) (ws' C' G' : List Int) (ov' : Bool) (cells L' D' Q' : List PV) (z' : ByteArray),r = .p (.vsl (.sym k) true cells) ∧ h = [hpA 0 1 5 6 3 W ph' sp' cy',hpB 1 2 4 3 W,hpC 2 3 179 2 N,hpP 3 L',hpP 4 D',hpF 5 z' ov',hpP 6 Q',(7,.fix 0 o)] ∧ n = 8 ∧ HM R' ws' C' G' N W L' D' Q' z' ∧ cells = gpv out ∧ k = out.length ∧ Stepd R ws C G ov ph sp cy W out R' ws' C' G' ov' ph' sp' cy') := by
 refine callF_of_body tok Tryz.func20 (by kernel_rfl) rfl rfl rfl ?_; conv => cbv
 refine cfr (phase_lx R ws C G N W ph sp cy L D Q z ov) [(0,0),(1,1),(2,2),(3,3),(4,4),(5,5),(6,6)] (fun r h' n' ⟨e1,e2,e3⟩ => ?_)
 subst e1 e2 e3
 conv => cbv
 refine Br.mk (fun g => ?_) (fun g => ?_)
 ·have g : ph = 1 := g
  conv => cbv
  refine cfr (markH_lx R ws C G N W ph sp cy L D Q z ov h o ho g) [(0,0),(1,1),(2,2),(3,3),(4,4),(5,5),(6,6),(7,7)] (fun r h' n' hrr => ?_)
  obtain ⟨out,k,ph',sp',cells,ws',C',G',ov',D',Q',z',e1,e2,e3,h2,hcs,hk,hM⟩ := hrr
  subst e1 e2 e3
  conv => cbv
  refine RetF.mk [.p (.vsl (.sym k) true cells)] [hpA 0 1 5 6 3 W ph' sp' cy,hpB 1 2 4 3 W,hpC 2 3 179 2 N,hpP 3 L,hpP 4 D',hpF 5 z' ov',hpP 6 Q',(7,.fix 0 o)] 8 (Re.at [(0,0),(1,1),(2,2),(3,3),(4,4),(5,5),(6,6),(7,7)] []) rfl ⟨out,k,ph',sp',cy,R,ws',C',G',ov',cells,L,D',Q',z',rfl,rfl,rfl,h2,hcs,hk,.mark out ws' C' G' ov' ph' sp' g hM⟩
 ·have g : ¬ ph = 1 := g
  conv => cbv
  refine Br.mk (fun g2 => ?_) (fun g2 => ?_)
  ·have g2 : ph = 2 := g2
   conv => cbv
   refine cfr (sweepH_lx R ws C G N W ph sp cy L D Q z ov h g2 hsp hcy) [(0,0),(1,1),(2,2),(3,3),(4,4),(5,5),(6,6)] (fun r h' n' hrr => ?_)
   obtain ⟨out,k,ph',sp',cy',cells,L',R',e1,e2,e3,h2,hcs,hk,hS,q1,q2,q3⟩ := hrr
   subst e1 e2 e3
   conv => cbv
   refine RetF.mk [.p (.vsl (.sym k) true cells)] [hpA 0 1 5 6 3 W ph' sp' cy',hpB 1 2 4 3 W,hpC 2 3 179 2 N,hpP 3 L',hpP 4 D,hpF 5 z ov,hpP 6 Q,(7,.fix 0 o)] 8 (Re.at [(0,0),(1,1),(2,2),(3,3),(4,4),(5,5),(6,6),(7,7)] []) rfl ⟨out,k,ph',sp',cy',R',ws,C,G,ov,cells,L',D,Q,z,rfl,rfl,rfl,h2,hcs,hk,by rw [q1,q2,q3]; exact .sweep out R' g2 hS⟩
  ·have g2 : ¬ ph = 2 := g2
   conv => cbv
   refine RetF.mk [.p (.vsl (.sym 0) true [])] [hpA 0 1 5 6 3 W ph sp cy,hpB 1 2 4 3 W,hpC 2 3 179 2 N,hpP 3 L,hpP 4 D,hpF 5 z ov,hpP 6 Q,(7,.fix 0 o)] 8 (Re.at [(0,0),(1,1),(2,2),(3,3),(4,4),(5,5),(6,6),(7,7)] []) rfl ⟨[],0,ph,sp,cy,R,ws,C,G,ov,[],L,D,Q,z,rfl,rfl,rfl,h,rfl,rfl,.idle g g2⟩
theorem RM.over {R : List Rw} {vs C G G' : List Int} {N W m m' : Int} {P B V Q la la' : List PV} (h : RM R vs C G N W P B V Q la m) (hl : la' = i64s G') (hm : m' = G'.length) (hG : ∀ x ∈ G',x ∈ G) (h8 : G'.length ≤ G.length) : RM R vs C G' N W P B V Q la' m' :=
 ⟨h.a,h.n,h.r,h.w,h.p,h.b,h.v,h.q,h.c,hl,hm,fun x hx => h.g x (hG x hx),Nat.le_trans h8 h.g8⟩
theorem rgrey_lx (R : List Rw) (vs C G : List Int) (N W ph sp cy : Int) (P B V Q la : List PV) (m : Int) (ov : Bool) (h : RM R vs C G N W P B V Q la m) : CallF (fun _ => Tryz.prog) 149 [.ptr 0 (.lit 0)] [hpR 0 1 6 3 W 7 ph sp cy,hpB 1 2 5 3 W,hpD 2 3 3 1 N 4 254 8 N,hpP 3 P,hpP 4 B,hpP 5 V,hpP 6 Q,(7,.mix [.p (.vsl (.sym m) true la),.p (.bool ov)])] 8 (fun r h n => ∃ (v : Int) (b : Bool) (G' : List Int) (ov' : Bool) (la' : List PV) (m' : Int),r = .tup [i6 v,.p (.bool b)] ∧ h = [hpR 0 1 6 3 W 7 ph sp cy,hpB 1 2 5 3 W,hpD 2 3 3 1 N 4 254 8 N,hpP 3 P,hpP 4 B,hpP 5 V,hpP 6 Q,(7,.mix [.p (.vsl (.sym m') true la'),.p (.bool ov')])] ∧ n = 8 ∧ RM R vs C G' N W P B V Q la' m' ∧ NextG R C G ov v b G' ov') := by
 have hCl := h.c; have hWn := h.w; have hNr := h.n; have hRr := h.r
 have hQl : Q.length = C.length := by rw [h.q,ipv_length]
 cases ov with
 | false =>
  refine callF_of_body tok Tryz.func149 (by kernel_rfl) rfl rfl rfl ?_; conv => cbv
  refine cfr (refPop_lx G m la false h.m h.l h.g8) [(0,7)] (fun r h' n' hrr => ?_)
  obtain ⟨v,b,m',la',G',e1,e2,e3,hm',hl',h4⟩ := hrr
  subst e1 e2 e3
  have hGs : ∀ x ∈ G',x ∈ G := by
   intro x hx
   rcases h4 with ⟨_,_,_,e⟩ | ⟨e,_⟩
   ·rw [e] at hx; cases hx
   ·rw [e]; exact List.mem_append_left _ hx
  have hG8 : G'.length ≤ G.length := by
   rcases h4 with ⟨_,_,_,e⟩ | ⟨e,_⟩
   ·rw [e]; exact Nat.zero_le _
   ·rw [e,List.length_append]; omega
  have h1 : RM R vs C G' N W P B V Q la' m' := h.over hl' hm' hGs hG8
  cases b with
  | true =>
   conv => cbv
   have hG : G = G' ++ [v] := by
    rcases h4 with ⟨_,_,e,_⟩ | ⟨e,_⟩
    ·cases e
    ·exact e
   refine RetF.mk [i6 v,.p (.bool true)] [hpR 0 1 6 3 W 7 ph sp cy,hpB 1 2 5 3 W,hpD 2 3 3 1 N 4 254 8 N,hpP 3 P,hpP 4 B,hpP 5 V,hpP 6 Q,(7,.mix [.p (.vsl (.sym m') true la'),.p (.bool false)])] 8 (Re.at [(0,0),(1,1),(2,2),(3,3),(4,4),(5,5),(6,6),(7,7)] []) rfl ⟨v,true,G',false,la',m',rfl,rfl,rfl,h1,.pop G' v hG⟩
  | false =>
   conv => cbv
   have hgg : G = [] ∧ v = 0 ∧ G' = [] := by
    rcases h4 with ⟨e,e1,_,e2⟩ | ⟨_,e⟩
    ·exact ⟨e,e1,e2⟩
    ·cases e
   have hG0 := hgg.1
   have hv0 := hgg.2.1
   have hG' := hgg.2.2
   refine RetF.mk [i6 v,.p (.bool false)] [hpR 0 1 6 3 W 7 ph sp cy,hpB 1 2 5 3 W,hpD 2 3 3 1 N 4 254 8 N,hpP 3 P,hpP 4 B,hpP 5 V,hpP 6 Q,(7,.mix [.p (.vsl (.sym m') true la'),.p (.bool false)])] 8 (Re.at [(0,0),(1,1),(2,2),(3,3),(4,4),(5,5),(6,6),(7,7)] []) rfl ⟨v,false,G',false,la',m',rfl,rfl,rfl,h1,by rw [hG',hv0]; exact .none hG0 rfl⟩
 | true =>
  refine callF_of_body tok Tryz.func149 (by kernel_rfl) rfl rfl rfl ?_; conv => cbv
  refine cfr (refPop_lx G m la true h.m h.l h.g8) [(0,7)] (fun r h' n' hrr => ?_)
  obtain ⟨v,b,m',la',G',e1,e2,e3,hm',hl',h4⟩ := hrr
  subst e1 e2 e3
  have hGs : ∀ x ∈ G',x ∈ G := by
   intro x hx
   rcases h4 with ⟨_,_,_,e⟩ | ⟨e,_⟩
   ·rw [e] at hx; cases hx
   ·rw [e]; exact List.mem_append_left _ hx
  have hG8 : G'.length ≤ G.length := by
   rcases h4 with ⟨_,_,_,e⟩ | ⟨e,_⟩
   ·rw [e]; exact Nat.zero_le _
   ·rw [e,List.length_append]; omega
  have h1 : RM R vs C G' N W P B V Q la' m' := h.over hl' hm' hGs hG8
  cases b with
  | true =>
   conv => cbv
   have hG : G = G' ++ [v] := by
    rcases h4 with ⟨_,_,e,_⟩ | ⟨e,_⟩
    ·cases e
    ·exact e
   refine RetF.mk [i6 v,.p (.bool true)] [hpR 0 1 6 3 W 7 ph sp cy,hpB 1 2 5 3 W,hpD 2 3 3 1 N 4 254 8 N,hpP 3 P,hpP 4 B,hpP 5 V,hpP 6 Q,(7,.mix [.p (.vsl (.sym m') true la'),.p (.bool true)])] 8 (Re.at [(0,0),(1,1),(2,2),(3,3),(4,4),(5,5),(6,6),(7,7)] []) rfl ⟨v,true,G',true,la',m',rfl,rfl,rfl,h1,.pop G' v hG⟩
  | false =>
   conv => cbv
   have hgg : G = [] ∧ v = 0 ∧ G' = [] := by
    rcases h4 with ⟨e,e1,_,e2⟩ | ⟨_,e⟩
    ·exact ⟨e,e1,e2⟩
    ·cases e
   have hG0 := hgg.1
   have hv0 := hgg.2.1
   have hG' := hgg.2.2
   obtain ⟨mo,hmo⟩ : ∃ m : Int,m = objCount R := ⟨_,rfl⟩
   refine cfr (robjects_lx mo R vs N W P B V h.p h.b h.v h.n h.r h.a h.w hmo) [(0,1),(1,2),(2,3),(3,4),(4,5)] (fun r h' n' hrr => ?_)
   obtain ⟨O,e1,e2,e3,hO⟩ := hrr
   subst e1 e2 e3
   have hOl : (O.length : Int) = mo := by rw [hO,ipv_length,objs_length h.a.rows,hmo]
   have hO : O = ipv (objs R) := hO
   have hol : ((objs R).length : Int) = mo := by rw [← hOl,hO,ipv_length]
   have hob : mo ≤ 8000 := by have := objsTo_le R R.length; rw [objs_length h.a.rows] at this; omega
   conv => cbv
   refine LoopF.mk (fun k s => ∃ i : Int,s = ⟨.ptr 0 (.lit 0) :: (undefs 5 ++ .sl 8 3 1 (.lit 0) (.sym mo) :: .p (.int .i64 (.sym i)) :: undefs 53),[hpR 0 1 6 3 W 7 ph sp cy,hpB 1 2 5 3 W,hpD 2 3 3 1 N 4 254 8 N,hpP 3 P,hpP 4 B,hpP 5 V,hpP 6 Q,(7,.mix [.p (.vsl (.sym m') true la'),.p (.bool true)]),hpP 8 O],9⟩ ∧ 0 ≤ i ∧ i ≤ mo ∧ (∀ (j : Nat) b,(j : Int) < i → (objs R)[j]? = some b → C[b.toNat]? ≠ some 1) ∧ k = (mo - i).toNat) mo.toNat _
    (Re.at [(0,0),(1,1),(2,2),(3,3),(4,4),(5,5),(6,6),(7,7),(8,8)] []) ⟨0,rfl,by omega,by omega,fun j b hj => by omega,by omega⟩ ?_
   rintro k s ⟨i,rfl,hi0,hi1,hn,hk⟩
   conv => cbv
   refine Br.mk (fun gi => ?_) (fun gi => ?_)
   ·have gi : i < mo := gi
    obtain ⟨k',rfl⟩ : ∃ k',k = k' + 1 := ⟨k - 1,by omega⟩
    obtain ⟨a,ha⟩ : ∃ a,(objs R)[i.toNat]? = some a := ⟨_,List.getElem?_eq_getElem (by omega)⟩
    have hc : O[i.toNat]? = some (.int .i64 (.sym a)) := by rw [hO]; exact ipv_get ha
    have hab := obj_bd h.a (List.mem_of_getElem? ha)
    obtain ⟨x,hx⟩ : ∃ x,C[a.toNat]? = some x := ⟨_,List.getElem?_eq_getElem (by omega)⟩
    have hq : Q[a.toNat]? = some (.int .i64 (.sym x)) := by rw [h.q]; exact ipv_get hx
    conv => cbv
    refine drawn_sound tok (by kernel_rfl) [] [0,1,2,3,4,5,6,7,8,9,10] (by kernel_rfl) ?_; conv => cbv
    refine Need.mk ⟨hi0,gi⟩ ?_
    conv => cbv
    refine Cell.at i _ hc (by simp [I.val]) rfl ?_
    conv => cbv
    refine Need.mk ⟨by show 0 ≤ a; omega,by show a < W; omega⟩ ?_
    conv => cbv
    refine Cell.at a _ hq (by simp [I.val]) rfl ?_
    conv => cbv
    refine Br.mk (fun gx => ?_) (fun gx => ?_)
    ·have gx : x = 1 := gx
     conv => cbv
     refine Need.mk ⟨hi0,gi⟩ ?_
     conv => cbv
     refine Cell.at i _ hc (by simp [I.val]) rfl ?_
     conv => cbv
     refine RetF.mk [i6 a,.p (.bool true)] [hpR 0 1 6 3 W 7 ph sp cy,hpB 1 2 5 3 W,hpD 2 3 3 1 N 4 254 8 N,hpP 3 P,hpP 4 B,hpP 5 V,hpP 6 Q,(7,.mix [.p (.vsl (.sym m') true la'),.p (.bool true)])] 8 (Re.at [(0,0),(1,1),(2,2),(3,3),(4,4),(5,5),(6,6),(7,7)] []) rfl ⟨a,true,G',true,la',m',rfl,rfl,rfl,h1,by rw [hG']; exact .found i.toNat a hG0 rfl ha (by rw [hx,gx]) (fun j b hj => hn j b (by omega))⟩
    ·have gx : ¬ x = 1 := gx
     have hna : C[a.toNat]? ≠ some 1 := fun hk => gx (Option.some.inj (hx.symm.trans hk))
     conv => cbv
     refine Fit.mk (by show (-9223372036854775808 : Int) ≤ i + 1; omega) (by show i + 1 ≤ 9223372036854775807; omega) fun i2 hi2 => ?_
     have hi2 : i2 = i + 1 := hi2
     have hn2 : ∀ (j : Nat) b,(j : Int) < i2 → (objs R)[j]? = some b → C[b.toNat]? ≠ some 1 := by
      intro j b hj hjb
      by_cases q : j = i.toNat
      ·rw [q,ha] at hjb; obtain rfl := Option.some.inj hjb; exact hna
      ·exact hn j b (by omega) hjb
     conv => cbv
     refine Again.mk k' _ (Nat.lt_succ_self _) (Re.at [(0,0),(1,1),(2,2),(3,3),(4,4),(5,5),(6,6),(7,7),(8,8)] []) ⟨i2,rfl,by omega,by omega,hn2,by omega⟩
   ·have gi : ¬ i < mo := gi
    conv => cbv
    refine RetF.mk [i6 0,.p (.bool false)] [hpR 0 1 6 3 W 7 ph sp cy,hpB 1 2 5 3 W,hpD 2 3 3 1 N 4 254 8 N,hpP 3 P,hpP 4 B,hpP 5 V,hpP 6 Q,(7,.mix [.p (.vsl (.sym m') true la'),.p (.bool false)])] 8 (Re.at [(0,0),(1,1),(2,2),(3,3),(4,4),(5,5),(6,6),(7,7)] []) rfl ⟨0,false,G',false,la',m',rfl,rfl,rfl,h1,by rw [hG']; exact .settle hG0 rfl (fun j b hj => hn j b (by have := (List.getElem?_eq_some_iff.1 hj).1; omega) hj)⟩
theorem rwordsV_lx (R : List Rw) (vs C G : List Int) (N W ph sp cy : Int) (P B V Q la : List PV) (m : Int) (ov : Bool) (h : RM R vs C G N W P B V Q la m) (a : Int) : CallF (fun _ => Tryz.prog) 108 [.ptr 0 (.lit 0),i6 a] [hpR 0 1 6 3 W 7 ph sp cy,hpB 1 2 5 3 W,hpD 2 3 3 1 N 4 254 8 N,hpP 3 P,hpP 4 B,hpP 5 V,hpP 6 Q,(7,.mix [.p (.vsl (.sym m) true la),.p (.bool ov)])] 8 (fun r h n => ∃ (X : List Int) (k : Int) (O : List PV),r = .p (.vsl (.sym k) true O) ∧ h = [hpR 0 1 6 3 W 7 ph sp cy,hpB 1 2 5 3 W,hpD 2 3 3 1 N 4 254 8 N,hpP 3 P,hpP 4 B,hpP 5 V,hpP 6 Q,(7,.mix [.p (.vsl (.sym m) true la),.p (.bool ov)])] ∧ n = 8 ∧ O = ipv X ∧ k = X.length ∧ Wrds R vs a X) :=
 (rwords9_lx R vs C G N W ph sp cy P B V Q la m ov h a).ret fun r h' n' ⟨X,k,O,e1,e2,e3,hO,hm,hX⟩ => by
  subst e1 e2 e3
  exact RetF.mk [.p (.vsl (.sym k) true O)] [hpR 0 1 6 3 W 7 ph sp cy,hpB 1 2 5 3 W,hpD 2 3 3 1 N 4 254 8 N,hpP 3 P,hpP 4 B,hpP 5 V,hpP 6 Q,(7,.mix [.p (.vsl (.sym m) true la),.p (.bool ov)])] 8 (Re.at [(0,0),(1,1),(2,2),(3,3),(4,4),(5,5),(6,6),(7,7)] []) rfl ⟨X,k,O,rfl,rfl,rfl,hO,hm,hX⟩
theorem Wrds.le {R : List Rw} {ws X : List Int} {a : Int} (hA : AOk R ws) (h : Wrds R ws a X) : X.length ≤ 31 := by
 have hle := h.1
 generalize hxl : (X.length : Int) = xl at hle
 cases hle with
 | no _ => omega
 | is k l hk => have := hk.bounds hA; omega
def Dk (R : List Rw) (ws C : List Int) : Prop := ∀ (a x i : Int),a ∈ objs R → C[a.toNat]? = some 2 → Loaded R ws a i x 0 → x % 2 = 1 → (x - 1) / 2 ∈ objs R → C[((x - 1) / 2).toNat]? ≠ some 0
def CLe (C C' : List Int) : Prop := (∀ p : Nat,C'[p]? = some 0 → C[p]? = some 0) ∧ (∀ p : Nat,C'[p]? = some 2 → C[p]? = some 2)
theorem CLe.refl (C : List Int) : CLe C C := ⟨fun _ h => h,fun _ h => h⟩
theorem CLe.trans {A B C : List Int} (h : CLe A B) (k : CLe B C) : CLe A C := ⟨fun p q => h.1 p (k.1 p q),fun p q => h.2 p (k.2 p q)⟩
theorem shade_le (R : List Rw) (ph a : Int) (s : List Int × List Int × Bool) : CLe s.1 (shade R ph a s).1 := by
 unfold shade
 split
 ·rename_i hc
  have h0 := hc.2.2
  have hl := (List.getElem?_eq_some_iff.1 h0).1
  refine ⟨fun p hp => ?_,fun p hp => ?_⟩
  ·by_cases e : a.toNat = p
   ·subst e; exact h0
   ·have hp : (s.1.set a.toNat 1)[p]? = some 0 := hp
    rw [List.getElem?_set_ne e] at hp; exact hp
  ·have hp : (s.1.set a.toNat 1)[p]? = some 2 := hp
   by_cases e : a.toNat = p
   ·subst e
    rw [List.getElem?_set_self hl] at hp
    exact absurd (Option.some.inj hp) (by decide)
   ·rw [List.getElem?_set_ne e] at hp; exact hp
 ·exact CLe.refl _
theorem shade_hit (R : List Rw) (a : Int) (s : List Int × List Int × Bool) (ha : a ∈ objs R) : (shade R 1 a s).1[a.toNat]? ≠ some 0 := by
 unfold shade
 split
 ·rename_i hc
  have hl := (List.getElem?_eq_some_iff.1 hc.2.2).1
  show (s.1.set a.toNat 1)[a.toNat]? ≠ some 0
  rw [List.getElem?_set_self hl]
  exact fun h => absurd (Option.some.inj h) (by decide)
 ·rename_i hc
  exact fun h => hc ⟨rfl,ha,h⟩
theorem shadeW_le (R : List Rw) (ph w : Int) (s : List Int × List Int × Bool) : CLe s.1 (shadeW R ph w s).1 := by
 unfold shadeW
 split
 ·exact shade_le _ _ _ _
 ·exact CLe.refl _
theorem shadeW_hit (R : List Rw) (w : Int) (s : List Int × List Int × Bool) (hw : w % 2 = 1) (ha : (w - 1) / 2 ∈ objs R) : (shadeW R 1 w s).1[((w - 1) / 2).toNat]? ≠ some 0 := by
 unfold shadeW
 rw [if_pos hw]
 exact shade_hit _ _ _ ha
theorem fold_le (R : List Rw) (ph : Int) : ∀ (X : List Int) (s : List Int × List Int × Bool),CLe s.1 (X.foldl (fun s w => shadeW R ph w s) s).1
 | [],s => CLe.refl _
 | w :: X,s => (shadeW_le R ph w s).trans (fold_le R ph X _)
theorem fold_hit (R : List Rw) : ∀ (X : List Int) (s : List Int × List Int × Bool) (w : Int),w ∈ X → w % 2 = 1 → (w - 1) / 2 ∈ objs R → (X.foldl (fun s w => shadeW R 1 w s) s).1[((w - 1) / 2).toNat]? ≠ some 0
 | [],s,w,hw,_,_ => by cases hw
 | v :: X,s,w,hw,h1,h2 => by
  rcases List.mem_cons.1 hw with rfl | hw
  ·exact fun h => shadeW_hit R w s h1 h2 ((fold_le R 1 X _).1 _ h)
  ·exact fold_hit R X _ w hw h1 h2
theorem Dk.le {R : List Rw} {ws C C' : List Int} (h : Dk R ws C) (hc : CLe C C') : Dk R ws C' :=
 fun a x i ha h2 hl hx hp h0 => h a x i ha (hc.2 _ h2) hl hx hp (hc.1 _ h0)
theorem beg_le (R : List Rw) : ∀ (A : List Int) (s : List Int × List Int × Bool),CLe s.1 (A.foldl (fun s a => shade R 1 a s) s).1
 | [],s => CLe.refl _
 | a :: A,s => (shade_le R 1 a s).trans (beg_le R A _)
theorem Dk.begin {R : List Rw} {ws C G A : List Int} {ov : Bool} {W : Int} (h : (C,G,ov) = begS R W A) : Dk R ws C := by
 intro a x i ha h2 hl hx hp
 have hc : C = (begS R W A).1 := congrArg Prod.fst h
 have hle := beg_le R A (List.replicate W.toNat 0,[],false)
 rw [hc] at h2
 have h3 : (List.replicate W.toNat (0 : Int))[a.toNat]? = some 2 := hle.2 _ h2
 rw [List.getElem?_replicate] at h3
 split at h3
 ·exact absurd (Option.some.inj h3) (by decide)
 ·cases h3
theorem stored_kept {R : List Rw} {ws ws' : List Int} {a i x e : Int} (hA : AOk R ws) (h : Stored R ws a i x e ws') : ∀ b k l,Kept R ws' b k l → Kept R ws b k l := by
 cases h with
 | none _ => exact fun _ _ _ hk => hk
 | arg _ _ _ _ => exact fun _ _ _ hk => hk
 | ok k l hka hi =>
  intro b k' l' hb
  have hbn := hka.bounds hA
  obtain ⟨w,q1,q2,q3,q4,q5,q6⟩ := hb
  have hne : (a + 1 + i).toNat ≠ b.toNat := by
   obtain ⟨wa,p1,p2,p3,p4,p5,p6⟩ := hka
   have := within_not hA.rows p1 q1 (j := a + 1 + i) (by omega) (by omega)
   have := q1.facts hA.rows
   omega
  rw [List.getElem?_set_ne hne] at q2
  exact .mk k' l' w q1 q2 q3 q4 q5 q6
theorem stored_loaded {R : List Rw} {ws ws' : List Int} {a i x e b j y : Int} (hA : AOk R ws) (h : Stored R ws a i x e ws') (hl : Loaded R ws' b j y 0) : (e = 0 ∧ y = x) ∨ Loaded R ws b j y 0 := by
 have hk := stored_kept hA h
 cases h with
 | none _ => exact .inr hl
 | arg _ _ _ _ => exact .inr hl
 | ok k l hka hi =>
  cases hl with
  | ok k' l' _ hK hj hy =>
   have hbn := hka.bounds hA
   have hlen := hA.len
   rcases set_get (by omega) hy with ⟨_,e⟩ | ⟨_,e⟩
   ·exact .inl ⟨rfl,e⟩
   ·exact .inr (.ok k' l' y (hk _ _ _ hK) hj e)
theorem Dk.store {R : List Rw} {ws ws' C C' G G' : List Int} {ov ov' : Bool} {a i x e : Int} (hA : AOk R ws) (h : Dk R ws C) (hs : Stored R ws a i x e ws') (hc : (C',G',ov') = storeS R 1 e x (C,G,ov)) : Dk R ws' C' := by
 have hC : C' = (storeS R 1 e x (C,G,ov)).1 := congrArg Prod.fst hc
 have hle : CLe C C' := by
  rw [hC]; unfold storeS
  split
  ·exact shadeW_le R 1 x (C,G,ov)
  ·exact CLe.refl _
 intro b y j hb h2 hl hy hp
 rcases stored_loaded hA hs hl with ⟨he,rfl⟩ | hl
 ·rw [hC]; unfold storeS
  rw [if_pos he]
  exact shadeW_hit R y _ hy hp
 ·exact (h.le hle) b y j hb h2 hl hy hp
theorem Dk.alloc {R R' : List Rw} {ws ws' C C' : List Int} {kind n a e ph : Int} (hA : AOk R ws) (hCl : (C.length : Int) = 32 * R.length) (h : Dk R ws C) (hs : Alloct R ws kind n a e R' ws') (hph : ph = 1) (hc : C' = allocC ph a e C) : Dk R' ws' C' := by
 by_cases he : e = 0
 ·obtain ⟨h1,h2,_,h4,h5,h6,h7⟩ := alloct_ok hA hs he
  obtain ⟨hA',hlR⟩ := hA.alloct hs
  have hab := h1.bounds hA'
  have hC : C' = C.set a.toNat 2 := by rw [hc,allocC,if_pos he,hph]; rfl
  have hself : C'[a.toNat]? = some 2 := by rw [hC]; exact List.getElem?_set_self (by omega)
  intro b x i hb hb2 hl hx hp
  have hpl : (x - 1) / 2 = a ∨ ((x - 1) / 2 ≠ a ∧ (x - 1) / 2 ∈ objs R) := by
   by_cases q : (x - 1) / 2 = a
   ·exact .inl q
   ·rcases h6 _ ((obj_iff hA' _).1 hp) with q2 | q2
    ·exact .inl q2
    ·exact .inr ⟨q,(obj_iff hA _).2 q2⟩
  rcases h6 b ((obj_iff hA' b).1 hb) with rfl | hbo
  ·exfalso
   cases hl with
   | ok k l _ hK hi hxw =>
    obtain ⟨_,rfl⟩ := hK.det9 h1
    rw [h4 i hi.1 hi.2] at hxw
    obtain rfl := Option.some.inj hxw
    omega
  ·have hbR := (obj_iff hA b).2 hbo
   have hbb := obj_bd hA hbR
   have hne : b ≠ a := fun q => h2 (q ▸ hbo)
   have hlR : Loaded R ws b i x 0 := by
    cases hl with
    | ok k l _ hK hi hxw =>
     obtain ⟨k',l',hK'⟩ := Kept.of hA hbo
     obtain ⟨_,rfl⟩ := (h5 b k' l' hK').det9 hK
     exact .ok k' l' x hK' hi (by rw [← h7 b k' l' i hK' hi.1 hi.2]; exact hxw)
   have hcb : C[b.toNat]? = some 2 := by rw [hC,List.getElem?_set_ne (by omega)] at hb2; exact hb2
   rcases hpl with q | ⟨q1,q2⟩
   ·rw [q,hself]; exact fun k => absurd (Option.some.inj k) (by decide)
   ·have hpb := obj_bd hA q2
    rw [hC,List.getElem?_set_ne (by omega)]
    exact h b x i hbR hcb hlR hx q2
 ·have hg := alloct_gen9 hA hs
  rcases hg with ⟨_,_,rfl,rfl⟩ | ⟨q,_⟩
  ·rw [hc,allocC,if_neg he]; exact h
  ·exact absurd q he
theorem Dk.marked {R : List Rw} {ws ws' C C' G G' : List Int} {ov ov' : Bool} {sp p s : Int} {out : List Gn} (hA : AOk R ws) (hg0 : ∀ x ∈ G,0 ≤ x) (hCl : (C.length : Int) = 32 * R.length) (h : Dk R ws C) (hm : Marked R ws C G ov sp out p s ws' C' G' ov') (hp : p = 1) : Dk R ws' C' := by
 cases hm with
 | scan v A X _ _ o1 _ hg hX hs =>
  have hC : C' = (X.foldl (fun s w => shadeW R 1 w s) (C,A,o1)).1.set v.toNat 2 := congrArg Prod.fst hs
  have hle := fold_le R 1 X (C,A,o1)
  have hhit := fold_hit R X (C,A,o1)
  generalize (X.foldl (fun s w => shadeW R 1 w s) (C,A,o1)).1 = F at hC hle hhit
  have hset : ∀ q : Nat,C'[q]? = some 0 → F[q]? = some 0 := by
   intro q hq
   rw [hC] at hq
   by_cases e : v.toNat = q
   ·subst e
    by_cases hl : v.toNat < F.length
    ·rw [List.getElem?_set_self hl] at hq; exact absurd (Option.some.inj hq) (by decide)
    ·rw [List.getElem?_eq_none (by rw [List.length_set]; omega)] at hq; cases hq
   ·rw [List.getElem?_set_ne e] at hq; exact hq
  intro b x i hb hb2 hl hx hpl h0
  by_cases e : v.toNat = b.toNat
  ·have hbb := obj_bd hA hb
   have hv : 0 ≤ v := by
    cases hg with
    | pop A' _ hG => exact hg0 v (by rw [hG]; simp)
    | found _ _ _ _ ha _ _ => exact (obj_bd hA (List.mem_of_getElem? ha)).1
   have hvb : v = b := by omega
   subst hvb
   have hxX : x ∈ X := by
    have hlen := hX.1
    cases hl with
    | ok k l _ hK hi hxw =>
     generalize hxl : (X.length : Int) = xl at hlen
     cases hlen with
     | no hn => exact absurd hK.obj6 hn
     | is k' l' hK' =>
      obtain ⟨_,rfl⟩ := hK.det9 hK'
      obtain ⟨y,hy⟩ : ∃ y,X[i.toNat]? = some y := ⟨_,List.getElem?_eq_getElem (by omega)⟩
      have hld := hX.2 _ _ hy
      rw [show ((i.toNat : Nat) : Int) = i by omega] at hld
      obtain ⟨rfl,_⟩ := loaded_det hld (.ok k l x hK hi hxw)
      exact List.mem_of_getElem? hy
   exact hhit x hxX hx hpl (hset _ h0)
  ·rw [hC,List.getElem?_set_ne e] at hb2
   exact h b x i hb (hle.2 _ hb2) hl hx hpl (hle.1 _ (hset _ h0))
 | keep a A X _ _ _ o1 _ hg hf hX hst hs =>
  have hC : C' = (shade R 1 a (C,A,o1)).1 := congrArg Prod.fst hs
  have h2 : Dk R ws' C := by
   intro b y j hb hb2 hl hy hpl
   rcases stored_loaded hA hst hl with ⟨_,rfl⟩ | hl
   ·exact absurd hy (by decide)
   ·exact h b y j hb hb2 hl hy hpl
  rw [hC]
  exact h2.le (shade_le R 1 a (C,A,o1))
 | sweep _ _ _ _ => exact absurd hp (by decide)
theorem Dk.stepd {R R' : List Rw} {ws ws' C C' G G' : List Int} {ov ov' : Bool} {ph sp cy W p s y : Int} {out : List Gn} (hA : AOk R ws) (hg0 : ∀ x ∈ G,0 ≤ x) (hCl : (C.length : Int) = 32 * R.length) (h : ph = 1 → Dk R ws C) (hs : Stepd R ws C G ov ph sp cy W out R' ws' C' G' ov' p s y) (hp : p = 1) : Dk R' ws' C' := by
 cases hs with
 | mark _ _ _ _ _ _ _ hph hm => exact (h hph).marked hA hg0 hCl hm hp
 | sweep _ _ _ _ =>
  unfold swPh at hp
  split at hp <;> exact absurd hp (by decide)
 | idle h1 _ => exact absurd hp h1
theorem rmark_lx (R : List Rw) (vs C G : List Int) (N W ph sp cy : Int) (P B V Q la : List PV) (m : Int) (ov : Bool) (h : RM R vs C G N W P B V Q la m) (hph : ph = 1) : CallF (fun _ => Tryz.prog) 84 [.ptr 0 (.lit 0)] [hpR 0 1 6 3 W 7 ph sp cy,hpB 1 2 5 3 W,hpD 2 3 3 1 N 4 254 8 N,hpP 3 P,hpP 4 B,hpP 5 V,hpP 6 Q,(7,.mix [.p (.vsl (.sym m) true la),.p (.bool ov)])] 8 (fun r h n => ∃ (out : List Gn) (k ph' sp' : Int) (cells : List PV) (vs' C' G' : List Int) (ov' : Bool) (V' Q' la' : List PV) (m' : Int),r = .p (.vsl (.sym k) true cells) ∧ h = [hpR 0 1 6 3 W 7 ph' sp' cy,hpB 1 2 5 3 W,hpD 2 3 3 1 N 4 254 8 N,hpP 3 P,hpP 4 B,hpP 5 V',hpP 6 Q',(7,.mix [.p (.vsl (.sym m') true la'),.p (.bool ov')])] ∧ n = 8 ∧ RM R vs' C' G' N W P B V' Q' la' m' ∧ cells = gpv out ∧ k = out.length ∧ Marked R vs C G ov sp out ph' sp' vs' C' G' ov') := by
 subst hph
 have hCl := h.c; have hWn := h.w; have hNr := h.n; have hRr := h.r
 have hQl : Q.length = C.length := by rw [h.q,ipv_length]
 refine callF_of_body tok Tryz.func84 (by kernel_rfl) rfl rfl rfl ?_; conv => cbv
 refine cfr (rgrey_lx R vs C G N W 1 sp cy P B V Q la m ov h) [(0,0),(1,1),(2,2),(3,3),(4,4),(5,5),(6,6),(7,7)] (fun r h' n' hrr => ?_)
 obtain ⟨v,b,G1,ov1,la1,m1,e1,e2,e3,h1,hg⟩ := hrr
 subst e1 e2 e3
 cases b with
 | true =>
  have hv : 0 ≤ v ∧ v < W := by
   cases hg with
   | pop A _ hG => exact h.g v (by rw [hG]; simp)
   | found i _ _ _ ha _ _ => have := obj_bd h.a (List.mem_of_getElem? ha); omega
  conv => cbv
  refine cfr (rwordsV_lx R vs C G1 N W 1 sp cy P B V Q la1 m1 ov1 h1 v) [(0,0),(1,1),(2,2),(3,3),(4,4),(5,5),(6,6),(7,7)] (fun r h' n' hrr => ?_)
  obtain ⟨X,k,O,e1,e2,e3,hO,hk,hX⟩ := hrr
  subst e1 e2 e3
  have hXb := hX.bd h.a
  have hX31 := hX.le h.a
  conv => cbv
  refine LoopF.mk (fun kk s => ∃ (i : Int) (C' G' : List Int) (ov' : Bool) (Q' la' : List PV) (m' : Int),s = ⟨.ptr 0 (.lit 0) :: (undefs 2 ++ .p (.int .i64 (.sym v)) :: .undef :: .p (.vsl (.sym k) true O) :: .p (.int .i64 (.sym i)) :: undefs 115),[hpR 0 1 6 3 W 7 1 sp cy,hpB 1 2 5 3 W,hpD 2 3 3 1 N 4 254 8 N,hpP 3 P,hpP 4 B,hpP 5 V,hpP 6 Q',(7,.mix [.p (.vsl (.sym m') true la'),.p (.bool ov')])],8⟩ ∧ 0 ≤ i ∧ i ≤ k ∧ RM R vs C' G' N W P B V Q' la' m' ∧ (C',G',ov') = (X.take i.toNat).foldl (fun s w => shadeW R 1 w s) (C,G1,ov1) ∧ kk = (k - i).toNat) k.toNat _
   (Re.at [(0,0),(1,1),(2,2),(3,3),(4,4),(5,5),(6,6),(7,7)] []) ⟨0,C,G1,ov1,Q,la1,m1,rfl,by omega,by omega,h1,rfl,by omega⟩ ?_
  rintro kk s ⟨i,C',G',ov',Q',la',m',rfl,hi0,hi1,h2,hS,hkk⟩
  conv => cbv
  refine Br.mk (fun gi => ?_) (fun gi => ?_)
  ·have gi : i < k := gi
   obtain ⟨k',rfl⟩ : ∃ k',kk = k' + 1 := ⟨kk - 1,by omega⟩
   obtain ⟨w,hw⟩ : ∃ w,X[i.toNat]? = some w := ⟨_,List.getElem?_eq_getElem (by omega)⟩
   have hc : O[i.toNat]? = some (.int .i64 (.sym w)) := by rw [hO]; exact ipv_get hw
   have hstep : ∀ (i2 : Int),i2 = i + 1 → ∀ s2,s2 = shadeW R 1 w (C',G',ov') → s2 = (X.take i2.toNat).foldl (fun s w => shadeW R 1 w s) (C,G1,ov1) := by
    intro i2 hi2 s2 hs2
    rw [show i2.toNat = i.toNat + 1 by omega,List.take_add_one,hw,Option.toList_some,List.foldl_append,← hS,hs2]; rfl
   conv => cbv
   refine Need.mk ⟨hi0,gi⟩ ?_
   conv => cbv
   refine Cell.at i _ hc (by simp [I.val]) rfl ?_
   conv => cbv
   refine callF_frame (rIsPtr_lx w) [] rfl trivial rfl rfl (fun r h' n' hrr => ?_)
   obtain ⟨b,e1,e2,e3,hb⟩ := hrr
   subst e1 e2 e3
   cases b with
   | false =>
    conv => cbv
    have hb : ¬ w % 2 = 1 := fun k => by have := hb.2 k; cases this
    refine Fit.mk (by show (-9223372036854775808 : Int) ≤ i + 1; omega) (by show i + 1 ≤ 9223372036854775807; omega) fun i2 hi2 => ?_
    have hi2 : i2 = i + 1 := hi2
    have hS2 := hstep i2 hi2 (C',G',ov') (by unfold shadeW; rw [if_neg hb])
    conv => cbv
    refine Again.mk k' _ (Nat.lt_succ_self _) (Re.at [(0,0),(1,1),(2,2),(3,3),(4,4),(5,5),(6,6),(7,7)] []) ⟨i2,C',G',ov',Q',la',m',rfl,by omega,by omega,h2,hS2,by omega⟩
   | true =>
    conv => cbv
    have hb : w % 2 = 1 := hb.1 rfl
    refine Need.mk ⟨hi0,gi⟩ ?_
    conv => cbv
    refine Cell.at i _ hc (by simp [I.val]) rfl ?_
    conv => cbv
    refine callF_frame (rAt_lx w (hXb w (List.mem_of_getElem? hw))) [] rfl trivial rfl rfl (fun r h' n' hrr => ?_)
    obtain ⟨y,e1,e2,e3,hy,_⟩ := hrr
    subst e1 e2 e3
    have hy := hy hb
    conv => cbv
    refine cfr (rshade_lx R vs C' G' N W 1 sp cy P B V Q' la' m' ov' h2 y) [(0,0),(1,1),(2,2),(3,3),(4,4),(5,5),(6,6),(7,7)] (fun r h' n' hrr => ?_)
    obtain ⟨C2,G2,ov2,Q2,la2,m2,e1,e2,e3,h3,hs⟩ := hrr
    subst e1 e2 e3
    conv => cbv
    refine Fit.mk (by show (-9223372036854775808 : Int) ≤ i + 1; omega) (by show i + 1 ≤ 9223372036854775807; omega) fun i2 hi2 => ?_
    have hi2 : i2 = i + 1 := hi2
    have hS2 := hstep i2 hi2 (C2,G2,ov2) (by unfold shadeW; rw [if_pos hb,← hy]; exact hs)
    conv => cbv
    refine Again.mk k' _ (Nat.lt_succ_self _) (Re.at [(0,0),(1,1),(2,2),(3,3),(4,4),(5,5),(6,6),(7,7)] []) ⟨i2,C2,G2,ov2,Q2,la2,m2,rfl,by omega,by omega,h3,hS2,by omega⟩
  ·have gi : ¬ i < k := gi
   rw [List.take_of_length_le (by omega)] at hS
   have hCl2 := h2.c
   have hQl2 : Q'.length = C'.length := by rw [h2.q,ipv_length]
   obtain ⟨Q3,hQ3⟩ : ∃ Q3,Q3 = ipv (C'.set v.toNat 2) := ⟨_,rfl⟩
   have hfin : RM R vs (C'.set v.toNat 2) G' N W P B V Q3 la' m' := ⟨h2.a,h2.n,h2.r,h2.w,h2.p,h2.b,h2.v,hQ3,by rw [List.length_set]; exact h2.c,h2.l,h2.m,h2.g,h2.g8⟩
   conv => cbv
   refine Need.mk ⟨by show 0 ≤ v; omega,by show v < W; omega⟩ ?_
   conv => cbv
   refine Need.mk (by show v + 1 ≤ (Q'.length : Int); omega) ?_
   conv => cbv
   refine Upd.mk fun Q2 hQ2 => ?_
   have hle : pvles Q2 Q3 := by
    have hQ2 : Q2 = Q'.set v.toNat (.int .i64 (.lit 2)) := hQ2
    rw [hQ2,hQ3,h2.q,← ipv_set]
    exact pvles_set _ _ _ _ _ (pvles_refl _) (by simp [pvle,I.val])
   unfold pvles at hle
   clear hQ2
   conv => cbv
   refine RetF.mk [.p (.vsl (.sym 0) true [])] [hpR 0 1 6 3 W 7 1 sp cy,hpB 1 2 5 3 W,hpD 2 3 3 1 N 4 254 8 N,hpP 3 P,hpP 4 B,hpP 5 V,hpP 6 Q3,(7,.mix [.p (.vsl (.sym m') true la'),.p (.bool ov')])] 8 (Re.at [(0,0),(1,1),(2,2),(3,3),(4,4),(5,5),(6,6),(7,7)] []) rfl ⟨[],0,1,sp,[],vs,C'.set v.toNat 2,G',ov',V,Q3,la',m',rfl,rfl,rfl,hfin,rfl,rfl,.scan v G1 X _ G' ov1 ov' hg hX (by unfold scanS; rw [← hS])⟩
 | false =>
  have hv0 : v = 0 := by cases hg <;> rfl
  conv => cbv
  obtain ⟨mo,hmo⟩ : ∃ m : Int,m = objCount R := ⟨_,rfl⟩
  refine cfr (robjects_lx mo R vs N W P B V h.p h.b h.v h.n h.r h.a h.w hmo) [(0,1),(1,2),(2,3),(3,4),(4,5)] (fun r h' n' hrr => ?_)
  obtain ⟨O,e1,e2,e3,hO⟩ := hrr
  subst e1 e2 e3
  have hOl : (O.length : Int) = mo := by rw [hO,ipv_length,objs_length h.a.rows,hmo]
  have hO : O = ipv (objs R) := hO
  have hol : ((objs R).length : Int) = mo := by rw [← hOl,hO,ipv_length]
  have hob : mo ≤ 8000 := by have := objsTo_le R R.length; rw [objs_length h.a.rows] at this; omega
  conv => cbv
  refine LoopF.mk (fun kk s => ∃ i : Int,s = ⟨.ptr 0 (.lit 0) :: (undefs 6 ++ .sl 8 3 1 (.lit 0) (.sym mo) :: .p (.int .i64 (.sym i)) :: undefs 113),[hpR 0 1 6 3 W 7 1 sp cy,hpB 1 2 5 3 W,hpD 2 3 3 1 N 4 254 8 N,hpP 3 P,hpP 4 B,hpP 5 V,hpP 6 Q,(7,.mix [.p (.vsl (.sym m1) true la1),.p (.bool ov1)]),hpP 8 O],9⟩ ∧ 0 ≤ i ∧ i ≤ mo ∧ (∀ (j : Nat) b,(j : Int) < i → (objs R)[j]? = some b → ¬ Due R vs C b) ∧ kk = (mo - i).toNat) mo.toNat _
   (Re.at [(0,0),(1,1),(2,2),(3,3),(4,4),(5,5),(6,6),(7,7),(8,8)] []) ⟨0,rfl,by omega,by omega,fun j b hj => by omega,by omega⟩ ?_
  rintro kk s ⟨i,rfl,hi0,hi1,hn,hkk⟩
  conv => cbv
  refine Br.mk (fun gi => ?_) (fun gi => ?_)
  ·have gi : i < mo := gi
   obtain ⟨k',rfl⟩ : ∃ k',kk = k' + 1 := ⟨kk - 1,by omega⟩
   obtain ⟨a,ha⟩ : ∃ a,(objs R)[i.toNat]? = some a := ⟨_,List.getElem?_eq_getElem (by omega)⟩
   have hc : O[i.toNat]? = some (.int .i64 (.sym a)) := by rw [hO]; exact ipv_get ha
   have hab := obj_bd h.a (List.mem_of_getElem? ha)
   have hob2 := (obj_iff h.a a).1 (List.mem_of_getElem? ha)
   obtain ⟨x,hx⟩ : ∃ x,C[a.toNat]? = some x := ⟨_,List.getElem?_eq_getElem (by omega)⟩
   have hq : Q[a.toNat]? = some (.int .i64 (.sym x)) := by rw [h.q]; exact ipv_get hx
   have hstep : ∀ i2 : Int,i2 = i + 1 → ¬ Due R vs C a → ∀ (j : Nat) b,(j : Int) < i2 → (objs R)[j]? = some b → ¬ Due R vs C b := by
    intro i2 hi2 hd j b hj hjb
    by_cases q : j = i.toNat
    ·rw [q,ha] at hjb; obtain rfl := Option.some.inj hjb; exact hd
    ·exact hn j b (by omega) hjb
   conv => cbv
   refine Need.mk ⟨hi0,gi⟩ ?_
   conv => cbv
   refine Cell.at i _ hc (by simp [I.val]) rfl ?_
   conv => cbv
   refine cfr (rwordsV_lx R vs C G1 N W 1 sp cy P B V Q la1 m1 ov1 h1 a) [(0,0),(1,1),(2,2),(3,3),(4,4),(5,5),(6,6),(7,7)] (fun r h' n' hrr => ?_)
   obtain ⟨X,k,O2,e1,e2,e3,hO2,hk,hX⟩ := hrr
   subst e1 e2 e3
   have hX31 := hX.le h.a
   conv => cbv
   refine drawn_sound tok (by kernel_rfl) [(8,[])] [0,1,2,3,4,5,6,7,8,9,10,11,12,13,14,15,16,17,18,19,20,21,22,23,24,25,26,27,28,29,30,31,32,33] (by kernel_rfl) ?_; conv => cbv
   refine Need.mk ⟨hi0,gi⟩ ?_
   conv => cbv
   refine Cell.at i _ hc (by simp [I.val]) rfl ?_
   conv => cbv
   refine cfr (rkind_lx R vs N a W P B V h.p h.b h.v h.n h.r h.a h.w) [(0,1),(1,2),(2,3),(3,4),(4,5)] (fun r h' n' hrr => ?_)
   obtain ⟨kd,e1,e2,e3,hkd⟩ := hrr
   subst e1 e2 e3
   conv => cbv
   refine Br.mk (fun g5 => ?_) (fun g5 => ?_)
   ·have g5 : kd = 5 := g5
    obtain ⟨l,hK⟩ : ∃ l,Kept R vs a 5 l := by
     cases hkd with
     | no _ => cases g5
     | is _ l hK => exact ⟨l,g5 ▸ hK⟩
    conv => cbv
    refine Need.mk ⟨hi0,gi⟩ ?_
    conv => cbv
    refine Cell.at i _ hc (by simp [I.val]) rfl ?_
    conv => cbv
    refine Need.mk ⟨by show 0 ≤ a; omega,by show a < W; omega⟩ ?_
    conv => cbv
    refine Cell.at a _ hq (by simp [I.val]) rfl ?_
    conv => cbv
    refine Br.mk (fun g0 => ?_) (fun g0 => ?_)
    ·have g0 : x = 0 := g0
     conv => cbv
     refine Br.mk (fun g1 => ?_) (fun g1 => ?_)
     ·have g1 : 1 < k := g1
      obtain ⟨y,hy⟩ : ∃ y,X[(1 : Nat)]? = some y := ⟨_,List.getElem?_eq_getElem (by omega)⟩
      have hcy : O2[(1 : Nat)]? = some (.int .i64 (.sym y)) := by rw [hO2]; exact ipv_get hy
      have hld : Loaded R vs a 1 y 0 := hX.2 1 y hy
      conv => cbv
      refine Need.mk ⟨by show (0 : Int) ≤ 1; omega,by show 1 < k; omega⟩ ?_
      conv => cbv
      refine Cell.at 1 _ hcy (by simp [I.val]) rfl ?_
      conv => cbv
      refine Br.mk (fun gy => ?_) (fun gy => ?_)
      ·have gy : y ≠ 0 := gy
       have hdue : Due R vs C a := ⟨⟨l,hK⟩,by rw [hx,g0],y,hld,gy⟩
       conv => cbv
       refine drawn_sound tok (by kernel_rfl) [(8,[])] [0,1,2,3,4,5,6,7,8] (by kernel_rfl) ?_; conv => cbv
       refine Need.mk ⟨hi0,gi⟩ ?_
       conv => cbv
       refine Cell.at i _ hc (by simp [I.val]) rfl ?_
       conv => cbv
       refine CallF.le (args0 := [.ptr 1 (.lit 0),i6 a,i6 1,i6 0]) (cfr (rstore_lx 1 0 R vs N a W P B V h.p h.b h.v h.n h.r h.a h.w) [(0,1),(1,2),(2,3),(3,4),(4,5)] (fun r h' n' hrr => ?_)) (by simp [ales,ale,pvle,I.val])
       obtain ⟨e,vs',V',e1,e2,e3,hV',hT⟩ := hrr
       subst e1 e2 e3
       have he : e = 0 := by
        cases hld with
        | ok _ l2 _ hK2 hi2 _ =>
         cases hT with
         | none hno => exact absurd hob2 hno
         | arg k3 l3 hK3 hi3 => obtain ⟨_,rfl⟩ := hK2.det9 hK3; exact absurd hi2 hi3
         | ok _ _ _ _ => rfl
       have h2 := h1.stored (by decide) hT hV'
       conv => cbv
       refine Need.mk ⟨hi0,gi⟩ ?_
       conv => cbv
       refine Cell.at i _ hc (by simp [I.val]) rfl ?_
       conv => cbv
       refine cfr (rshade_lx R vs' C G1 N W 1 sp cy P B V' Q la1 m1 ov1 h2 a) [(0,0),(1,1),(2,2),(3,3),(4,4),(5,5),(6,6),(7,7)] (fun r h' n' hrr => ?_)
       obtain ⟨C',G',ov',Q',la',m',e1,e2,e3,h3,hS⟩ := hrr
       subst e1 e2 e3
       conv => cbv
       refine Need.mk ⟨hi0,gi⟩ ?_
       conv => cbv
       refine Cell.at i _ hc (by simp [I.val]) rfl ?_
       conv => cbv
       refine RetF.mk [.p (.vsl (.sym 1) true [.int .i64 (.sym 5),.int .i64 (.sym a),.vsl (.sym k) true O2,.bool true])] [hpR 0 1 6 3 W 7 1 sp cy,hpB 1 2 5 3 W,hpD 2 3 3 1 N 4 254 8 N,hpP 3 P,hpP 4 B,hpP 5 V',hpP 6 Q',(7,.mix [.p (.vsl (.sym m') true la'),.p (.bool ov')])] 8 (Re.at [(0,0),(1,1),(2,2),(3,3),(4,4),(5,5),(6,6),(7,7)] []) rfl ⟨[(5,a,X,true)],1,1,sp,_,vs',C',G',ov',V',Q',la',m',rfl,rfl,rfl,h3,by rw [hO2,hk]; rfl,rfl,.keep a G1 X vs' C' G' ov1 ov' (hv0 ▸ hg) (.found i.toNat a ha hdue (fun j b hj => hn j b (by omega))) hX (he ▸ hT) hS⟩
      ·have gy : ¬ y ≠ 0 := gy
       have hnd : ¬ Due R vs C a := by
        rintro ⟨_,_,y2,hy2,hy0⟩
        obtain ⟨rfl,_⟩ := loaded_det hld hy2
        exact gy hy0
       conv => cbv
       refine Fit.mk (by show (-9223372036854775808 : Int) ≤ i + 1; omega) (by show i + 1 ≤ 9223372036854775807; omega) fun i2 hi2 => ?_
       have hi2 : i2 = i + 1 := hi2
       conv => cbv
       refine Again.mk k' _ (Nat.lt_succ_self _) (Re.at [(0,0),(1,1),(2,2),(3,3),(4,4),(5,5),(6,6),(7,7),(8,8)] []) ⟨i2,rfl,by omega,by omega,hstep i2 hi2 hnd,by omega⟩
     ·have g1 : ¬ 1 < k := g1
      have hnd : ¬ Due R vs C a := by
       rintro ⟨_,_,y2,hy2,hy0⟩
       cases hy2 with
       | ok k2 l2 _ hK2 hi2 _ =>
        have hlen := hX.1
        generalize hxl : (X.length : Int) = xl at hlen
        cases hlen with
        | no hno => exact hno hob2
        | is k3 l3 hK3 => have := (hK3.det9 hK2).2; omega
      conv => cbv
      refine Fit.mk (by show (-9223372036854775808 : Int) ≤ i + 1; omega) (by show i + 1 ≤ 9223372036854775807; omega) fun i2 hi2 => ?_
      have hi2 : i2 = i + 1 := hi2
      conv => cbv
      refine Again.mk k' _ (Nat.lt_succ_self _) (Re.at [(0,0),(1,1),(2,2),(3,3),(4,4),(5,5),(6,6),(7,7),(8,8)] []) ⟨i2,rfl,by omega,by omega,hstep i2 hi2 hnd,by omega⟩
    ·have g0 : ¬ x = 0 := g0
     have hnd : ¬ Due R vs C a := fun hd => g0 (Option.some.inj (hx.symm.trans hd.2.1))
     conv => cbv
     refine Fit.mk (by show (-9223372036854775808 : Int) ≤ i + 1; omega) (by show i + 1 ≤ 9223372036854775807; omega) fun i2 hi2 => ?_
     have hi2 : i2 = i + 1 := hi2
     conv => cbv
     refine Again.mk k' _ (Nat.lt_succ_self _) (Re.at [(0,0),(1,1),(2,2),(3,3),(4,4),(5,5),(6,6),(7,7),(8,8)] []) ⟨i2,rfl,by omega,by omega,hstep i2 hi2 hnd,by omega⟩
   ·have g5 : ¬ kd = 5 := g5
    have hnd : ¬ Due R vs C a := by
     rintro ⟨⟨l,hK⟩,_⟩
     cases hkd with
     | no hno => exact hno hob2
     | is _ l2 hK2 => exact g5 (hK2.det9 hK).1
    conv => cbv
    refine Fit.mk (by show (-9223372036854775808 : Int) ≤ i + 1; omega) (by show i + 1 ≤ 9223372036854775807; omega) fun i2 hi2 => ?_
    have hi2 : i2 = i + 1 := hi2
    conv => cbv
    refine Again.mk k' _ (Nat.lt_succ_self _) (Re.at [(0,0),(1,1),(2,2),(3,3),(4,4),(5,5),(6,6),(7,7),(8,8)] []) ⟨i2,rfl,by omega,by omega,hstep i2 hi2 hnd,by omega⟩
  ·have gi : ¬ i < mo := gi
   conv => cbv
   refine RetF.mk [.p (.vsl (.sym 0) true [])] [hpR 0 1 6 3 W 7 2 0 cy,hpB 1 2 5 3 W,hpD 2 3 3 1 N 4 254 8 N,hpP 3 P,hpP 4 B,hpP 5 V,hpP 6 Q,(7,.mix [.p (.vsl (.sym m1) true la1),.p (.bool ov1)])] 8 (Re.at [(0,0),(1,1),(2,2),(3,3),(4,4),(5,5),(6,6),(7,7)] []) rfl ⟨[],0,2,0,[],vs,C,G1,ov1,V,Q,la1,m1,rfl,rfl,rfl,h1,rfl,rfl,.sweep G1 ov1 (hv0 ▸ hg) (.none (fun j b hj => hn j b (by have := (List.getElem?_eq_some_iff.1 hj).1; omega) hj))⟩
inductive RG (R : List Rw) (vs C : List Int) (sp : Int) : Nat → List Gn → Prop
 | zero : RG R vs C sp 0 []
 | skip (i : Nat) (a : Int) (out : List Gn) (h : RG R vs C sp i out) (ha : (objs R)[i]? = some a) (hn : ¬ (a / 32 = sp ∧ C[a.toNat]? = some 0)) : RG R vs C sp (i + 1) out
 | add (i : Nat) (a k : Int) (X : List Int) (out : List Gn) (h : RG R vs C sp i out) (ha : (objs R)[i]? = some a) (hw : a / 32 = sp ∧ C[a.toNat]? = some 0) (hk : KindR R vs a k) (hX : Wrds R vs a X) : RG R vs C sp (i + 1) (out ++ [(k,a,X,false)])
theorem RG.le {R : List Rw} {vs C : List Int} {sp : Int} {i : Nat} {out : List Gn} (h : RG R vs C sp i out) : out.length ≤ i := by
 induction h with
 | zero => exact Nat.le_refl _
 | skip i a out h ha hn ih => omega
 | add i a k X out h ha hw hk hX ih => rw [List.length_append]; simp; omega
inductive Frees : List Rw → List Int → List Rw → Prop
 | nil (R : List Rw) : Frees R [] R
 | snoc (R R1 R2 : List Rw) (l : List Int) (a e : Int) (h : Frees R l R1) (hf : Freet R1 a e R2) : Frees R (l ++ [a]) R2
theorem RM.freet {R R' : List Rw} {vs C G : List Int} {N W m : Int} {P P' B B' V Q la : List PV} {a e : Int} (h : RM R vs C G N W P B V Q la m) (hf : Freet R a e R') (hP : P' = cpv R') (hB : B' = bpv R') : RM R' vs C G N W P' B' V Q la m := by
 obtain ⟨h1,h2⟩ := h.a.freet hf
 exact ⟨h1,by rw [h2]; exact h.n,by rw [h2]; exact h.r,h.w,hP,hB,h.v,h.q,h.c,h.l,h.m,h.g,h.g8⟩
theorem gpv_get (l : List Gn) : ∀ (i : Nat) (g : Gn),l[i]? = some g → (gpv l)[4 * i + 1]? = some (.int .i64 (.sym g.2.1)) := by
 induction l with
 | nil => intro i g h; simp at h
 | cons x l ih =>
  intro i g h
  cases i with
  | zero => simp at h; subst h; rfl
  | succ i =>
   have := ih i g (by simpa using h)
   show (gpv (x :: l))[4 * (i + 1) + 1]? = _
   rw [show 4 * (i + 1) + 1 = (4 * i + 1) + 4 by omega]
   exact this
theorem rsweep_lx (R : List Rw) (vs C G : List Int) (N W ph sp cy : Int) (P B V Q la : List PV) (m : Int) (ov : Bool) (h : RM R vs C G N W P B V Q la m) (hph : ph = 2) (hsp : 0 ≤ sp ∧ sp ≤ 1000) (hcy : 0 ≤ cy ∧ cy ≤ 1000000000) : CallF (fun _ => Tryz.prog) 85 [.ptr 0 (.lit 0)] [hpR 0 1 6 3 W 7 ph sp cy,hpB 1 2 5 3 W,hpD 2 3 3 1 N 4 254 8 N,hpP 3 P,hpP 4 B,hpP 5 V,hpP 6 Q,(7,.mix [.p (.vsl (.sym m) true la),.p (.bool ov)])] 8 (fun r h n => ∃ (out : List Gn) (k ph' sp' cy' : Int) (cells P' B' : List PV) (R' : List Rw),r = .p (.vsl (.sym k) true cells) ∧ h = [hpR 0 1 6 3 W 7 ph' sp' cy',hpB 1 2 5 3 W,hpD 2 3 3 1 N 4 254 8 N,hpP 3 P',hpP 4 B',hpP 5 V,hpP 6 Q,(7,.mix [.p (.vsl (.sym m) true la),.p (.bool ov)])] ∧ n = 8 ∧ RM R' vs C G N W P' B' V Q la m ∧ cells = gpv out ∧ k = out.length ∧ RG R vs C sp (objs R).length out ∧ Frees R (out.map fun g => g.2.1) R' ∧ sp' = sp + 1 ∧ ph' = swPh sp W ∧ cy' = swCy sp W cy) := by
 have hCl := h.c; have hWn := h.w; have hNr := h.n; have hRr := h.r
 have hQl : Q.length = C.length := by rw [h.q,ipv_length]
 obtain ⟨mo,hmo⟩ : ∃ m : Int,m = objCount R := ⟨_,rfl⟩
 refine callF_of_body tok Tryz.func85 (by kernel_rfl) rfl rfl rfl ?_; conv => cbv
 refine cfr (robjects_lx mo R vs N W P B V h.p h.b h.v h.n h.r h.a h.w hmo) [(0,1),(1,2),(2,3),(3,4),(4,5)] (fun r h' n' hrr => ?_)
 obtain ⟨O,e1,e2,e3,hO⟩ := hrr
 subst e1 e2 e3
 have hOl : (O.length : Int) = mo := by rw [hO,ipv_length,objs_length h.a.rows,hmo]
 have hO : O = ipv (objs R) := hO
 have hol : ((objs R).length : Int) = mo := by rw [← hOl,hO,ipv_length]
 have hob : mo ≤ 8000 := by have := objsTo_le R R.length; rw [objs_length h.a.rows] at this; omega
 conv => cbv
 refine LoopF.mk (fun kk s => ∃ (i k : Int) (out : List Gn) (cells : List PV),s = ⟨.ptr 0 (.lit 0) :: (undefs 2 ++ .sl 9 42 4 (.lit 0) (.sym k) :: .sl 8 3 1 (.lit 0) (.sym mo) :: .p (.int .i64 (.sym i)) :: undefs 109),[hpR 0 1 6 3 W 7 ph sp cy,hpB 1 2 5 3 W,hpD 2 3 3 1 N 4 254 8 N,hpP 3 P,hpP 4 B,hpP 5 V,hpP 6 Q,(7,.mix [.p (.vsl (.sym m) true la),.p (.bool ov)]),hpP 8 O,hpP 9 cells],10⟩ ∧ 0 ≤ i ∧ i ≤ mo ∧ RG R vs C sp i.toNat out ∧ cells = gpv out ∧ k = out.length ∧ kk = (mo - i).toNat) mo.toNat _
  (Re.at [(0,0),(1,1),(2,2),(3,3),(4,4),(5,5),(6,6),(7,7),(8,8)] [9]) ⟨0,0,[],[],rfl,by omega,by omega,.zero,rfl,rfl,by omega⟩ ?_
 rintro kk s ⟨i,k,out,cells,rfl,hi0,hi1,hG,hcs,hk,hkk⟩
 have hle := hG.le
 have hcl : (cells.length : Int) = 4 * k := by rw [hcs,gpv_length]; omega
 conv => cbv
 refine Br.mk (fun gi => ?_) (fun gi => ?_)
 ·have gi : i < mo := gi
  obtain ⟨k',rfl⟩ : ∃ k',kk = k' + 1 := ⟨kk - 1,by omega⟩
  obtain ⟨a,ha⟩ : ∃ a,(objs R)[i.toNat]? = some a := ⟨_,List.getElem?_eq_getElem (by omega)⟩
  have hc : O[i.toNat]? = some (.int .i64 (.sym a)) := by rw [hO]; exact ipv_get ha
  have hab := obj_bd h.a (List.mem_of_getElem? ha)
  obtain ⟨x,hx⟩ : ∃ x,C[a.toNat]? = some x := ⟨_,List.getElem?_eq_getElem (by omega)⟩
  have hq : Q[a.toNat]? = some (.int .i64 (.sym x)) := by rw [h.q]; exact ipv_get hx
  have hdv : a.tdiv 32 = a / 32 := Int.tdiv_eq_ediv_of_nonneg hab.1
  have hskip : ∀ i2 : Int,i2 = i + 1 → ¬ (a / 32 = sp ∧ C[a.toNat]? = some 0) → RG R vs C sp i2.toNat out := by
   intro i2 hi2 hn
   rw [show i2.toNat = i.toNat + 1 by omega]
   exact .skip _ a out hG ha hn
  conv => cbv
  refine drawn_sound tok (by kernel_rfl) [] [0,1,2,3,4,5,6,7,8,9,10,11,12,13,14,15,16,17,18,19,20,21,22] (by kernel_rfl) ?_; conv => cbv
  refine Need.mk ⟨hi0,gi⟩ ?_
  conv => cbv
  refine Cell.at i _ hc (by simp [I.val]) rfl ?_
  conv => cbv
  refine Fit.mk (by show (-9223372036854775808 : Int) ≤ a.tdiv 32; omega) (by show a.tdiv 32 ≤ 9223372036854775807; omega) fun d hd => ?_
  have hd : d = a / 32 := hd.trans hdv
  conv => cbv
  refine Br.mk (fun gd => ?_) (fun gd => ?_)
  ·have gd : d = sp := gd
   conv => cbv
   refine Need.mk ⟨hi0,gi⟩ ?_
   conv => cbv
   refine Cell.at i _ hc (by simp [I.val]) rfl ?_
   conv => cbv
   refine Need.mk ⟨by show 0 ≤ a; omega,by show a < W; omega⟩ ?_
   conv => cbv
   refine Cell.at a _ hq (by simp [I.val]) rfl ?_
   conv => cbv
   refine Br.mk (fun g0 => ?_) (fun g0 => ?_)
   ·have g0 : x = 0 := g0
    conv => cbv
    refine drawn_sound tok (by kernel_rfl) [(9,[18,17,16,15,14,13,12,11,10,0]),(19,[13,12,11,10,0]),(21,[0]),(22,[])] [0,1,2,3,4,5,6,7,8,10,11,12,13,14,15,16,17,18,9,19,20,21,22,23] (by kernel_rfl) ?_; conv => cbv
    refine Need.mk ⟨hi0,gi⟩ ?_
    conv => cbv
    refine Cell.at i _ hc (by simp [I.val]) rfl ?_
    conv => cbv
    refine Need.mk ⟨hi0,gi⟩ ?_
    conv => cbv
    refine Cell.at i _ hc (by simp [I.val]) rfl ?_
    conv => cbv
    refine Need.mk ⟨hi0,gi⟩ ?_
    conv => cbv
    refine Cell.at i _ hc (by simp [I.val]) rfl ?_
    conv => cbv
    refine cfr (rkind_lx R vs N a W P B V h.p h.b h.v h.n h.r h.a h.w) [(0,1),(1,2),(2,3),(3,4),(4,5)] (fun r h' n' hrr => ?_)
    obtain ⟨kd,e1,e2,e3,hkd⟩ := hrr
    subst e1 e2 e3
    conv => cbv
    refine cfr (rwordsV_lx R vs C G N W ph sp cy P B V Q la m ov h a) [(0,0),(1,1),(2,2),(3,3),(4,4),(5,5),(6,6),(7,7)] (fun r h' n' hrr => ?_)
    obtain ⟨X,kx,O2,e1,e2,e3,hO2,hkx,hX⟩ := hrr
    subst e1 e2 e3
    conv => cbv
    refine Room.new rfl ?_
    conv => cbv
    refine Room.new ⟨?_,?_,?_⟩ ?_
    ·show (cells.length : Int) = k * 4; omega
    ·show (k + 1) * 48 ≤ 140737488355328; omega
    ·show k + 1 ≤ 9223372036854775807; omega
    conv => cbv
    refine Upd.mk fun c2 hc2 => ?_
    have hc2 : c2 = cells ++ [.int .i64 (.sym kd),.int .i64 (.sym a),.vsl (.sym kx) true O2,.bool false] := hc2
    have hc2 : c2 = gpv (out ++ [(kd,a,X,false)]) := by rw [hc2,hcs,gpv_app,hO2,hkx]; rfl
    conv => cbv
    refine Sum.mk fun k2 hk2 => ?_
    have hk2 : k2 = k + 1 := hk2
    conv => cbv
    refine Fit.mk (by show (-9223372036854775808 : Int) ≤ i + 1; omega) (by show i + 1 ≤ 9223372036854775807; omega) fun i2 hi2 => ?_
    have hi2 : i2 = i + 1 := hi2
    have hG2 : RG R vs C sp i2.toNat (out ++ [(kd,a,X,false)]) := by
     rw [show i2.toNat = i.toNat + 1 by omega]
     exact .add _ a kd X out hG ha ⟨by omega,by rw [hx,g0]⟩ hkd hX
    have hk3 : k2 = ((out ++ [(kd,a,X,false)]).length : Int) := by rw [List.length_append]; show k2 = ((out.length + 1 : Nat) : Int); omega
    conv => cbv
    refine Again.mk k' _ (Nat.lt_succ_self _) (Re.at [(0,0),(1,1),(2,2),(3,3),(4,4),(5,5),(6,6),(7,7),(8,8),(11,9)] []) ⟨i2,k2,_,c2,rfl,by omega,by omega,hG2,hc2,hk3,by omega⟩
   ·have g0 : ¬ x = 0 := g0
    have hnw : ¬ (a / 32 = sp ∧ C[a.toNat]? = some 0) := fun hk => g0 (Option.some.inj (hx.symm.trans hk.2))
    conv => cbv
    refine Fit.mk (by show (-9223372036854775808 : Int) ≤ i + 1; omega) (by show i + 1 ≤ 9223372036854775807; omega) fun i2 hi2 => ?_
    have hi2 : i2 = i + 1 := hi2
    have hG2 := hskip i2 hi2 hnw
    conv => cbv
    refine Again.mk k' _ (Nat.lt_succ_self _) (Re.at [(0,0),(1,1),(2,2),(3,3),(4,4),(5,5),(6,6),(7,7),(8,8),(9,9)] []) ⟨i2,k,out,cells,rfl,by omega,by omega,hG2,hcs,hk,by omega⟩
  ·have gd : ¬ d = sp := gd
   have hnw : ¬ (a / 32 = sp ∧ C[a.toNat]? = some 0) := fun hk => gd (hd.trans hk.1)
   conv => cbv
   refine Fit.mk (by show (-9223372036854775808 : Int) ≤ i + 1; omega) (by show i + 1 ≤ 9223372036854775807; omega) fun i2 hi2 => ?_
   have hi2 : i2 = i + 1 := hi2
   have hG2 := hskip i2 hi2 hnw
   conv => cbv
   refine Again.mk k' _ (Nat.lt_succ_self _) (Re.at [(0,0),(1,1),(2,2),(3,3),(4,4),(5,5),(6,6),(7,7),(8,8),(9,9)] []) ⟨i2,k,out,cells,rfl,by omega,by omega,hG2,hcs,hk,by omega⟩
 ·have gi : ¬ i < mo := gi
  have hG : RG R vs C sp (objs R).length out := by rw [show (objs R).length = i.toNat by omega]; exact hG
  conv => cbv
  refine LoopF.mk (fun kk s => ∃ (i : Int) (P1 B1 : List PV) (R1 : List Rw),s = ⟨.ptr 0 (.lit 0) :: (undefs 2 ++ .sl 8 42 4 (.lit 0) (.sym k) :: (undefs 2 ++ .p (.int .i64 (.sym i)) :: undefs 108)),[hpR 0 1 6 3 W 7 ph sp cy,hpB 1 2 5 3 W,hpD 2 3 3 1 N 4 254 8 N,hpP 3 P1,hpP 4 B1,hpP 5 V,hpP 6 Q,(7,.mix [.p (.vsl (.sym m) true la),.p (.bool ov)]),hpP 8 cells],9⟩ ∧ 0 ≤ i ∧ i ≤ k ∧ RM R1 vs C G N W P1 B1 V Q la m ∧ Frees R ((out.map fun g => g.2.1).take i.toNat) R1 ∧ kk = (k - i).toNat) k.toNat _
   (Re.at [(0,0),(1,1),(2,2),(3,3),(4,4),(5,5),(6,6),(7,7),(9,8)] []) ⟨0,P,B,R,rfl,by omega,by omega,h,.nil R,by omega⟩ ?_
  rintro kk s ⟨i,P1,B1,R1,rfl,hi0,hi1,h1,hF,hkk⟩
  conv => cbv
  refine Br.mk (fun gi => ?_) (fun gi => ?_)
  ·have gi : i < k := gi
   obtain ⟨k',rfl⟩ : ∃ k',kk = k' + 1 := ⟨kk - 1,by omega⟩
   obtain ⟨g,hg⟩ : ∃ g,out[i.toNat]? = some g := ⟨_,List.getElem?_eq_getElem (by omega)⟩
   obtain ⟨a,ha⟩ : ∃ a,a = g.2.1 := ⟨_,rfl⟩
   have hcg := gpv_get out i.toNat g hg
   rw [← hcs,← ha] at hcg
   conv => cbv
   refine drawn_sound tok (by kernel_rfl) [(9,[])] [0,1,2,3,4,5,6,7,8,9] (by kernel_rfl) ?_; conv => cbv
   refine Need.mk ⟨hi0,gi⟩ ?_
   conv => cbv
   refine Sum.mk fun w hw => ?_
   have hw : w = i * 4 := hw
   conv => cbv
   refine Sum.mk fun w2 hw2 => ?_
   have hw2 : w2 = w + 1 := hw2
   conv => cbv
   refine Cell.at (w2 + 0) (4 * i.toNat + 1) hcg rfl (by omega) ?_
   conv => cbv
   refine cfr (rfreeA_lx R1 vs N a W P1 B1 V h1.p h1.b h1.v h1.n h1.r h1.a h1.w) [(0,1),(1,2),(2,3),(3,4),(4,5)] (fun r h' n' hrr => ?_)
   obtain ⟨e,R2,P2,B2,e1,e2,e3,hP2,hB2,hf⟩ := hrr
   subst e1 e2 e3
   have h2 := h1.freet hf hP2 hB2
   conv => cbv
   refine Fit.mk (by show (-9223372036854775808 : Int) ≤ i + 1; omega) (by show i + 1 ≤ 9223372036854775807; omega) fun i2 hi2 => ?_
   have hi2 : i2 = i + 1 := hi2
   have hF2 : Frees R ((out.map fun g => g.2.1).take i2.toNat) R2 := by
    rw [show i2.toNat = i.toNat + 1 by omega,List.take_add_one,List.getElem?_map,hg]
    exact .snoc R R1 R2 _ g.2.1 e hF (ha ▸ hf)
   conv => cbv
   refine Again.mk k' _ (Nat.lt_succ_self _) (Re.at [(0,0),(1,1),(2,2),(3,3),(4,4),(5,5),(6,6),(7,7),(8,8)] []) ⟨i2,P2,B2,R2,rfl,by omega,by omega,h2,hF2,by omega⟩
  ·have gi : ¬ i < k := gi
   rw [List.take_of_length_le (by rw [List.length_map]; omega)] at hF
   conv => cbv
   refine Fit.mk (by show (-9223372036854775808 : Int) ≤ sp + 1; omega) (by show sp + 1 ≤ 9223372036854775807; omega) fun s2 hs2 => ?_
   have hs2 : s2 = sp + 1 := hs2
   conv => cbv
   refine drawn_sound tok (by kernel_rfl) [] [0,1,2,3,4,5,6,7,8,9,10,11,12,13,14,15] (by kernel_rfl) ?_; conv => cbv
   refine Br.mk (fun gw => ?_) (fun gw => ?_)
   ·have gw : N ≤ s2 := gw
    conv => cbv
    refine Fit.mk (by show (-9223372036854775808 : Int) ≤ cy + 1; omega) (by show cy + 1 ≤ 9223372036854775807; omega) fun c2 hc2 => ?_
    have hc2 : c2 = cy + 1 := hc2
    conv => cbv
    refine RetF.mk [.p (.vsl (.sym k) true cells)] [hpR 0 1 6 3 W 7 0 s2 c2,hpB 1 2 5 3 W,hpD 2 3 3 1 N 4 254 8 N,hpP 3 P1,hpP 4 B1,hpP 5 V,hpP 6 Q,(7,.mix [.p (.vsl (.sym m) true la),.p (.bool ov)])] 8 (Re.at [(0,0),(1,1),(2,2),(3,3),(4,4),(5,5),(6,6),(7,7)] []) rfl ⟨out,k,0,s2,c2,cells,P1,B1,R1,rfl,rfl,rfl,h1,hcs,hk,hG,hF,hs2,by unfold swPh; rw [if_pos (by omega)],by unfold swCy; rw [if_pos (by omega)]; exact hc2⟩
   ·have gw : ¬ N ≤ s2 := gw
    conv => cbv
    refine RetF.mk [.p (.vsl (.sym k) true cells)] [hpR 0 1 6 3 W 7 ph s2 cy,hpB 1 2 5 3 W,hpD 2 3 3 1 N 4 254 8 N,hpP 3 P1,hpP 4 B1,hpP 5 V,hpP 6 Q,(7,.mix [.p (.vsl (.sym m) true la),.p (.bool ov)])] 8 (Re.at [(0,0),(1,1),(2,2),(3,3),(4,4),(5,5),(6,6),(7,7)] []) rfl ⟨out,k,ph,s2,cy,cells,P1,B1,R1,rfl,rfl,rfl,h1,hcs,hk,hG,hF,hs2,by unfold swPh; rw [if_neg (by omega)]; exact hph,by unfold swCy; rw [if_neg (by omega)]⟩
inductive RStepd (R : List Rw) (vs C G : List Int) (ov : Bool) (ph sp cy W : Int) : List Gn → List Rw → List Int → List Int → List Int → Bool → Int → Int → Int → Prop
 | mark (out : List Gn) (vs' C' G' : List Int) (ov' : Bool) (ph' sp' : Int) (h : ph = 1) (hm : Marked R vs C G ov sp out ph' sp' vs' C' G' ov') : RStepd R vs C G ov ph sp cy W out R vs' C' G' ov' ph' sp' cy
 | sweep (out : List Gn) (R' : List Rw) (h : ph = 2) (hg : RG R vs C sp (objs R).length out) (hf : Frees R (out.map fun g => g.2.1) R') : RStepd R vs C G ov ph sp cy W out R' vs C G ov (swPh sp W) (sp + 1) (swCy sp W cy)
 | idle (h : ph ≠ 1) (h2 : ph ≠ 2) : RStepd R vs C G ov ph sp cy W [] R vs C G ov ph sp cy
theorem rstep_lx (R : List Rw) (vs C G : List Int) (N W ph sp cy : Int) (P B V Q la : List PV) (m : Int) (ov : Bool) (h : RM R vs C G N W P B V Q la m) (hsp : 0 ≤ sp ∧ sp ≤ 1000) (hcy : 0 ≤ cy ∧ cy ≤ 1000000000) : CallF (fun _ => Tryz.prog) 30 [.ptr 0 (.lit 0)] [hpR 0 1 6 3 W 7 ph sp cy,hpB 1 2 5 3 W,hpD 2 3 3 1 N 4 254 8 N,hpP 3 P,hpP 4 B,hpP 5 V,hpP 6 Q,(7,.mix [.p (.vsl (.sym m) true la),.p (.bool ov)])] 8 (fun r h n => ∃ (out : List Gn) (k ph' sp' cy' : Int) (R' : List Rw) (vs' C' G' : List Int) (ov' : Bool) (cells P' B' V' Q' la' : List PV) (m' : Int),r = .p (.vsl (.sym k) true cells) ∧ h = [hpR 0 1 6 3 W 7 ph' sp' cy',hpB 1 2 5 3 W,hpD 2 3 3 1 N 4 254 8 N,hpP 3 P',hpP 4 B',hpP 5 V',hpP 6 Q',(7,.mix [.p (.vsl (.sym m') true la'),.p (.bool ov')])] ∧ n = 8 ∧ RM R' vs' C' G' N W P' B' V' Q' la' m' ∧ cells = gpv out ∧ k = out.length ∧ RStepd R vs C G ov ph sp cy W out R' vs' C' G' ov' ph' sp' cy') := by
 refine callF_of_body tok Tryz.func30 (by kernel_rfl) rfl rfl rfl ?_; conv => cbv
 refine Br.mk (fun g => ?_) (fun g => ?_)
 ·have g : ph = 1 := g
  conv => cbv
  refine cfr (rmark_lx R vs C G N W ph sp cy P B V Q la m ov h g) [(0,0),(1,1),(2,2),(3,3),(4,4),(5,5),(6,6),(7,7)] (fun r h' n' hrr => ?_)
  obtain ⟨out,k,ph',sp',cells,vs',C',G',ov',V',Q',la',m',e1,e2,e3,h2,hcs,hk,hM⟩ := hrr
  subst e1 e2 e3
  conv => cbv
  refine RetF.mk [.p (.vsl (.sym k) true cells)] [hpR 0 1 6 3 W 7 ph' sp' cy,hpB 1 2 5 3 W,hpD 2 3 3 1 N 4 254 8 N,hpP 3 P,hpP 4 B,hpP 5 V',hpP 6 Q',(7,.mix [.p (.vsl (.sym m') true la'),.p (.bool ov')])] 8 (Re.at [(0,0),(1,1),(2,2),(3,3),(4,4),(5,5),(6,6),(7,7)] []) rfl ⟨out,k,ph',sp',cy,R,vs',C',G',ov',cells,P,B,V',Q',la',m',rfl,rfl,rfl,h2,hcs,hk,.mark out vs' C' G' ov' ph' sp' g hM⟩
 ·have g : ¬ ph = 1 := g
  conv => cbv
  refine Br.mk (fun g2 => ?_) (fun g2 => ?_)
  ·have g2 : ph = 2 := g2
   conv => cbv
   refine cfr (rsweep_lx R vs C G N W ph sp cy P B V Q la m ov h g2 hsp hcy) [(0,0),(1,1),(2,2),(3,3),(4,4),(5,5),(6,6),(7,7)] (fun r h' n' hrr => ?_)
   obtain ⟨out,k,ph',sp',cy',cells,P',B',R',e1,e2,e3,h2,hcs,hk,hG,hF,q1,q2,q3⟩ := hrr
   subst e1 e2 e3
   conv => cbv
   refine RetF.mk [.p (.vsl (.sym k) true cells)] [hpR 0 1 6 3 W 7 ph' sp' cy',hpB 1 2 5 3 W,hpD 2 3 3 1 N 4 254 8 N,hpP 3 P',hpP 4 B',hpP 5 V,hpP 6 Q,(7,.mix [.p (.vsl (.sym m) true la),.p (.bool ov)])] 8 (Re.at [(0,0),(1,1),(2,2),(3,3),(4,4),(5,5),(6,6),(7,7)] []) rfl ⟨out,k,ph',sp',cy',R',vs,C,G,ov,cells,P',B',V,Q,la,m,rfl,rfl,rfl,h2,hcs,hk,by rw [q1,q2,q3]; exact .sweep out R' g2 hG hF⟩
  ·have g2 : ¬ ph = 2 := g2
   conv => cbv
   refine RetF.mk [.p (.vsl (.sym 0) true [])] [hpR 0 1 6 3 W 7 ph sp cy,hpB 1 2 5 3 W,hpD 2 3 3 1 N 4 254 8 N,hpP 3 P,hpP 4 B,hpP 5 V,hpP 6 Q,(7,.mix [.p (.vsl (.sym m) true la),.p (.bool ov)])] 8 (Re.at [(0,0),(1,1),(2,2),(3,3),(4,4),(5,5),(6,6),(7,7)] []) rfl ⟨[],0,ph,sp,cy,R,vs,C,G,ov,[],P,B,V,Q,la,m,rfl,rfl,rfl,h,rfl,rfl,.idle g g2⟩
theorem Sim.wrds {R : List Rw} {ws vs X Y : List Int} {a : Int} (h : Sim R ws vs) (h1 : Wrds R ws a X) (h2 : Wrds R vs a Y) : X = Y := by
 have hl := h.len h1.1 h2.1
 apply List.ext_getElem?
 intro i
 by_cases hi : i < X.length
 ·obtain ⟨x,hx⟩ : ∃ x,X[i]? = some x := ⟨_,List.getElem?_eq_getElem hi⟩
  obtain ⟨y,hy⟩ : ∃ y,Y[i]? = some y := ⟨_,List.getElem?_eq_getElem (by omega)⟩
  obtain ⟨rfl,_⟩ := h.load (h1.2 i x hx) (h2.2 i y hy)
  rw [hx,hy]
 ·rw [List.getElem?_eq_none (by omega),List.getElem?_eq_none (by omega)]
theorem Sim.due {R : List Rw} {ws vs C : List Int} {a : Int} (h : Sim R ws vs) (hd : Due R ws C a) : Due R vs C a := by
 obtain ⟨⟨l,hK⟩,hc,x,hx,hx0⟩ := hd
 obtain ⟨k',l',hK'⟩ := Kept.of h.b hK.obj6
 obtain rfl := h.kind (.is 5 l hK) (.is k' l' hK')
 obtain ⟨y,f,hy⟩ : ∃ y f,Loaded R vs a 1 y f := by
  by_cases hi : (0 : Int) ≤ 1 ∧ 1 < l'
  ·have hb := hK'.bounds h.b
   have hlen := h.b.len
   obtain ⟨y,hy⟩ : ∃ y,vs[(a + 1 + 1).toNat]? = some y := ⟨_,List.getElem?_eq_getElem (by omega)⟩
   exact ⟨y,0,.ok 5 l' y hK' hi hy⟩
  ·exact ⟨0,1,.arg 5 l' hK' hi⟩
 obtain ⟨rfl,rfl⟩ := h.load hx hy
 exact ⟨⟨l',hK'⟩,hc,x,hy,hx0⟩
theorem Sim.symm_due {R : List Rw} {ws vs C : List Int} {a : Int} (h : Sim R ws vs) (hd : Due R vs C a) : Due R ws C a := by
 obtain ⟨⟨l,hK⟩,hc,x,hx,hx0⟩ := hd
 obtain ⟨k',l',hK'⟩ := Kept.of h.a hK.obj6
 obtain rfl := h.kind (.is k' l' hK') (.is 5 l hK)
 obtain ⟨y,f,hy⟩ : ∃ y f,Loaded R ws a 1 y f := by
  by_cases hi : (0 : Int) ≤ 1 ∧ 1 < l'
  ·have hb := hK'.bounds h.a
   have hlen := h.a.len
   obtain ⟨y,hy⟩ : ∃ y,ws[(a + 1 + 1).toNat]? = some y := ⟨_,List.getElem?_eq_getElem (by omega)⟩
   exact ⟨y,0,.ok _ l' y hK' hi hy⟩
  ·exact ⟨0,1,.arg _ l' hK' hi⟩
 obtain ⟨rfl,rfl⟩ := h.load hy hx
 exact ⟨⟨l',hK'⟩,hc,y,hy,hx0⟩
theorem Sim.nextF {R : List Rw} {ws vs C : List Int} {a : Int} {b : Bool} (h : Sim R ws vs) (hd : NextF R ws C a b) : NextF R vs C a b := by
 cases hd with
 | found i _ ha hd hn => exact .found i a ha (h.due hd) (fun j c hj hc hk => hn j c hj hc (h.symm_due hk))
 | none hn => exact .none (fun j c hc hk => hn j c hc (h.symm_due hk))
theorem marked_sim {R : List Rw} {ws vs C G ws' C1 G1 vs' C2 G2 : List Int} {ov o1 o2 : Bool} {sp p1 s1 p2 s2 : Int} {out1 out2 : List Gn} (h : Sim R ws vs) (h1 : Marked R ws C G ov sp out1 p1 s1 ws' C1 G1 o1) (h2 : Marked R vs C G ov sp out2 p2 s2 vs' C2 G2 o2) :
  out1 = out2 ∧ p1 = p2 ∧ s1 = s2 ∧ C1 = C2 ∧ G1 = G2 ∧ o1 = o2 ∧ Sim R ws' vs' := by
 cases h1 with
 | scan v A X _ _ q _ hg hX hs => cases h2 with
  | scan v' A' X' _ _ q' _ hg' hX' hs' =>
   obtain ⟨rfl,_,rfl,rfl⟩ := hg.det hg'
   obtain rfl := h.wrds hX hX'
   rw [← hs] at hs'
   cases hs'
   exact ⟨rfl,rfl,rfl,rfl,rfl,rfl,h⟩
  | keep _ _ _ _ _ _ _ _ hg' _ _ _ _ => obtain ⟨_,e,_⟩ := hg.det hg'; cases e
  | sweep _ _ hg' _ => obtain ⟨_,e,_⟩ := hg.det hg'; cases e
 | keep a A X _ _ _ q _ hg hf hX hst hs => cases h2 with
  | scan _ _ _ _ _ _ _ hg' _ _ => obtain ⟨_,e,_⟩ := hg.det hg'; cases e
  | keep a' A' X' _ _ _ q' _ hg' hf' hX' hst' hs' =>
   obtain ⟨_,_,rfl,rfl⟩ := hg.det hg'
   obtain ⟨rfl,_⟩ := (h.nextF hf).det hf'
   obtain rfl := h.wrds hX hX'
   rw [← hs] at hs'
   cases hs'
   obtain ⟨_,h3⟩ := h.store (by decide) hst hst'
   exact ⟨rfl,rfl,rfl,rfl,rfl,rfl,h3⟩
  | sweep _ _ hg' hf' => obtain ⟨_,e⟩ := (h.nextF hf).det hf'; cases e
 | sweep A q hg hf => cases h2 with
  | scan _ _ _ _ _ _ _ hg' _ _ => obtain ⟨_,e,_⟩ := hg.det hg'; cases e
  | keep _ _ _ _ _ _ _ _ hg' hf' _ _ _ => obtain ⟨_,e⟩ := (h.nextF hf).det hf'; cases e
  | sweep A' q' hg' hf' =>
   obtain ⟨_,_,rfl,rfl⟩ := hg.det hg'
   exact ⟨rfl,rfl,rfl,rfl,rfl,rfl,h⟩
theorem freet_objs {R R' : List Rw} {ws : List Int} {a e : Int} (hA : AOk R ws) (ha : a ∈ objs R) (h : Freet R a e R') : AOk R' ws ∧ ∀ b,b ∈ objs R' ↔ b ∈ objs R ∧ b ≠ a := by
 have hA' := (hA.freet h).1
 refine ⟨hA',fun b => ?_⟩
 rw [obj_iff hA',obj_iff hA]
 cases h with
 | none hn => exact absurd ((obj_iff hA a).1 ha) hn
 | ok q s e he hs hat =>
  obtain ⟨_,_,_,g4⟩ := free_objs hA.rows he hs a hat
  rw [isObj_iff,isObj_iff]
  constructor
  ·rintro ⟨w,hw⟩; exact ⟨⟨w,((g4 b w).1 hw).1⟩,((g4 b w).1 hw).2⟩
  ·rintro ⟨⟨w,hw⟩,hne⟩; exact ⟨w,(g4 b w).2 ⟨hw,hne⟩⟩
theorem kept_back {R R' : List Rw} {ws : List Int} {a e b k l : Int} (hA : AOk R ws) (h : Freet R a e R') (hk : Kept R ws b k l) (ho : b ∈ objs R') : Kept R' ws b k l := by
 obtain ⟨k',l',hK⟩ := Kept.of (hA.freet h).1 ((obj_iff (hA.freet h).1 b).1 ho)
 obtain ⟨rfl,rfl⟩ := (kept_freet hA h b k' l' hK).det9 hk
 exact hK
structure SwF (R R1 : List Rw) (ws C : List Int) (p : Int) (i : Nat) (out : List Gn) : Prop where
 each : ∀ g ∈ out,KindR R ws g.2.1 g.1 ∧ Wrds R ws g.2.1 g.2.2.1 ∧ g.2.2.2 = false
 asc : (out.map fun g => g.2.1).Pairwise (· < ·)
 mem : ∀ x,x ∈ (out.map fun g => g.2.1) ↔ p ≤ x ∧ x < p + i ∧ Wh R C x
 frees : Frees R (out.map fun g => g.2.1) R1
 ok : AOk R1 ws
 left : ∀ b,b ∈ objs R1 ↔ b ∈ objs R ∧ b ∉ (out.map fun g => g.2.1)
 kept : ∀ b k l,Kept R1 ws b k l → Kept R ws b k l
end Go.Proofs.YtjfdfbpgckilpaaGreatDoor
