/-
  The ground of the proof, part 8: the calculus and what is proved with it.
-/
import Derived.Test.YtpbhcdbkmmjimaaGreatDoorBg
import Derived.Test.YtpbhcdbkmmjimaaGreatDoorBf
namespace Go.Proofs.YtpbhcdbkmmjimaaGreatDoor
open Go Go.LX
set_option maxRecDepth 100000
set_option linter.unusedVariables false
set_option linter.unusedSimpArgs false
set_option maxHeartbeats 32000000
theorem Asst.none {W : Int} {s t : Hst} {o : List Gn} (h : Asst W 0 s o t) : o = [] ∧ t = s := by
 obtain ⟨k,hk,hm,_⟩ := h
 cases hm with
 | zero => exact ⟨rfl,rfl⟩
 | succ n out o2 t u hm hp hs => omega
theorem Pre.not {W st : Int} {A : List Int} {s t : Hst} (h : Pre W st A s t) (hn : ¬ (s.ph = 0 ∧ st * W ≤ 100 * usedW s.R)) : t = s := by
 rcases h with ⟨h1,h2,_⟩ | ⟨_,h⟩
 ·exact absurd ⟨h1,h2⟩ hn
 ·exact h
theorem Tried.mono {c N W : Int} {l : List (Int × Int)} {A : List Int} {s t : Hst} {b : Bool} {x : List Int} {o : List Gn} (hW : W = 32 * N) (hg : Good N s) (hn : Nf s.R s.ws) (hl : ∀ p ∈ l,Val p ∧ ofN p.2 = c) (hm : Mono c s.R) (h : Tried W l A s b x o t) : Mono c t.R := by
 rcases (h.whole hW hg hn).2 with ⟨_,_,k⟩ | ⟨t2,t4,k,_⟩
 ·exact (hm.allot hg.a hg.n hg.c hl k).1
 ·exact ((k.mo c (fun p hp => (hl p hp).2) hm).allot k.g4.a k.g4.n k.g4.c hl k.al).1
theorem Alcd.mono {c N W st : Int} {n : Nat} {l : List (Int × Int)} {A : List Int} {s t : Hst} {x : List Int} {o : List Gn} {e : Int} (hW : W = 32 * N) (hg : Good N s) (hn : Nf s.R s.ws) (hl : ∀ p ∈ l,Val p ∧ ofN p.2 = c) (hm : Mono c s.R) (h : Alcd W st n l A s x o e t) : Mono c t.R := by
 cases h with
 | ok x o1 o2 t0 t1 t h0 h1 h2 =>
  obtain ⟨g0,_,r0,w0⟩ := h0.good hW hg
  have m0 : Mono c t0.R := by rw [r0]; exact hm
  have n0 : Nf t0.R t0.ws := by rw [r0,w0]; exact hn
  obtain ⟨k,_,hk,_⟩ := h2
  exact (h1.mono hW g0 n0 hl m0).many hk
 | room x o t0 t h0 h1 =>
  obtain ⟨g0,_,r0,w0⟩ := h0.good hW hg
  have m0 : Mono c t0.R := by rw [r0]; exact hm
  have n0 : Nf t0.R t0.ws := by rw [r0,w0]; exact hn
  exact h1.mono hW g0 n0 hl m0
theorem Alls.kinds {N : Int} {s t : Hst} {l : List (Int × Int)} {x : List Int} (hg : Good N s) (h : Alls s l x t) : ∀ (i : Nat) a p,x[i]? = some a → l[i]? = some p → Kept t.R t.ws a p.1 p.2 := by
 induction h with
 | nil => intro i a p h1; simp at h1
 | snoc l x t k n a R ws h ha ih =>
  intro i b p h1 h2
  obtain ⟨hm,hl⟩ := h.more hg.a hg.n hg.c
  obtain ⟨k1,_,_,_,k5,_⟩ := alloct_ok hm.a ha rfl
  rw [List.getElem?_append] at h1 h2
  by_cases hi : i < x.length
  ·rw [if_pos hi] at h1
   rw [if_pos (by omega)] at h2
   exact k5 _ _ _ (ih i b p h1 h2)
  ·rw [if_neg hi] at h1
   rw [if_neg (by omega)] at h2
   have e : i - x.length = 0 := by have := (List.getElem?_eq_some_iff.1 h1).1; simp at this; omega
   rw [e] at h1
   rw [show i - l.length = 0 by omega] at h2
   cases h1; cases h2
   exact k1
theorem Allot.kinds {N : Int} {s t : Hst} {l : List (Int × Int)} {x : List Int} {b : Bool} (hg : Good N s) (h : Allot s l b x t) : ∀ (i : Nat) a p,x[i]? = some a → l[i]? = some p → Kept t.R t.ws a p.1 p.2 := by
 cases h with
 | ok x t h => exact h.kinds hg
 | no i k n a e y u R R' ws hi h ha he hb => intro i a p h1; simp at h1
theorem Alcd.kinds {N W st : Int} {n : Nat} {l : List (Int × Int)} {A : List Int} {s t : Hst} {x : List Int} {o : List Gn} {e : Int} (hW : W = 32 * N) (hg : Good N s) (hn : Nf s.R s.ws) (h : Alcd W st n l A s x o e t) : ∀ (i : Nat) a p,x[i]? = some a → l[i]? = some p → Kept t.R t.ws a p.1 p.2 := by
 cases h with
 | ok x o1 o2 t0 t1 t h0 h1 h2 =>
  obtain ⟨g0,_,r0,w0⟩ := h0.good hW hg
  have n0 : Nf t0.R t0.ws := by rw [r0,w0]; exact hn
  have g1 := (h1.good hW g0).1
  have a1 := h1.goes hW g0 n0
  have a2 := (h2.goes x hW g1 a1.nf).1
  intro i a p hi hp
  have hax : a ∈ x := List.mem_of_getElem? hi
  refine a2.kf a hax (a1.px a hax) _ _ ?_
  rcases (h1.whole hW g0 n0).2 with ⟨_,_,k⟩ | ⟨t2,t4,k,_⟩
  ·exact k.kinds g0 i a p hi hp
  ·exact k.al.kinds k.g4 i a p hi hp
 | room x o t0 t h0 h1 => intro i a p h1; simp at h1
theorem Allot.roomy {N : Int} {s t : Hst} {l : List (Int × Int)} {x : List Int} {b : Bool} (hg : Good N s) (hl : ∀ p ∈ l,Val p) (hr : objCount s.R + l.length ≤ s.R.length) (h : Allot s l b x t) : b = true := by
 cases h with
 | ok x t h => rfl
 | no i k n a e y u R R' ws hi h ha he hb =>
  exfalso
  have hli := (List.getElem?_eq_some_iff.1 hi).1
  obtain ⟨h2,h3⟩ := h.more hg.a hg.n hg.c
  obtain ⟨v1,v2,v3,v4⟩ := hl (k,n) (List.mem_of_getElem? hi)
  have h5 := h2.cnt
  have h6 := h2.len
  rw [List.length_take] at h3
  have := alloct_err h2.a ha (by omega)
  rw [if_pos ⟨v1,v2,v3,v4⟩] at this
  exact he this
theorem need_val {k m v : Int} (h : NeedR k m v true) : Val (k,v) := by
 rcases h with ⟨rfl,⟨h1,h2,rfl,_⟩ | ⟨_,_,h⟩⟩ | ⟨_,rfl,h⟩
 ·exact ⟨h1,by show v ≤ 31; omega,by show (1 : Int) ≤ 2; omega,by show (2 : Int) ≤ 6; omega⟩
 ·cases h
 ·have h := h.1 rfl
  unfold needW at h ⊢
  unfold Val
  dsimp only
  split at h
  ·split <;> omega
  ·split at h
   ·split <;> omega
   ·split at h
    ·split <;> omega
    ·split at h
     ·split <;> omega
     ·split at h
      ·split <;> omega
      ·omega
theorem usedW_none {R : List Rw} (h : ∀ e ∈ R,e.2 = []) : usedW R = 0 := by
 unfold usedW
 induction R with
 | nil => rfl
 | cons e R ih =>
  rw [List.map_cons,List.sum_cons,ih fun x hx => h x (List.mem_cons_of_mem _ hx),h e (List.mem_cons_self ..)]
  simp
structure Bare0 (N : Int) (s : Hst) : Prop where
 g : Good N s
 r : s.R = List.replicate N.toNat (0,[])
 p : s.ph = 0
theorem Bare0.none {N : Int} {s : Hst} (h : Bare0 N s) (a : Int) : ¬ IsObj s.R a := by rw [h.r]; exact new_none _ _
theorem Bare0.nf {N : Int} {s : Hst} (h : Bare0 N s) : Nf s.R s.ws := fun a l x hk _ => absurd hk.obj6 (h.none a)
theorem Bare0.used {N : Int} {s : Hst} (h : Bare0 N s) : usedW s.R = 0 := by rw [h.r]; exact usedW_none fun e he => by rw [(List.mem_replicate.1 he).2]
theorem Bare0.objs {N : Int} {s : Hst} (h : Bare0 N s) : objs s.R = [] := by
 refine List.eq_nil_iff_forall_not_mem.2 fun a ha => h.none a ((obj_iff h.g.a a).1 ha)
theorem Bare0.count {N : Int} {s : Hst} (h : Bare0 N s) : objCount s.R = 0 := by
 have h1 : (Go.Proofs.YtpbhcdbkmmjimaaGreatDoor.objs s.R).length = objCount s.R := objs_length h.g.a.rows
 rw [h.objs] at h1
 exact h1.symm
theorem Bare0.pre {N W st : Int} {A : List Int} {s t : Hst} (h : Bare0 N s) (hW : W = 32 * N) (hst : 1 ≤ st) (hp : Pre W st A s t) : t = s := by
 refine hp.not fun q => ?_
 have h1 := h.g.n1
 have h2 : 1 * W ≤ st * W := Int.mul_le_mul_of_nonneg_right hst (by omega)
 rw [h.used] at q
 omega
theorem HM.good {R : List Rw} {ws C G : List Int} {N W : Int} {L D Q : List PV} {z : ByteArray} (h : HM R ws C G N W L D Q z) (ov : Bool) (sp cy : Int) (h1 : 1 ≤ N) (h2 : N ≤ 128) (hsp : 0 ≤ sp ∧ sp ≤ N) (hcy : 0 ≤ cy) : Good N ⟨R,ws,C,G,ov,0,sp,cy⟩ :=
 ⟨h.a,h.n,h1,h2,by have := h.c; have := h.w; show (C.length : Int) = 32 * N; omega,.inl rfl,hsp,hcy⟩
theorem Alls.fillG {s t : Hst} {l : List (Int × Int)} {x : List Int} (hF : FillG s.R 0) (hl : ∀ p ∈ l,p = (4,10)) (h : Alls s l x t) : FillG t.R l.length ∧ x = (List.range l.length).map (fun k : Nat => 16 * (k : Int)) := by
 induction h with
 | nil => exact ⟨hF,rfl⟩
 | snoc l x t k n a R ws h ha ih =>
  obtain ⟨i1,i2⟩ := ih fun p hp => hl p (List.mem_append_left _ hp)
  have hp := hl (k,n) (List.mem_append_right _ (List.mem_singleton.2 rfl))
  cases hp
  obtain ⟨h1,h2⟩ := i1.alloc ha rfl
  rw [List.length_append]
  refine ⟨h2,?_⟩
  show _ = (List.range (l.length + 1)).map _
  rw [List.range_succ,List.map_append,← i2,h1]; rfl
theorem gors_rise (n : Nat) : ((List.range n).map (fun k : Nat => 16 * (k : Int))).Pairwise (· < ·) := by
 rw [List.pairwise_map]
 exact List.pairwise_lt_range.imp fun h => by omega
theorem storeAll_fact {N W : Int} {n : Nat} {s t : Hst} {x : List Int} {o : List Gn} {e : Int} (hW : W = 32 * N) (hb : Bare0 N s) (h : Alcd W 100 0 (List.replicate n (4,10)) [] s x o e t) : o = [] ∧ ((n : Int) ≤ 2 * N → e = 0 ∧ x = objs t.R ∧ x.length = n) ∧ (¬ (n : Int) ≤ 2 * N → e = 9 ∧ x = [] ∧ objs t.R = []) := by
 have hg := hb.g
 have hn := hg.n
 have hl : ∀ p ∈ List.replicate n ((4 : Int),(10 : Int)),Val p ∧ ofN p.2 = 2 := by
  intro p hp
  obtain ⟨_,rfl⟩ := List.mem_replicate.1 hp
  exact ⟨⟨by decide,by decide,by decide,by decide⟩,by decide⟩
 have hl2 : ∀ p ∈ List.replicate n ((4 : Int),(10 : Int)),p = (4,10) := fun p hp => (List.mem_replicate.1 hp).2
 have hm : Mono 2 s.R := by rw [hb.r]; exact Mono.new 2 _
 have hF : FillG s.R 0 := by rw [hb.r]; exact FillG.new _
 have hc0 := hb.count
 have hs2 : slotsOf 2 = 2 := rfl
 have first : ∀ b y u,Allot s (List.replicate n (4,10)) b y u → (b = true ↔ (n : Int) ≤ 2 * N) := by
  intro b y u hq
  have k := (hm.allot hg.a hg.n hg.c hl hq).2
  rw [hc0,List.length_replicate,hs2] at k
  rw [k]; omega
 cases h with
 | ok x o1 o2 t0 t1 t h0 h1 h2 =>
  have e0 := hb.pre hW (by omega) h0
  subst e0
  obtain ⟨e2,e3⟩ := h2.none
  subst e2 e3
  obtain ⟨k0,k⟩ := h1.whole hW hg hb.nf
  rcases k with ⟨_,rfl,k⟩ | ⟨t2,t4,k,_⟩
  ·have hle := (first _ _ _ k).1 rfl
   refine ⟨rfl,fun _ => ⟨rfl,?_,?_⟩,fun q => absurd hle q⟩
   ·cases k with
    | ok x t k =>
     have k2 := (k.fillG hF hl2).2
     obtain ⟨k3,_⟩ := k.more hg.a hg.n hg.c
     refine asc_eq (by rw [k2]; exact gors_rise _) (objsTo_asc k3.a.rows _) fun y => ?_
     have := k3.obj y
     rw [hb.objs] at this
     exact ⟨fun q => this.2 (.inr q),fun q => (this.1 q).elim (fun w => by cases w) id⟩
   ·have := (k.good hg).2.2 rfl
    rw [this,List.length_replicate]
  ·obtain ⟨u,hu⟩ := k.g0
   have hgt : ¬ (n : Int) ≤ 2 * N := fun q => by have := (first _ _ _ hu).2 q; cases this
   have hm4 := k.mo 2 (fun p hp => (hl p hp).2) hm
   have k4 := (hm4.allot k.g4.a k.g4.n k.g4.c hl k.al).2.1 rfl
   have n4 := k.g4.n
   rw [List.length_replicate,hs2] at k4
   omega
 | room x o t0 t h0 h1 =>
  have e0 := hb.pre hW (by omega) h0
  subst e0
  obtain ⟨k0,k⟩ := h1.whole hW hg hb.nf
  rcases k with ⟨k,_⟩ | ⟨t2,t4,k,kc⟩
  ·cases k
  ·obtain ⟨u,hu⟩ := k.g0
   have hgt : ¬ (n : Int) ≤ 2 * N := fun q => by have := (first _ _ _ hu).2 q; cases this
   have ho : o = [] := none_of k0 (List.eq_nil_of_length_eq_zero (by omega))
   refine ⟨ho,fun q => absurd q hgt,fun _ => ⟨rfl,rfl,?_⟩⟩
   obtain ⟨g5,m5,_⟩ := k.al.good k.g4
   have hx : x = [] := by
    have hk := k.al
    cases hk with
    | no _ _ _ _ _ _ _ _ _ _ _ _ _ _ _ => rfl
   have c5 := m5.cnt
   have e5 : (objs t.R).length = objCount t.R := objs_length g5.a.rows
   rw [hx] at c5
   have : ([] : List Int).length = 0 := rfl
   exact List.eq_nil_of_length_eq_zero (by omega)
theorem freeAll_lx (R : List Rw) (ws C G : List Int) (N W ph sp cy : Int) (L D Q : List PV) (z : ByteArray) (ov : Bool) (h : HM R ws C G N W L D Q z) (x : List Int) (j : Int) (cells : List PV) (hj : j = x.length) (hcs : cells = ipv x) (hl : x.length ≤ 1000000) :
  CallF (fun _ => Tryz.prog) 97 [.ptr 0 (.lit 0),.p (.vsl (.sym j) true cells)] [hpA 0 1 5 6 3 W ph sp cy,hpB 1 2 4 3 W,hpC 2 3 137 2 N,hpP 3 L,hpP 4 D,hpF 5 z ov,hpP 6 Q] 7 (fun r h n => ∃ (R' : List Rw) (L' : List PV),r = .tup [] ∧ h = [hpA 0 1 5 6 3 W ph sp cy,hpB 1 2 4 3 W,hpC 2 3 137 2 N,hpP 3 L',hpP 4 D,hpF 5 z ov,hpP 6 Q] ∧ n = 7 ∧ HM R' ws C G N W L' D Q z ∧ Backs R x 0 R') := by
 have hcl : cells.length = x.length := by rw [hcs,ipv_length]
 refine callF_of_body tok Tryz.func97 (by kernel_rfl) rfl rfl rfl ?_; conv => cbv
 refine Fit.mk (by show (-9223372036854775808 : Int) ≤ j - 1; omega) (by show j - 1 ≤ 9223372036854775807; omega) fun j1 hj1 => ?_
 have hj1 : j1 = j - 1 := hj1
 conv => cbv
 refine LoopF.mk (fun kk s => ∃ (i : Int) (R1 : List Rw) (L1 : List PV),s = ⟨.ptr 0 (.lit 0) :: .p (.vsl (.sym j) true cells) :: (undefs 2 ++ .p (.int .i64 (.sym i)) :: undefs 14),[hpA 0 1 5 6 3 W ph sp cy,hpB 1 2 4 3 W,hpC 2 3 137 2 N,hpP 3 L1,hpP 4 D,hpF 5 z ov,hpP 6 Q],7⟩ ∧ -1 ≤ i ∧ i < j ∧ HM R1 ws C G N W L1 D Q z ∧ Backs R x (i + 1).toNat R1 ∧ kk = (i + 1).toNat) x.length _
  (Re.at [(0,0),(1,1),(2,2),(3,3),(4,4),(5,5),(6,6)] []) ⟨j1,R,L,rfl,by omega,by omega,h,by rw [show (j1 + 1).toNat = x.length by omega]; exact .zero,by omega⟩ ?_
 rintro kk s ⟨i,R1,L1,rfl,hi0,hi1,h1,hB,hkk⟩
 conv => cbv
 refine Br.mk (fun q => ?_) (fun q => ?_)
 case refine_2 =>
  have q : ¬ 0 ≤ i := q
  rw [show (i + 1).toNat = 0 by omega] at hB
  conv => cbv
  refine RetF.mk [] [hpA 0 1 5 6 3 W ph sp cy,hpB 1 2 4 3 W,hpC 2 3 137 2 N,hpP 3 L1,hpP 4 D,hpF 5 z ov,hpP 6 Q] 7 (Re.at [(0,0),(1,1),(2,2),(3,3),(4,4),(5,5),(6,6)] []) rfl ⟨R1,L1,rfl,rfl,rfl,h1,hB⟩
 have q : 0 ≤ i := q
 obtain ⟨a,ha⟩ : ∃ a,x[i.toNat]? = some a := ⟨_,List.getElem?_eq_getElem (by omega)⟩
 have hca : cells[i.toNat]? = some (.int .i64 (.sym a)) := by rw [hcs]; exact ipv_get ha
 conv => cbv
 refine drawn_sound tok (by kernel_rfl) [(1,[5,4,3,2]),(6,[])] [0,2,3,4,5,1,6] (by kernel_rfl) ?_; conv => cbv
 conv => cbv
 refine Need.mk (show 0 ≤ i ∧ i < j by omega) ?_
 conv => cbv
 refine Cell.at i _ hca (by simp [I.val]) rfl ?_
 conv => cbv
 refine cfr (arena_lx R1 ws C G N W ph sp cy L1 D Q z ov) [(0,0),(1,1),(2,2),(3,3),(4,4),(5,5),(6,6)] (fun r h' n' ⟨e1,e2,e3⟩ => ?_)
 subst e1 e2 e3
 conv => cbv
 refine cfr (freeA_lx a R1 ws N W L1 D h1.l h1.d h1.n h1.r h1.a h1.w) [(0,1),(1,2),(2,3),(3,4)] (fun r h' n' hrr => ?_)
 obtain ⟨e,R2,L2,e1,e2,e3,hL2,hF⟩ := hrr
 subst e1 e2 e3
 have h2 := h1.freet hF hL2
 conv => cbv
 refine Fit.mk (by show (-9223372036854775808 : Int) ≤ i - 1; omega) (by show i - 1 ≤ 9223372036854775807; omega) fun i2 hi2 => ?_
 have hi2 : i2 = i - 1 := hi2
 have hB2 : Backs R x (i2 + 1).toNat R2 := by
  rw [show (i2 + 1).toNat = i.toNat by omega]
  exact .next i.toNat a e R1 R2 (by rw [show i.toNat + 1 = (i + 1).toNat by omega]; exact hB) ha hF
 conv => cbv
 refine Again.mk (i2 + 1).toNat _ (by omega) (Re.at [(0,0),(1,1),(2,2),(3,3),(4,4),(5,5),(6,6)] []) ⟨i2,R2,L2,rfl,by omega,by omega,h2,hB2,rfl⟩
theorem allot_lx (R : List Rw) (ws C G : List Int) (N W ph sp cy : Int) (L D Q : List PV) (z : ByteArray) (ov : Bool) (h : HM R ws C G N W L D Q z) (l : List (Int × Int)) (X : List Int) (k j : Int) (cells O : List PV) (hk : k = l.length) (hcs : cells = twosP l) (hX : X.length = l.length) (hj : j = X.length) (hO : O = ipv X) (hl : l.length ≤ 100000) (KN : List (Int × Int)) (hKN : KN = (l.map Prod.fst).zip X) :
  CallF (fun _ => Tryz.prog) 58 [.ptr 0 (.lit 0),.p (.vsl (.sym k) true cells),.p (.vsl (.sym j) true O)] [hpA 0 1 5 6 3 W ph sp cy,hpB 1 2 4 3 W,hpC 2 3 137 2 N,hpP 3 L,hpP 4 D,hpF 5 z ov,hpP 6 Q] 7 (fun r h n => ∃ (b : Bool) (x : List Int) (R' : List Rw) (ws' C' : List Int) (L' D' Q' : List PV),(∃ (m : Int) (T : List PV),r = .tup [.p (.vsl (.sym m) true T),.p (.bool b)] ∧ T = ipv x ∧ m = x.length) ∧ h = [hpA 0 1 5 6 3 W ph sp cy,hpB 1 2 4 3 W,hpC 2 3 137 2 N,hpP 3 L',hpP 4 D',hpF 5 z ov,hpP 6 Q'] ∧ n = 7 ∧ HM R' ws' C' G N W L' D' Q' z ∧ Allot ⟨R,ws,C,G,ov,ph,sp,cy⟩ KN b x ⟨R',ws',C',G,ov,ph,sp,cy⟩) := by
 have hOl : O.length = X.length := by rw [hO,ipv_length]
 have hcl : cells.length = 2 * l.length := by rw [hcs,twosP_length]
 refine callF_of_body tok Tryz.func58 (by kernel_rfl) rfl rfl rfl ?_; conv => cbv
 have hKNl : KN.length = l.length := by rw [hKN,List.length_zip,List.length_map]; omega
 refine LoopF.mk (fun kk s => ∃ (i m : Int) (x : List Int) (T : List PV) (R1 : List Rw) (ws1 C1 : List Int) (L1 D1 Q1 : List PV),s = ⟨.ptr 0 (.lit 0) :: .p (.vsl (.sym k) true cells) :: .p (.vsl (.sym j) true O) :: (undefs 3 ++ .p .nils :: .p (.bool false) :: .sl 7 3 1 (.lit 0) (.sym m) :: (undefs 4 ++ .p (.vsl (.sym k) true cells) :: .p (.int .i64 (.sym k)) :: .p (.int .i64 (.sym i)) :: undefs 26)),[hpA 0 1 5 6 3 W ph sp cy,hpB 1 2 4 3 W,hpC 2 3 137 2 N,hpP 3 L1,hpP 4 D1,hpF 5 z ov,hpP 6 Q1,hpP 7 T],8⟩ ∧ T = ipv x ∧ m = x.length ∧ i = x.length ∧ i ≤ k ∧ HM R1 ws1 C1 G N W L1 D1 Q1 z ∧ Alls ⟨R,ws,C,G,ov,ph,sp,cy⟩ (KN.take i.toNat) x ⟨R1,ws1,C1,G,ov,ph,sp,cy⟩ ∧ kk = (k - i).toNat) k.toNat _
  (Re.at [(0,0),(1,1),(2,2),(3,3),(4,4),(5,5),(6,6)] [7]) ⟨0,0,[],[],R,ws,C,L,D,Q,rfl,rfl,rfl,rfl,by omega,h,.nil,by omega⟩ ?_
 rintro kk s ⟨i,m,x,T,R1,ws1,C1,L1,D1,Q1,rfl,hT,hm,hix,hik,h1,hA,hkk⟩
 have hTl : T.length = x.length := by rw [hT,ipv_length]
 conv => cbv
 refine Br.mk (fun q => ?_) (fun q => ?_)
 case refine_2 =>
  have q : ¬ i < k := q
  rw [List.take_of_length_le (by omega : KN.length ≤ i.toNat)] at hA
  conv => cbv
  refine RetF.mk [.p (.vsl (.sym m) true T),.p (.bool true)] [hpA 0 1 5 6 3 W ph sp cy,hpB 1 2 4 3 W,hpC 2 3 137 2 N,hpP 3 L1,hpP 4 D1,hpF 5 z ov,hpP 6 Q1] 7 (Re.at [(0,0),(1,1),(2,2),(3,3),(4,4),(5,5),(6,6)] []) rfl ⟨true,x,R1,ws1,C1,L1,D1,Q1,⟨m,T,rfl,hT,hm⟩,rfl,rfl,h1,.ok x _ hA⟩
 have q : i < k := q
 obtain ⟨⟨p1,p2⟩,hp⟩ : ∃ p,l[i.toNat]? = some p := ⟨_,List.getElem?_eq_getElem (by omega)⟩
 obtain ⟨v,hv⟩ : ∃ v,X[i.toNat]? = some v := ⟨_,List.getElem?_eq_getElem (by omega)⟩
 have hkn : KN[i.toNat]? = some (p1,v) := by rw [hKN,List.getElem?_zip_eq_some,List.getElem?_map,hp]; exact ⟨rfl,hv⟩
 have hcc := twosP_get l i.toNat _ hp
 rw [← hcs] at hcc
 dsimp only at hcc
 have hOv : O[i.toNat]? = some (.int .i64 (.sym v)) := by rw [hO]; exact ipv_get hv
 conv => cbv
 refine Need.mk ⟨by show 0 ≤ i; omega,by show i < k; omega⟩ ?_
 conv => cbv
 refine Sum.mk fun w hw => ?_
 have hw : w = i * 2 := hw
 conv => cbv
 refine Cell.at (w + 0) _ hcc.1 rfl (by omega) ?_
 conv => cbv
 refine Cell.at (w + 1) _ hcc.2 rfl (by omega) ?_
 conv => cbv
 refine drawn_sound tok (by kernel_rfl) [(7,[])] [0,1,2,3,4,5,6,7,8,9,10,11,12] (by kernel_rfl) ?_; conv => cbv
 conv => cbv
 refine Need.mk (show 0 ≤ i ∧ i < j by omega) ?_
 conv => cbv
 refine Cell.at i _ hOv (by simp [I.val]) rfl ?_
 conv => cbv
 refine cfr (alloc9_lx R1 ws1 C1 G N W ph sp cy L1 D1 Q1 z ov h1 p1 v) [(0,0),(1,1),(2,2),(3,3),(4,4),(5,5),(6,6)] (fun r h' n' hrr => ?_)
 obtain ⟨a,e,R2,ws2,C2,L2,D2,Q2,e1,e2,e3,h2,hAl,hC2⟩ := hrr
 subst e1 e2 e3
 conv => cbv
 refine Br.mk (fun g => ?_) (fun g => ?_)
 ·have g : e ≠ 0 := g
  obtain ⟨rfl,rfl,_⟩ := alloct_no hAl g
  have hC : C2 = C1 := by rw [hC2]; unfold allocC; rw [if_neg g]
  subst hC
  conv => cbv
  refine CallF.re (args0 := [.ptr 0 (.lit 0),.p (.vsl (.sym m) true T)]) (h' := [hpA 0 1 5 6 3 W ph sp cy,hpB 1 2 4 3 W,hpC 2 3 137 2 N,hpP 3 L2,hpP 4 D2,hpF 5 z ov,hpP 6 Q2]) (Re.at [(0,0),(1,1),(2,2),(3,3),(4,4),(5,5),(6,6)] []) (cfr (freeAll_lx R2 ws2 C2 G N W ph sp cy L2 D2 Q2 z ov h2 x m T hm hT (by omega)) [(0,0),(1,1),(2,2),(3,3),(4,4),(5,5),(6,6)] (fun r h' n' hrr => ?_))
  obtain ⟨R3,L3,e1,e2,e3,h3,hB⟩ := hrr
  subst e1 e2 e3
  conv => cbv
  refine RetF.mk [.p (.vsl (.sym 0) true []),.p (.bool false)] [hpA 0 1 5 6 3 W ph sp cy,hpB 1 2 4 3 W,hpC 2 3 137 2 N,hpP 3 L3,hpP 4 D2,hpF 5 z ov,hpP 6 Q2] 7 (Re.at [(0,0),(1,1),(2,2),(3,3),(4,4),(5,5),(6,6)] []) rfl ⟨false,[],R3,ws2,C2,L3,D2,Q2,⟨0,[],rfl,rfl,rfl⟩,rfl,rfl,h3,.no i.toNat p1 v a e x ⟨R2,ws2,C2,G,ov,ph,sp,cy⟩ R2 R3 ws2 hkn hA hAl g hB⟩
 have g : e = 0 := Classical.byContradiction g
 conv => cbv
 refine Room.new rfl ?_
 conv => cbv
 refine Room.new ⟨by show (T.length : Int) = m * 1; omega,by show (m + 1) * 8 ≤ 140737488355328; omega,by show m + 1 ≤ 9223372036854775807; omega⟩ ?_
 conv => cbv
 refine Upd.mk fun T2 hT2 => ?_
 have hT2 : T2 = ipv (x ++ [a]) := by rw [show T2 = T ++ [.int .i64 (.sym a)] from hT2,← ipv_app,← hT]; rfl
 conv => cbv
 refine Sum.mk fun m2 hm2 => ?_
 have hm2 : m2 = (x ++ [a]).length := by rw [show m2 = m + 1 from hm2,hm,List.length_append]; rfl
 conv => cbv
 refine Fit.mk (by show (-9223372036854775808 : Int) ≤ i + 1; omega) (by show i + 1 ≤ 9223372036854775807; omega) fun i2 hi2 => ?_
 have hi2 : i2 = i + 1 := hi2
 have hi3 : i2 = ((x ++ [a]).length : Int) := by rw [hi2,hix,List.length_append]; rfl
 have hA2 : Alls ⟨R,ws,C,G,ov,ph,sp,cy⟩ (KN.take i2.toNat) (x ++ [a]) ⟨R2,ws2,C2,G,ov,ph,sp,cy⟩ := by
  rw [show i2.toNat = i.toNat + 1 by omega,List.take_add_one,hkn,hC2,g]
  rw [g] at hAl
  exact .snoc _ x _ p1 v a R2 ws2 hA hAl
 conv => cbv
 refine Again.mk (k - i2).toNat _ (by omega) (Re.at [(0,0),(1,1),(2,2),(3,3),(4,4),(5,5),(6,6),(10,7)] []) ⟨i2,m2,x ++ [a],T2,R2,ws2,C2,L2,D2,Q2,rfl,hT2,hm2,hi3,by omega,h2,hA2,rfl⟩
def Renewed (W st : Int) (l : List (Int × Int)) (A : List Int) (s : Hst) : Prop := (s.ph = 0 ∧ st * W ≤ 100 * usedW s.R) ∨ ∃ t0 t1,Pre W st A s t0 ∧ Allot t0 l false [] t1
theorem sz_bd {l : List (Int × Int)} {X : List Int} (h : Sz l X) : ∀ n ∈ X,0 ≤ n ∧ n ≤ 31 := by
 intro n hn
 obtain ⟨i,hi⟩ := List.getElem?_of_mem hn
 have hil := (List.getElem?_eq_some_iff.1 hi).1
 have hl := h.1
 obtain ⟨v,hv,hN⟩ := h.2 i _ (List.getElem?_eq_getElem (by omega : i < l.length))
 rw [hi] at hv
 cases hv
 have := need_val hN
 exact ⟨this.1,this.2.1⟩
theorem usedW_bd : ∀ {R : List Rw},(∀ e ∈ R,e.2.length ≤ 8) → 0 ≤ usedW R ∧ usedW R ≤ 256 * R.length
 | [],_ => ⟨Int.le_refl _,Int.le_refl _⟩
 | e :: R,h => by
  have h1 := usedW_bd (R := R) fun x hx => h x (List.mem_cons_of_mem _ hx)
  have h2 := wordsOfS_bd e.1
  have h3 := h e (List.mem_cons_self ..)
  have h4 := List.count_le_length (a := true) (l := e.2)
  have h5 : (0 : Int) ≤ (e.2.count true : Int) * wordsOf e.1 := Int.mul_nonneg (by omega) h2.1
  have h6 : (e.2.count true : Int) * wordsOf e.1 ≤ 8 * 32 := Int.mul_le_mul (by omega) h2.2 h2.1 (by decide)
  unfold usedW at h1 ⊢
  rw [List.map_cons,List.sum_cons,List.length_cons]
  omega
theorem wdsOf_bd : ∀ X : List Int,0 ≤ wdsOf X ∧ wdsOf X ≤ 32 * X.length
 | [] => ⟨Int.le_refl _,Int.le_refl _⟩
 | n :: X => by
  have h1 := wdsOf_bd X
  have h2 := wordsOfS_bd (ofN n)
  rw [wdsOf,List.length_cons]
  omega
theorem Allot.no_x {s t : Hst} {l : List (Int × Int)} {x : List Int} (h : Allot s l false x t) : x = [] := by
 cases h with
 | no _ _ _ _ _ _ _ _ _ _ _ _ _ _ _ => rfl
theorem Made.tried {W : Int} {A x1 x : List Int} {l : List (Int × Int)} {s t1 t4 t : Hst} {o : List Gn} {b : Bool} (h1 : Allot s l false x1 t1) (h : Made W A t1 o t4) (h5 : Allot t4 l b x t) : Tried W l A s b x o t := by
 have hx := h1.no_x
 subst hx
 obtain ⟨o1,o2,k1,k2,t2,t3,rfl,hM1,hp1,hB,hM2,hp2⟩ := h
 exact .forced b x o1 o2 k1 k2 t1 t2 t3 t4 t h1 hM1 hp1 hB hM2 hp2 h5
theorem alloc21_lx (R : List Rw) (ws C G : List Int) (N W ph sp cy : Int) (L D Q : List PV) (z : ByteArray) (ov : Bool) (h : HM R ws C G N W L D Q z) (o : Unit → Obj) (ho : IsPow o) (st as_ : Int) (hc : COk N st as_) (hg : Good N ⟨R,ws,C,G,ov,ph,sp,cy⟩) (hcy : cy ≤ 700000000) (l : List (Int × Int)) (k : Int) (cells : List PV) (hk : k = l.length) (hcs : cells = twosP l) (hl : l.length ≤ 100000) (A : List Int) (j : Int) (ca : List PV) (hca : ca = ipv A) (hj : j = A.length) (hAl : A.length ≤ 100000) :
  CallF (fun _ => Tryz.prog) 24 [.ptr 0 (.lit 0),.p (.vsl (.sym k) true cells),.p (.vsl (.sym j) true ca)] [(0,.mix [.ptr 1 (.lit 0),i6 st,i6 as_]),hpA 1 2 6 7 3 W ph sp cy,hpB 2 3 5 3 W,hpC 3 4 137 2 N,hpP 4 L,hpP 5 D,hpF 6 z ov,hpP 7 Q,(8,.fix 0 o)] 9 (fun r h n => (r = .tup [.p .nils,.p .nils,.p (.int .i64 (.lit 1))] ∧ (∃ p ∈ l,∃ v,NeedR p.1 p.2 v false) ∧ h = [(0,.mix [.ptr 1 (.lit 0),i6 st,i6 as_]),hpA 1 2 6 7 3 W ph sp cy,hpB 2 3 5 3 W,hpC 3 4 137 2 N,hpP 4 L,hpP 5 D,hpF 6 z ov,hpP 7 Q,(8,.fix 0 o)] ∧ n = 9) ∨ ∃ (X x : List Int) (out : List Gn) (e mx mg : Int) (T cellsh : List PV) (Rh : List Rw) (wh Ch Gh : List Int) (ovh : Bool) (ph2 sp2 cy2 : Int) (Lh Dh Qh : List PV) (zh : ByteArray),r = .tup [.p (.vsl (.sym mx) true T),.p (.vsl (.sym mg) true cellsh),i6 e] ∧ Sz l X ∧ ((h = [(0,.mix [.ptr 1 (.lit 0),i6 st,i6 as_]),hpA 1 2 6 7 3 W ph2 sp2 cy2,hpB 2 3 5 3 W,hpC 3 4 137 2 N,hpP 4 Lh,hpP 5 Dh,hpF 6 zh ovh,hpP 7 Qh,(8,.fix 0 o)] ∧ n = 9) ∨ (h = [(0,.mix [.ptr 1 (.lit 0),i6 st,i6 as_]),hpA 1 2 9 7 3 W ph2 sp2 cy2,hpB 2 3 5 3 W,hpC 3 4 137 2 N,hpP 4 Lh,hpP 5 Dh,hpF 9 zh ovh,hpP 7 Qh,(8,.fix 0 o)] ∧ n = 10 ∧ Renewed W st ((l.map Prod.fst).zip X) A ⟨R,ws,C,G,ov,ph,sp,cy⟩)) ∧ HM Rh wh Ch Gh N W Lh Dh Qh zh ∧ T = ipv x ∧ mx = x.length ∧ cellsh = gpv out ∧ mg = out.length ∧ Alcd W st (as_ * wdsOf X).toNat ((l.map Prod.fst).zip X) A ⟨R,ws,C,G,ov,ph,sp,cy⟩ x out e ⟨Rh,wh,Ch,Gh,ovh,ph2,sp2,cy2⟩) := by
 have hW : W = 32 * N := h.w
 have hn1 := hg.n1
 have hn2 := hg.n2
 have hNR := h.n
 unfold COk at hc
 refine callF_of_bodyB tok Tryz.func24 (by kernel_rfl) rfl rfl rfl [7,11] ?_; conv => cbv
 refine cfr (heapS_lx R ws C G N W ph sp cy L D Q z ov st as_) [(0,0),(1,1),(2,2),(3,3),(4,4),(5,5),(6,6),(7,7)] (fun r h' n' ⟨e1,e2,e3⟩ => ?_)
 subst e1 e2 e3
 conv => cbv
 refine CallF.re (args0 := [.p (.vsl (.sym k) true cells)]) (h' := [(0,.mix [.ptr 1 (.lit 0),i6 st,i6 as_]),hpA 1 2 6 7 3 W ph sp cy,hpB 2 3 5 3 W,hpC 3 4 137 2 N,hpP 4 L,hpP 5 D,hpF 6 z ov,hpP 7 Q,(8,.fix 0 o)]) (Re.at [(0,0),(1,1),(2,2),(3,3),(4,4),(5,5),(6,6),(7,7),(8,8)] []) (cfr (sizesOf_lx l k cells hk hcs hl) [] (fun r h' n' hrr => ?_))
 obtain ⟨hrr,e2,e3⟩ := hrr
 subst e2 e3
 rcases hrr with ⟨X,jx,O,e1,hO,hjx,hX⟩ | ⟨e1,hbad⟩
 case inr =>
  subst e1
  conv => cbv
  refine RetF.mk [.p .nils,.p .nils,.p (.int .i64 (.lit 1))] [(0,.mix [.ptr 1 (.lit 0),i6 st,i6 as_]),hpA 1 2 6 7 3 W ph sp cy,hpB 2 3 5 3 W,hpC 3 4 137 2 N,hpP 4 L,hpP 5 D,hpF 6 z ov,hpP 7 Q,(8,.fix 0 o)] 9 (Re.at [(0,0),(1,1),(2,2),(3,3),(4,4),(5,5),(6,6),(7,7),(8,8)] []) rfl (.inl ⟨rfl,hbad,rfl,rfl⟩)
 subst e1
 conv => cbv
 refine JoinF.mk (fun s => (s = ⟨.ptr 0 (.lit 0) :: .p (.vsl (.sym k) true cells) :: .p (.vsl (.sym j) true ca) :: (undefs 6 ++ .ptr 1 (.lit 0) :: .p (.vsl (.sym jx) true O) :: undefs 69),[(0,.mix [.ptr 1 (.lit 0),i6 st,i6 as_]),hpA 1 2 6 7 3 W ph sp cy,hpB 2 3 5 3 W,hpC 3 4 137 2 N,hpP 4 L,hpP 5 D,hpF 6 z ov,hpP 7 Q,(8,.fix 0 o)],9⟩ ∧ ¬ (ph = 0 ∧ st * W ≤ 100 * usedW R)) ∨ ∃ (C3 G3 : List Int) (ov3 : Bool) (Q3 : List PV) (z3 : ByteArray),s = ⟨.ptr 0 (.lit 0) :: .p (.vsl (.sym k) true cells) :: .p (.vsl (.sym j) true ca) :: (undefs 6 ++ .ptr 1 (.lit 0) :: .p (.vsl (.sym jx) true O) :: undefs 69),[(0,.mix [.ptr 1 (.lit 0),i6 st,i6 as_]),hpA 1 2 9 7 3 W 1 sp cy,hpB 2 3 5 3 W,hpC 3 4 137 2 N,hpP 4 L,hpP 5 D,hpF 9 z3 ov3,hpP 7 Q3,(8,.fix 0 o)],10⟩ ∧ HM R ws C3 G3 N W L D Q3 z3 ∧ (ph = 0 ∧ st * W ≤ 100 * usedW R) ∧ (C3,G3,ov3) = begS R W A) ?_ ?_
 ·refine drawn_sound tok (by kernel_rfl) [(1,[]),(5,[12,11,10,9,8]),(6,[12,11,10,9,8]),(13,[7,11,10,9,8]),(14,[7,11,10,9,8])] [0,1,2,3,4,8,9,10,11,12,5,6,7,13,14,15,16,17] (by kernel_rfl) ?_; conv => cbv
  conv => cbv
  refine cfr (phase_lx R ws C G N W ph sp cy L D Q z ov) [(0,1),(1,2),(2,3),(3,4),(4,5),(5,6),(6,7)] (fun r h' n' ⟨e1,e2,e3⟩ => ?_)
  subst e1 e2 e3
  conv => cbv
  refine Br.mk (fun q => ?_) (fun q => ?_)
  case refine_2 =>
   have q : ¬ ph = 0 := q
   conv => cbv
   refine Joined.mk _ (Re.at [(0,0),(1,1),(2,2),(3,3),(4,4),(5,5),(6,6),(7,7),(8,8)] []) (.inl ⟨rfl,fun w => q w.1⟩)
  have q : ph = 0 := q
  conv => cbv
  refine cfr (arena_lx R ws C G N W ph sp cy L D Q z ov) [(0,1),(1,2),(2,3),(3,4),(4,5),(5,6),(6,7)] (fun r h' n' ⟨e1,e2,e3⟩ => ?_)
  subst e1 e2 e3
  conv => cbv
  obtain ⟨u,hu⟩ : ∃ u : Int,u = usedW R := ⟨_,rfl⟩
  refine cfr (usedA_lx R ws N W L D h.l h.d h.n h.r h.a h.w u hu) [(0,2),(1,3),(2,4),(3,5)] (fun r h' n' ⟨e1,e2,e3⟩ => ?_)
  subst e1 e2 e3
  conv => cbv
  have hub := usedW_bd (R := R) (fun e he => (h.a.rows e he).1)
  rw [← hu] at hub
  have hsW : 0 ≤ st * W ∧ st * W ≤ 100 * 4096 := ⟨Int.mul_nonneg (by omega) (by omega),Int.mul_le_mul hc.2.1 (by omega) (by omega) (by decide)⟩
  refine Fit.mk (by show (-9223372036854775808 : Int) ≤ 100 * u; omega) (by show 100 * u ≤ 9223372036854775807; omega) fun u2 hu2 => ?_
  have hu2 : u2 = 100 * u := hu2
  conv => cbv
  refine cfr (arena_lx R ws C G N W ph sp cy L D Q z ov) [(0,1),(1,2),(2,3),(3,4),(4,5),(5,6),(6,7)] (fun r h' n' ⟨e1,e2,e3⟩ => ?_)
  subst e1 e2 e3
  conv => cbv
  refine cfr (wordsA_lx R ws N W L D h.l h.d h.n h.r h.a h.w) [(0,2),(1,3),(2,4),(3,5)] (fun r h' n' ⟨e1,e2,e3⟩ => ?_)
  subst e1 e2 e3
  conv => cbv
  refine Fit.mk (by show (-9223372036854775808 : Int) ≤ st * W; omega) (by show st * W ≤ 9223372036854775807; omega) fun w2 hw2 => ?_
  have hw2 : w2 = st * W := hw2
  conv => cbv
  refine Br.mk (fun q2 => ?_) (fun q2 => ?_)
  case refine_2 =>
   have q2 : ¬ w2 ≤ u2 := q2
   conv => cbv
   refine Joined.mk _ (Re.at [(0,0),(1,1),(2,2),(3,3),(4,4),(5,5),(6,6),(7,7),(8,8)] []) (.inl ⟨rfl,fun w => q2 (by rw [hw2,hu2,hu]; exact w.2)⟩)
  have q2 : w2 ≤ u2 := q2
  conv => cbv
  refine cfr (begin_lx R ws C G N W ph sp cy L D Q z ov h o ho A j ca hca hj (by omega) q) [(0,1),(1,2),(2,3),(3,4),(4,5),(5,6),(6,7),(7,8)] (fun r h' n' hrr => ?_)
  obtain ⟨C3,G3,ov3,Q3,z3,e1,e2,e3,h3,hb3⟩ := hrr
  subst e1 e2 e3
  conv => cbv
  refine Joined.mk _ (Re.at [(0,0),(1,1),(2,2),(3,3),(4,4),(5,5),(6,6),(7,7),(8,8),(9,9)] []) (.inr ⟨C3,G3,ov3,Q3,z3,rfl,h3,⟨q,by rw [← hu,← hu2,← hw2]; exact q2⟩,hb3⟩)
 have hXl : X.length = l.length := hX.1
 rintro s (⟨rfl,hnd⟩ | ⟨C3,G3,ov3,Q3,z3,rfl,h3,hdue,hb3⟩)
 ·have hg0 : Good N ⟨R,ws,C,G,ov,ph,sp,cy⟩ := hg
  have hpre : Pre W st A ⟨R,ws,C,G,ov,ph,sp,cy⟩ ⟨R,ws,C,G,ov,ph,sp,cy⟩ := .inr ⟨hnd,rfl⟩
  conv => cbv
  refine cfr (allot_lx R ws C G N W ph sp cy L D Q z ov h l X k jx cells O hk hcs hXl hjx hO hl ((l.map Prod.fst).zip X) rfl) [(0,1),(1,2),(2,3),(3,4),(4,5),(5,6),(6,7)] (fun r h' n' hrr => ?_)
  obtain ⟨b1,x1,R1,ws1,C1,L1,D1,Q1,⟨mx,Tx,e1,hTx,hmx⟩,e2,e3,h1,hA1⟩ := hrr
  subst e1 e2 e3
  conv => cbv
  obtain ⟨hg1,hmo1,_⟩ := hA1.good hg0
  refine JoinF.mk (fun s => (∃ (m2 : Int) (x2 : List Int) (T2 : List PV) (R2 : List Rw) (ws2 C2 : List Int) (L2 D2 Q2 : List PV),s = ⟨.ptr 0 (.lit 0) :: .p (.vsl (.sym k) true cells) :: .p (.vsl (.sym j) true ca) :: (undefs 6 ++ .ptr 1 (.lit 0) :: .p (.vsl (.sym jx) true O) :: .p (.bool true) :: .p .nils :: .p (.vsl (.sym m2) true T2) :: undefs 66),[(0,.mix [.ptr 1 (.lit 0),i6 st,i6 as_]),hpA 1 2 6 7 3 W ph sp cy,hpB 2 3 5 3 W,hpC 3 4 137 2 N,hpP 4 L2,hpP 5 D2,hpF 6 z ov,hpP 7 Q2,(8,.fix 0 o)],9⟩ ∧ T2 = ipv x2 ∧ m2 = x2.length ∧ HM R2 ws2 C2 G N W L2 D2 Q2 z ∧ Allot ⟨R,ws,C,G,ov,ph,sp,cy⟩ ((l.map Prod.fst).zip X) true x2 ⟨R2,ws2,C2,G,ov,ph,sp,cy⟩) ∨ ∃ (b2 : Bool) (m2 mg : Int) (x2 : List Int) (og : List Gn) (T2 cg : List PV) (R2 : List Rw) (ws2 C2 G2 : List Int) (ov2 : Bool) (sp2 cy2 : Int) (L2 D2 Q2 : List PV) (z2 : ByteArray),s = ⟨.ptr 0 (.lit 0) :: .p (.vsl (.sym k) true cells) :: .p (.vsl (.sym j) true ca) :: (undefs 6 ++ .ptr 1 (.lit 0) :: .p (.vsl (.sym jx) true O) :: .p (.bool b2) :: .sl 10 40 4 (.lit 0) (.sym mg) :: .p (.vsl (.sym m2) true T2) :: undefs 66),[(0,.mix [.ptr 1 (.lit 0),i6 st,i6 as_]),hpA 1 2 9 7 3 W 0 sp2 cy2,hpB 2 3 5 3 W,hpC 3 4 137 2 N,hpP 4 L2,hpP 5 D2,hpF 9 z2 ov2,hpP 7 Q2,(8,.fix 0 o),hpP 10 cg],11⟩ ∧ T2 = ipv x2 ∧ m2 = x2.length ∧ cg = gpv og ∧ mg = og.length ∧ HM R2 ws2 C2 G2 N W L2 D2 Q2 z2 ∧ (∃ t1,Allot ⟨R,ws,C,G,ov,ph,sp,cy⟩ ((l.map Prod.fst).zip X) false [] t1) ∧ Tried W ((l.map Prod.fst).zip X) A ⟨R,ws,C,G,ov,ph,sp,cy⟩ b2 x2 og ⟨R2,ws2,C2,G2,ov2,0,sp2,cy2⟩) ?_ ?_
  ·cases b1 with
   | true =>
    conv => cbv
    refine Joined.mk _ (Re.at [(0,0),(1,1),(2,2),(3,3),(4,4),(5,5),(6,6),(7,7),(8,8)] []) (.inl ⟨mx,x1,Tx,R1,ws1,C1,L1,D1,Q1,rfl,hTx,hmx,h1,hA1⟩)
   | false =>
    conv => cbv
    refine cfr (makeRoom_lx R1 ws1 C1 G N W ph sp cy L1 D1 Q1 z ov h1 o ho hg1 (by omega) A j ca hca hj hAl) [(0,1),(1,2),(2,3),(3,4),(4,5),(5,6),(6,7),(7,8)] (fun r h' n' hrr => ?_)
    obtain ⟨og,mg,cg,R4,ws4,C4,G4,ov4,sp4,cy4,L4,D4,Q4,z4,e1,e2,e3,h4,hcg,hmg,hMd⟩ := hrr
    subst e1 e2 e3
    conv => cbv
    refine cfr (allot_lx R4 ws4 C4 G4 N W 0 sp4 cy4 L4 D4 Q4 z4 ov4 h4 l X k jx cells O hk hcs hXl hjx hO hl ((l.map Prod.fst).zip X) rfl) [(0,1),(1,2),(2,3),(3,4),(4,5),(5,9),(6,7)] (fun r h' n' hrr => ?_)
    obtain ⟨b2,x2,R2,ws2,C2,L2,D2,Q2,⟨m2,T2,e1,hT2,hm2⟩,e2,e3,h2,hA2⟩ := hrr
    subst e1 e2 e3
    conv => cbv
    refine Joined.mk _ (Re.at [(0,0),(1,1),(2,2),(3,3),(4,4),(5,5),(7,7),(8,8),(9,9),(10,10)] []) (.inr ⟨b2,m2,mg,x2,og,T2,cg,R2,ws2,C2,G4,ov4,sp4,cy4,L2,D2,Q2,z4,rfl,hT2,hm2,hcg,hmg,h2,⟨_,by have w := hA1.no_x; subst w; exact hA1⟩,hMd.tried hA1 hA2⟩)
  rintro s (⟨m2,x2,T2,R2,ws2,C2,L2,D2,Q2,rfl,hT2,hm2,h2,hA2⟩ | ⟨b2,m2,mg,x2,og,T2,cg,R2,ws2,C2,G2,ov2,sp2,cy2,L2,D2,Q2,z2,rfl,hT2,hm2,hcg,hmg,h2,hA2,hTr⟩)
  ·have hg2 := (hA2.good hg0).1
   have hcy2 : cy ≤ 900000000 := by omega
   conv => cbv
   refine drawn_sound tok (by kernel_rfl) [(8,[6,5,4,3,2,1,0]),(10,[1,0]),(11,[0])] [0,1,2,3,4,5,6,7,8,9,10,11,12,13,14] (by kernel_rfl) ?_; conv => cbv
   conv => cbv
   refine cfr (wordsOf_lx X jx O hjx hO (by omega) (sz_bd hX)) [] (fun r h' n' hrr => ?_)
   obtain ⟨v,e1,e2,e3,hv⟩ := hrr
   subst e1 e2 e3
   have hvb := wdsOf_bd X
   rw [← hv] at hvb
   have hav : 0 ≤ as_ * v ∧ as_ * v ≤ 8 * 3200000 := ⟨Int.mul_nonneg (by omega) (by omega),Int.mul_le_mul (by omega) (by omega) (by omega) (by decide)⟩
   conv => cbv
   refine Fit.mk (by show (-9223372036854775808 : Int) ≤ as_ * v; omega) (by show as_ * v ≤ 9223372036854775807; omega) fun c hc2 => ?_
   have hc2 : c = as_ * wdsOf X := by rw [← hv]; exact hc2
   conv => cbv
   have hcb : 0 ≤ c ∧ c ≤ 25600000 := by rw [hv] at hav; omega
   refine cfr (steps_lx R2 ws2 C2 G N W ph sp cy L2 D2 Q2 z ov h2 o ho hg2 hcy2 c hcb.1 (by omega)) [(0,1),(1,2),(2,3),(3,4),(4,5),(5,6),(6,7),(7,8)] (fun r h' n' hrr => ?_)
   obtain ⟨os,ms,ph5,cs,R5,ws5,C5,G5,ov5,sp5,cy5,L5,D5,Q5,z5,e1,e2,e3,h5,hcs5,hms,hAs⟩ := hrr
   subst e1 e2 e3
   rw [hc2] at hAs
   have hsg := hAs.good hW hg2
   have hsl : os.length ≤ 69664 := hsg.2.2
   have hcl5 : cs.length = 4 * os.length := by rw [hcs5,gpv_length]
   conv => cbv
   refine Need.mk (by show (cs.length : Int) = ms * 4; omega) ?_
   conv => cbv
   refine Need.mk ⟨by show ms * 48 ≤ 140737488355328; omega,by show ms ≤ 9223372036854775807; omega⟩ ?_
   conv => cbv
   refine RetF.mk [.p (.vsl (.sym m2) true T2),.p (.vsl (.sym ms) true cs),i6 0] [(0,.mix [.ptr 1 (.lit 0),i6 st,i6 as_]),hpA 1 2 6 7 3 W ph5 sp5 cy5,hpB 2 3 5 3 W,hpC 3 4 137 2 N,hpP 4 L5,hpP 5 D5,hpF 6 z5 ov5,hpP 7 Q5,(8,.fix 0 o)] 9 (Re.at [(0,0),(1,1),(2,2),(3,3),(4,4),(5,5),(6,6),(7,7),(8,8)] []) rfl (.inr ⟨X,x2,os,0,m2,ms,T2,cs,R5,ws5,C5,G5,ov5,ph5,sp5,cy5,L5,D5,Q5,z5,rfl,hX,.inl ⟨rfl,rfl⟩,h5,hT2,hm2,hcs5,hms,.ok x2 [] os _ _ _ hpre (.quick x2 _ hA2) hAs⟩)
  ·obtain ⟨hg2,hcyq,_,hogl⟩ := hTr.good hW hg0
   have hcy2 : cy2 ≤ 900000000 := by have h9 : cy2 ≤ cy + 4354 := hcyq; omega
   cases b2 with
   | false =>
    conv => cbv
    refine RetF.mk [.p (.vsl (.sym 0) true []),.p (.vsl (.sym mg) true cg),i6 9] [(0,.mix [.ptr 1 (.lit 0),i6 st,i6 as_]),hpA 1 2 9 7 3 W 0 sp2 cy2,hpB 2 3 5 3 W,hpC 3 4 137 2 N,hpP 4 L2,hpP 5 D2,hpF 9 z2 ov2,hpP 7 Q2,(8,.fix 0 o)] 10 (Re.at [(0,0),(1,1),(2,2),(3,3),(4,4),(5,5),(9,9),(7,7),(8,8)] []) rfl (.inr ⟨X,[],og,9,0,mg,[],cg,R2,ws2,C2,G2,ov2,0,sp2,cy2,L2,D2,Q2,z2,rfl,hX,.inr ⟨rfl,rfl,.inr ⟨_,_,hpre,hA2.choose_spec⟩⟩,h2,rfl,rfl,hcg,hmg,.room x2 og _ _ hpre hTr⟩)
   | true =>
    conv => cbv
    refine drawn_sound tok (by kernel_rfl) [(8,[6,5,4,3,2,1,0]),(10,[1,0]),(11,[0])] [0,1,2,3,4,5,6,7,8,9,10,11,12,13,14] (by kernel_rfl) ?_; conv => cbv
    conv => cbv
    refine cfr (wordsOf_lx X jx O hjx hO (by omega) (sz_bd hX)) [] (fun r h' n' hrr => ?_)
    obtain ⟨v,e1,e2,e3,hv⟩ := hrr
    subst e1 e2 e3
    have hvb := wdsOf_bd X
    rw [← hv] at hvb
    have hav : 0 ≤ as_ * v ∧ as_ * v ≤ 8 * 3200000 := ⟨Int.mul_nonneg (by omega) (by omega),Int.mul_le_mul (by omega) (by omega) (by omega) (by decide)⟩
    conv => cbv
    refine Fit.mk (by show (-9223372036854775808 : Int) ≤ as_ * v; omega) (by show as_ * v ≤ 9223372036854775807; omega) fun c hc2 => ?_
    have hc2 : c = as_ * wdsOf X := by rw [← hv]; exact hc2
    conv => cbv
    have hcb : 0 ≤ c ∧ c ≤ 25600000 := by rw [hv] at hav; omega
    refine cfr (steps_lx R2 ws2 C2 G2 N W 0 sp2 cy2 L2 D2 Q2 z2 ov2 h2 o ho hg2 hcy2 c hcb.1 (by omega)) [(0,1),(1,2),(2,3),(3,4),(4,5),(5,9),(6,7),(7,8)] (fun r h' n' hrr => ?_)
    obtain ⟨os,ms,ph5,cs,R5,ws5,C5,G5,ov5,sp5,cy5,L5,D5,Q5,z5,e1,e2,e3,h5,hcs5,hms,hAs⟩ := hrr
    subst e1 e2 e3
    rw [hc2] at hAs
    have hsg := hAs.good hW hg2
    have hsl : os.length ≤ 69664 := hsg.2.2
    have hcl5 : cs.length = 4 * os.length := by rw [hcs5,gpv_length]
    conv => cbv
    refine Need.mk (by show (cs.length : Int) = ms * 4; omega) ?_
    conv => cbv
    have hclg : cg.length = 4 * og.length := by rw [hcg,gpv_length]
    refine Room.new ⟨by show (cg.length : Int) = mg * 4; omega,by show (mg + ms) * 48 ≤ 140737488355328; omega,by show mg + ms ≤ 9223372036854775807; omega⟩ ?_
    conv => cbv
    refine Upd.mk fun c6 hc6 => ?_
    have hc6 : c6 = gpv (og ++ os) := by rw [show c6 = cg ++ cs from hc6,hcg,hcs5,← gpv_app]
    conv => cbv
    refine Sum.mk fun m6 hm6 => ?_
    have hm6 : m6 = ((og ++ os).length : Int) := by rw [show m6 = mg + ms from hm6,hmg,hms,List.length_append]; rfl
    conv => cbv
    refine RetF.mk [.p (.vsl (.sym m2) true T2),.p (.vsl (.sym m6) true c6),i6 0] [(0,.mix [.ptr 1 (.lit 0),i6 st,i6 as_]),hpA 1 2 9 7 3 W ph5 sp5 cy5,hpB 2 3 5 3 W,hpC 3 4 137 2 N,hpP 4 L5,hpP 5 D5,hpF 9 z5 ov5,hpP 7 Q5,(8,.fix 0 o)] 10 (Re.at [(0,0),(1,1),(2,2),(3,3),(4,4),(5,5),(9,9),(7,7),(8,8)] []) rfl (.inr ⟨X,x2,(og ++ os),0,m2,m6,T2,c6,R5,ws5,C5,G5,ov5,ph5,sp5,cy5,L5,D5,Q5,z5,rfl,hX,.inr ⟨rfl,rfl,.inr ⟨_,_,hpre,hA2.choose_spec⟩⟩,h5,hT2,hm2,hc6,hm6,.ok x2 og os _ _ _ hpre hTr hAs⟩)
 ·have hbg : Bgn W ⟨R,ws,C,G,ov,ph,sp,cy⟩ A ⟨R,ws,C3,G3,ov3,1,sp,cy⟩ := ⟨rfl,rfl,rfl,rfl,rfl,(by have := h3.c; show (C3.length : Int) = W; exact this),hb3⟩
  have hg0 : Good N ⟨R,ws,C3,G3,ov3,1,sp,cy⟩ := hbg.good hW hg
  have hpre : Pre W st A ⟨R,ws,C,G,ov,ph,sp,cy⟩ ⟨R,ws,C3,G3,ov3,1,sp,cy⟩ := .inl ⟨hdue.1,hdue.2,hbg⟩
  conv => cbv
  refine cfr (allot_lx R ws C3 G3 N W 1 sp cy L D Q3 z3 ov3 h3 l X k jx cells O hk hcs hXl hjx hO hl ((l.map Prod.fst).zip X) rfl) [(0,1),(1,2),(2,3),(3,4),(4,5),(5,9),(6,7)] (fun r h' n' hrr => ?_)
  obtain ⟨b1,x1,R1,ws1,C1,L1,D1,Q1,⟨mx,Tx,e1,hTx,hmx⟩,e2,e3,h1,hA1⟩ := hrr
  subst e1 e2 e3
  conv => cbv
  obtain ⟨hg1,hmo1,_⟩ := hA1.good hg0
  refine JoinF.mk (fun s => (∃ (m2 : Int) (x2 : List Int) (T2 : List PV) (R2 : List Rw) (ws2 C2 : List Int) (L2 D2 Q2 : List PV),s = ⟨.ptr 0 (.lit 0) :: .p (.vsl (.sym k) true cells) :: .p (.vsl (.sym j) true ca) :: (undefs 6 ++ .ptr 1 (.lit 0) :: .p (.vsl (.sym jx) true O) :: .p (.bool true) :: .p .nils :: .p (.vsl (.sym m2) true T2) :: undefs 66),[(0,.mix [.ptr 1 (.lit 0),i6 st,i6 as_]),hpA 1 2 9 7 3 W 1 sp cy,hpB 2 3 5 3 W,hpC 3 4 137 2 N,hpP 4 L2,hpP 5 D2,hpF 9 z3 ov3,hpP 7 Q2,(8,.fix 0 o)],10⟩ ∧ T2 = ipv x2 ∧ m2 = x2.length ∧ HM R2 ws2 C2 G3 N W L2 D2 Q2 z3 ∧ Allot ⟨R,ws,C3,G3,ov3,1,sp,cy⟩ ((l.map Prod.fst).zip X) true x2 ⟨R2,ws2,C2,G3,ov3,1,sp,cy⟩) ∨ ∃ (b2 : Bool) (m2 mg : Int) (x2 : List Int) (og : List Gn) (T2 cg : List PV) (R2 : List Rw) (ws2 C2 G2 : List Int) (ov2 : Bool) (sp2 cy2 : Int) (L2 D2 Q2 : List PV) (z2 : ByteArray),s = ⟨.ptr 0 (.lit 0) :: .p (.vsl (.sym k) true cells) :: .p (.vsl (.sym j) true ca) :: (undefs 6 ++ .ptr 1 (.lit 0) :: .p (.vsl (.sym jx) true O) :: .p (.bool b2) :: .sl 10 40 4 (.lit 0) (.sym mg) :: .p (.vsl (.sym m2) true T2) :: undefs 66),[(0,.mix [.ptr 1 (.lit 0),i6 st,i6 as_]),hpA 1 2 9 7 3 W 0 sp2 cy2,hpB 2 3 5 3 W,hpC 3 4 137 2 N,hpP 4 L2,hpP 5 D2,hpF 9 z2 ov2,hpP 7 Q2,(8,.fix 0 o),hpP 10 cg],11⟩ ∧ T2 = ipv x2 ∧ m2 = x2.length ∧ cg = gpv og ∧ mg = og.length ∧ HM R2 ws2 C2 G2 N W L2 D2 Q2 z2 ∧ (∃ t1,Allot ⟨R,ws,C3,G3,ov3,1,sp,cy⟩ ((l.map Prod.fst).zip X) false [] t1) ∧ Tried W ((l.map Prod.fst).zip X) A ⟨R,ws,C3,G3,ov3,1,sp,cy⟩ b2 x2 og ⟨R2,ws2,C2,G2,ov2,0,sp2,cy2⟩) ?_ ?_
  ·cases b1 with
   | true =>
    conv => cbv
    refine Joined.mk _ (Re.at [(0,0),(1,1),(2,2),(3,3),(4,4),(5,5),(6,6),(7,7),(8,8),(9,9)] []) (.inl ⟨mx,x1,Tx,R1,ws1,C1,L1,D1,Q1,rfl,hTx,hmx,h1,hA1⟩)
   | false =>
    conv => cbv
    refine cfr (makeRoom_lx R1 ws1 C1 G3 N W 1 sp cy L1 D1 Q1 z3 ov3 h1 o ho hg1 (by omega) A j ca hca hj hAl) [(0,1),(1,2),(2,3),(3,4),(4,5),(5,9),(6,7),(7,8)] (fun r h' n' hrr => ?_)
    obtain ⟨og,mg,cg,R4,ws4,C4,G4,ov4,sp4,cy4,L4,D4,Q4,z4,e1,e2,e3,h4,hcg,hmg,hMd⟩ := hrr
    subst e1 e2 e3
    conv => cbv
    refine cfr (allot_lx R4 ws4 C4 G4 N W 0 sp4 cy4 L4 D4 Q4 z4 ov4 h4 l X k jx cells O hk hcs hXl hjx hO hl ((l.map Prod.fst).zip X) rfl) [(0,1),(1,2),(2,3),(3,4),(4,5),(5,10),(6,7)] (fun r h' n' hrr => ?_)
    obtain ⟨b2,x2,R2,ws2,C2,L2,D2,Q2,⟨m2,T2,e1,hT2,hm2⟩,e2,e3,h2,hA2⟩ := hrr
    subst e1 e2 e3
    conv => cbv
    refine Joined.mk _ (Re.at [(0,0),(1,1),(2,2),(3,3),(4,4),(5,5),(7,7),(8,8),(10,9),(11,10)] []) (.inr ⟨b2,m2,mg,x2,og,T2,cg,R2,ws2,C2,G4,ov4,sp4,cy4,L2,D2,Q2,z4,rfl,hT2,hm2,hcg,hmg,h2,⟨_,by have w := hA1.no_x; subst w; exact hA1⟩,hMd.tried hA1 hA2⟩)
  rintro s (⟨m2,x2,T2,R2,ws2,C2,L2,D2,Q2,rfl,hT2,hm2,h2,hA2⟩ | ⟨b2,m2,mg,x2,og,T2,cg,R2,ws2,C2,G2,ov2,sp2,cy2,L2,D2,Q2,z2,rfl,hT2,hm2,hcg,hmg,h2,hA2,hTr⟩)
  ·have hg2 := (hA2.good hg0).1
   have hcy2 : cy ≤ 900000000 := by omega
   conv => cbv
   refine drawn_sound tok (by kernel_rfl) [(8,[6,5,4,3,2,1,0]),(10,[1,0]),(11,[0])] [0,1,2,3,4,5,6,7,8,9,10,11,12,13,14] (by kernel_rfl) ?_; conv => cbv
   conv => cbv
   refine cfr (wordsOf_lx X jx O hjx hO (by omega) (sz_bd hX)) [] (fun r h' n' hrr => ?_)
   obtain ⟨v,e1,e2,e3,hv⟩ := hrr
   subst e1 e2 e3
   have hvb := wdsOf_bd X
   rw [← hv] at hvb
   have hav : 0 ≤ as_ * v ∧ as_ * v ≤ 8 * 3200000 := ⟨Int.mul_nonneg (by omega) (by omega),Int.mul_le_mul (by omega) (by omega) (by omega) (by decide)⟩
   conv => cbv
   refine Fit.mk (by show (-9223372036854775808 : Int) ≤ as_ * v; omega) (by show as_ * v ≤ 9223372036854775807; omega) fun c hc2 => ?_
   have hc2 : c = as_ * wdsOf X := by rw [← hv]; exact hc2
   conv => cbv
   have hcb : 0 ≤ c ∧ c ≤ 25600000 := by rw [hv] at hav; omega
   refine cfr (steps_lx R2 ws2 C2 G3 N W 1 sp cy L2 D2 Q2 z3 ov3 h2 o ho hg2 hcy2 c hcb.1 (by omega)) [(0,1),(1,2),(2,3),(3,4),(4,5),(5,9),(6,7),(7,8)] (fun r h' n' hrr => ?_)
   obtain ⟨os,ms,ph5,cs,R5,ws5,C5,G5,ov5,sp5,cy5,L5,D5,Q5,z5,e1,e2,e3,h5,hcs5,hms,hAs⟩ := hrr
   subst e1 e2 e3
   rw [hc2] at hAs
   have hsg := hAs.good hW hg2
   have hsl : os.length ≤ 69664 := hsg.2.2
   have hcl5 : cs.length = 4 * os.length := by rw [hcs5,gpv_length]
   conv => cbv
   refine Need.mk (by show (cs.length : Int) = ms * 4; omega) ?_
   conv => cbv
   refine Need.mk ⟨by show ms * 48 ≤ 140737488355328; omega,by show ms ≤ 9223372036854775807; omega⟩ ?_
   conv => cbv
   refine RetF.mk [.p (.vsl (.sym m2) true T2),.p (.vsl (.sym ms) true cs),i6 0] [(0,.mix [.ptr 1 (.lit 0),i6 st,i6 as_]),hpA 1 2 9 7 3 W ph5 sp5 cy5,hpB 2 3 5 3 W,hpC 3 4 137 2 N,hpP 4 L5,hpP 5 D5,hpF 9 z5 ov5,hpP 7 Q5,(8,.fix 0 o)] 10 (Re.at [(0,0),(1,1),(2,2),(3,3),(4,4),(5,5),(9,9),(7,7),(8,8)] []) rfl (.inr ⟨X,x2,os,0,m2,ms,T2,cs,R5,ws5,C5,G5,ov5,ph5,sp5,cy5,L5,D5,Q5,z5,rfl,hX,.inr ⟨rfl,rfl,.inl hdue⟩,h5,hT2,hm2,hcs5,hms,.ok x2 [] os _ _ _ hpre (.quick x2 _ hA2) hAs⟩)
  ·obtain ⟨hg2,hcyq,_,hogl⟩ := hTr.good hW hg0
   have hcy2 : cy2 ≤ 900000000 := by have h9 : cy2 ≤ cy + 4354 := hcyq; omega
   cases b2 with
   | false =>
    conv => cbv
    refine RetF.mk [.p (.vsl (.sym 0) true []),.p (.vsl (.sym mg) true cg),i6 9] [(0,.mix [.ptr 1 (.lit 0),i6 st,i6 as_]),hpA 1 2 9 7 3 W 0 sp2 cy2,hpB 2 3 5 3 W,hpC 3 4 137 2 N,hpP 4 L2,hpP 5 D2,hpF 9 z2 ov2,hpP 7 Q2,(8,.fix 0 o)] 10 (Re.at [(0,0),(1,1),(2,2),(3,3),(4,4),(5,5),(9,9),(7,7),(8,8)] []) rfl (.inr ⟨X,[],og,9,0,mg,[],cg,R2,ws2,C2,G2,ov2,0,sp2,cy2,L2,D2,Q2,z2,rfl,hX,.inr ⟨rfl,rfl,.inl hdue⟩,h2,rfl,rfl,hcg,hmg,.room x2 og _ _ hpre hTr⟩)
   | true =>
    conv => cbv
    refine drawn_sound tok (by kernel_rfl) [(8,[6,5,4,3,2,1,0]),(10,[1,0]),(11,[0])] [0,1,2,3,4,5,6,7,8,9,10,11,12,13,14] (by kernel_rfl) ?_; conv => cbv
    conv => cbv
    refine cfr (wordsOf_lx X jx O hjx hO (by omega) (sz_bd hX)) [] (fun r h' n' hrr => ?_)
    obtain ⟨v,e1,e2,e3,hv⟩ := hrr
    subst e1 e2 e3
    have hvb := wdsOf_bd X
    rw [← hv] at hvb
    have hav : 0 ≤ as_ * v ∧ as_ * v ≤ 8 * 3200000 := ⟨Int.mul_nonneg (by omega) (by omega),Int.mul_le_mul (by omega) (by omega) (by omega) (by decide)⟩
    conv => cbv
    refine Fit.mk (by show (-9223372036854775808 : Int) ≤ as_ * v; omega) (by show as_ * v ≤ 9223372036854775807; omega) fun c hc2 => ?_
    have hc2 : c = as_ * wdsOf X := by rw [← hv]; exact hc2
    conv => cbv
    have hcb : 0 ≤ c ∧ c ≤ 25600000 := by rw [hv] at hav; omega
    refine cfr (steps_lx R2 ws2 C2 G2 N W 0 sp2 cy2 L2 D2 Q2 z2 ov2 h2 o ho hg2 hcy2 c hcb.1 (by omega)) [(0,1),(1,2),(2,3),(3,4),(4,5),(5,9),(6,7),(7,8)] (fun r h' n' hrr => ?_)
    obtain ⟨os,ms,ph5,cs,R5,ws5,C5,G5,ov5,sp5,cy5,L5,D5,Q5,z5,e1,e2,e3,h5,hcs5,hms,hAs⟩ := hrr
    subst e1 e2 e3
    rw [hc2] at hAs
    have hsg := hAs.good hW hg2
    have hsl : os.length ≤ 69664 := hsg.2.2
    have hcl5 : cs.length = 4 * os.length := by rw [hcs5,gpv_length]
    conv => cbv
    refine Need.mk (by show (cs.length : Int) = ms * 4; omega) ?_
    conv => cbv
    have hclg : cg.length = 4 * og.length := by rw [hcg,gpv_length]
    refine Room.new ⟨by show (cg.length : Int) = mg * 4; omega,by show (mg + ms) * 48 ≤ 140737488355328; omega,by show mg + ms ≤ 9223372036854775807; omega⟩ ?_
    conv => cbv
    refine Upd.mk fun c6 hc6 => ?_
    have hc6 : c6 = gpv (og ++ os) := by rw [show c6 = cg ++ cs from hc6,hcg,hcs5,← gpv_app]
    conv => cbv
    refine Sum.mk fun m6 hm6 => ?_
    have hm6 : m6 = ((og ++ os).length : Int) := by rw [show m6 = mg + ms from hm6,hmg,hms,List.length_append]; rfl
    conv => cbv
    refine RetF.mk [.p (.vsl (.sym m2) true T2),.p (.vsl (.sym m6) true c6),i6 0] [(0,.mix [.ptr 1 (.lit 0),i6 st,i6 as_]),hpA 1 2 9 7 3 W ph5 sp5 cy5,hpB 2 3 5 3 W,hpC 3 4 137 2 N,hpP 4 L5,hpP 5 D5,hpF 9 z5 ov5,hpP 7 Q5,(8,.fix 0 o)] 10 (Re.at [(0,0),(1,1),(2,2),(3,3),(4,4),(5,5),(9,9),(7,7),(8,8)] []) rfl (.inr ⟨X,x2,(og ++ os),0,m2,m6,T2,c6,R5,ws5,C5,G5,ov5,ph5,sp5,cy5,L5,D5,Q5,z5,rfl,hX,.inr ⟨rfl,rfl,.inl hdue⟩,h5,hT2,hm2,hc6,hm6,.ok x2 og os _ _ _ hpre hTr hAs⟩)
theorem allocS_nil : CallF (fun _ => Tryz.prog) 24 [.p .nilp,.p .nils,.p .nils] [] 0 (fun r h n => r = .tup [.p .nils,.p .nils,.p (.int .i64 (.lit 2))] ∧ h = [] ∧ n = 0) := by
 refine callF_of_body tok Tryz.func24 (by kernel_rfl) rfl rfl rfl ?_; conv => cbv
 refine callF_frame heapS_nil [] rfl trivial rfl rfl (fun r h' n' ⟨e1,e2,e3⟩ => ?_)
 subst e1 e2 e3
 conv => cbv
 refine RetF.mk [.p .nils,.p .nils,.p (.int .i64 (.lit 2))] [] 0 (Re.at [] []) rfl ⟨rfl,rfl,rfl⟩
theorem collectS_nil : CallF (fun _ => Tryz.prog) 15 [.p .nilp,.p .nils] [] 0 (fun r h n => r = .p .nils ∧ h = [] ∧ n = 0) := by
 refine callF_of_body tok Tryz.func15 (by kernel_rfl) rfl rfl rfl ?_; conv => cbv
 refine callF_frame heapS_nil [] rfl trivial rfl rfl (fun r h' n' ⟨e1,e2,e3⟩ => ?_)
 subst e1 e2 e3
 conv => cbv
 refine callF_frame phaseNil_lx [] rfl trivial rfl rfl (fun r h' n' ⟨e1,e2,e3⟩ => ?_)
 subst e1 e2 e3
 conv => cbv
 refine Br.yes (show (0 : Int) = 0 from rfl) ?_
 conv => cbv
 refine callF_frame beginNil_lx [] rfl trivial rfl rfl (fun r h' n' ⟨e1,e2,e3⟩ => ?_)
 subst e1 e2 e3
 conv => cbv
 refine RetF.mk [.p .nils] [] 0 (Re.at [] []) rfl ⟨rfl,rfl,rfl⟩
theorem collectS_idle (R : List Rw) (ws C G : List Int) (N W ph sp cy : Int) (L D Q : List PV) (z : ByteArray) (ov : Bool) (h : HM R ws C G N W L D Q z) (o : Unit → Obj) (ho : IsPow o) (st as_ : Int) (hp : ph = 0) (A : List Int) (j : Int) (ca : List PV) (hca : ca = ipv A) (hj : j = A.length) (hAl : A.length ≤ 100000) :
  CallF (fun _ => Tryz.prog) 15 [.ptr 0 (.lit 0),.p (.vsl (.sym j) true ca)] [(0,.mix [.ptr 1 (.lit 0),i6 st,i6 as_]),hpA 1 2 6 7 3 W ph sp cy,hpB 2 3 5 3 W,hpC 3 4 137 2 N,hpP 4 L,hpP 5 D,hpF 6 z ov,hpP 7 Q,(8,.fix 0 o)] 9 (fun r h n => ∃ (C3 G3 : List Int) (ov3 : Bool) (Q3 : List PV) (z3 : ByteArray),r = .p .nils ∧ h = [(0,.mix [.ptr 1 (.lit 0),i6 st,i6 as_]),hpA 1 2 9 7 3 W 1 sp cy,hpB 2 3 5 3 W,hpC 3 4 137 2 N,hpP 4 L,hpP 5 D,hpF 9 z3 ov3,hpP 7 Q3,(8,.fix 0 o)] ∧ n = 10 ∧ HM R ws C3 G3 N W L D Q3 z3 ∧ Bgn W ⟨R,ws,C,G,ov,ph,sp,cy⟩ A ⟨R,ws,C3,G3,ov3,1,sp,cy⟩) := by
 refine callF_of_body tok Tryz.func15 (by kernel_rfl) rfl rfl rfl ?_; conv => cbv
 refine cfr (heapS_lx R ws C G N W ph sp cy L D Q z ov st as_) [(0,0),(1,1),(2,2),(3,3),(4,4),(5,5),(6,6),(7,7)] (fun r h' n' ⟨e1,e2,e3⟩ => ?_)
 subst e1 e2 e3
 conv => cbv
 refine cfr (phase_lx R ws C G N W ph sp cy L D Q z ov) [(0,1),(1,2),(2,3),(3,4),(4,5),(5,6),(6,7)] (fun r h' n' ⟨e1,e2,e3⟩ => ?_)
 subst e1 e2 e3
 conv => cbv
 refine Br.yes (show ph = 0 from hp) ?_
 conv => cbv
 refine cfr (begin_lx R ws C G N W ph sp cy L D Q z ov h o ho A j ca hca hj (by omega) hp) [(0,1),(1,2),(2,3),(3,4),(4,5),(5,6),(6,7),(7,8)] (fun r h' n' hrr => ?_)
 obtain ⟨C3,G3,ov3,Q3,z3,e1,e2,e3,h3,hb3⟩ := hrr
 subst e1 e2 e3
 conv => cbv
 refine RetF.mk [.p .nils] [(0,.mix [.ptr 1 (.lit 0),i6 st,i6 as_]),hpA 1 2 9 7 3 W 1 sp cy,hpB 2 3 5 3 W,hpC 3 4 137 2 N,hpP 4 L,hpP 5 D,hpF 9 z3 ov3,hpP 7 Q3,(8,.fix 0 o)] 10 (Re.at [(0,0),(1,1),(2,2),(3,3),(4,4),(5,5),(9,9),(7,7),(8,8)] []) rfl ⟨C3,G3,ov3,Q3,z3,rfl,rfl,rfl,h3,rfl,rfl,rfl,rfl,rfl,(by have := h3.c; show (C3.length : Int) = W; exact this),hb3⟩
theorem collectS_step (R : List Rw) (ws C G : List Int) (N W ph sp cy : Int) (L D Q : List PV) (z : ByteArray) (ov : Bool) (h : HM R ws C G N W L D Q z) (o : Unit → Obj) (ho : IsPow o) (st as_ : Int) (hp : ph ≠ 0) (hsp : 0 ≤ sp ∧ sp ≤ 1000) (hcy : 0 ≤ cy ∧ cy ≤ 1000000000) (j : Int) (ca : List PV) :
  CallF (fun _ => Tryz.prog) 15 [.ptr 0 (.lit 0),.p (.vsl (.sym j) true ca)] [(0,.mix [.ptr 1 (.lit 0),i6 st,i6 as_]),hpA 1 2 6 7 3 W ph sp cy,hpB 2 3 5 3 W,hpC 3 4 137 2 N,hpP 4 L,hpP 5 D,hpF 6 z ov,hpP 7 Q,(8,.fix 0 o)] 9 (fun r h n => ∃ (out : List Gn) (m : Int) (cells : List PV) (Rh : List Rw) (wh Ch Gh : List Int) (ovh : Bool) (ph2 sp2 cy2 : Int) (Lh Dh Qh : List PV) (zh : ByteArray),r = .p (.vsl (.sym m) true cells) ∧ h = [(0,.mix [.ptr 1 (.lit 0),i6 st,i6 as_]),hpA 1 2 6 7 3 W ph2 sp2 cy2,hpB 2 3 5 3 W,hpC 3 4 137 2 N,hpP 4 Lh,hpP 5 Dh,hpF 6 zh ovh,hpP 7 Qh,(8,.fix 0 o)] ∧ n = 9 ∧ HM Rh wh Ch Gh N W Lh Dh Qh zh ∧ cells = gpv out ∧ m = out.length ∧ Stp W ⟨R,ws,C,G,ov,ph,sp,cy⟩ out ⟨Rh,wh,Ch,Gh,ovh,ph2,sp2,cy2⟩) := by
 refine callF_of_body tok Tryz.func15 (by kernel_rfl) rfl rfl rfl ?_; conv => cbv
 refine cfr (heapS_lx R ws C G N W ph sp cy L D Q z ov st as_) [(0,0),(1,1),(2,2),(3,3),(4,4),(5,5),(6,6),(7,7)] (fun r h' n' ⟨e1,e2,e3⟩ => ?_)
 subst e1 e2 e3
 conv => cbv
 refine cfr (phase_lx R ws C G N W ph sp cy L D Q z ov) [(0,1),(1,2),(2,3),(3,4),(4,5),(5,6),(6,7)] (fun r h' n' ⟨e1,e2,e3⟩ => ?_)
 subst e1 e2 e3
 conv => cbv
 refine Br.no (show ¬ ph = 0 from hp) ?_
 conv => cbv
 refine cfr (step_lx R ws C G N W ph sp cy L D Q z ov h o ho hsp hcy) [(0,1),(1,2),(2,3),(3,4),(4,5),(5,6),(6,7),(7,8)] (fun r h' n' hrr => ?_)
 obtain ⟨o2,kx,ph',sp',cy',R2,w2,C2,G2,ov2,cells',Lx,Dx,Qx,z2,e1,e2,e3,h2,hcs2,hkx,hst⟩ := hrr
 subst e1 e2 e3
 conv => cbv
 refine RetF.mk [.p (.vsl (.sym kx) true cells')] [(0,.mix [.ptr 1 (.lit 0),i6 st,i6 as_]),hpA 1 2 6 7 3 W ph' sp' cy',hpB 2 3 5 3 W,hpC 3 4 137 2 N,hpP 4 Lx,hpP 5 Dx,hpF 6 z2 ov2,hpP 7 Qx,(8,.fix 0 o)] 9 (Re.at [(0,0),(1,1),(2,2),(3,3),(4,4),(5,5),(6,6),(7,7),(8,8)] []) rfl ⟨o2,kx,cells',R2,w2,C2,G2,ov2,ph',sp',cy',Lx,Dx,Qx,z2,rfl,rfl,rfl,h2,hcs2,hkx,hst⟩
theorem stepd_cyw {R R' : List Rw} {ws ws' C C' G G' : List Int} {ov ov' : Bool} {ph sp cy W p s y : Int} {out : List Gn} (h : Stepd R ws C G ov ph sp cy W out R' ws' C' G' ov' p s y) (hp : ph = 1 ∨ ph = 2) : (p ≠ 0 ∧ y = cy) ∨ (p = 0 ∧ y = cy + 1) := by
 cases h with
 | mark _ _ _ _ _ _ _ _ hm => cases hm with
  | scan _ _ _ _ _ _ _ _ _ _ => exact .inl ⟨by decide,rfl⟩
  | keep _ _ _ _ _ _ _ _ _ _ _ _ _ => exact .inl ⟨by decide,rfl⟩
  | sweep _ _ _ _ => exact .inl ⟨by decide,rfl⟩
 | sweep _ _ _ _ =>
  unfold swPh swCy
  split
  ·exact .inr ⟨rfl,rfl⟩
  ·exact .inl ⟨by decide,rfl⟩
 | idle h1 h2 => omega
theorem Many.ends {N W : Int} {s t : Hst} {n : Nat} {out : List Gn} (hW : W = 32 * N) (hg : Good N s) (hp : s.ph ≠ 0) (hm : Many W s n out t) : (t.ph ≠ 0 ∧ t.cy = s.cy) ∨ (t.ph = 0 ∧ t.cy = s.cy + 1) := by
 induction hm with
 | zero => exact .inl ⟨hp,rfl⟩
 | succ n out o2 t u hm hp2 hs ih =>
  have hI := (hm.good hW hg).1.i.resolve_left hp2
  have h12 : t.ph = 1 ∨ t.ph = 2 := by
   rcases hI with ⟨k,_⟩ | ⟨k,_⟩ | ⟨k,_⟩
   ·exact .inl k
   ·exact .inr k
   ·exact absurd k hp2
  have hc : t.cy = s.cy := by
                rcases ih with k | k
                ·exact k.2
                ·exact absurd k.1 hp2
  rw [← hc]
  exact stepd_cyw hs h12
theorem objs_count {N : Int} {s : Hst} (hg : Good N s) : (objs s.R).length = objCount s.R := objs_length hg.a.rows
theorem objsNd {N : Int} {s : Hst} (hg : Good N s) : (objs s.R).Nodup := (objsTo_asc hg.a.rows _).imp fun q => by omega
structure PaceI (N : Int) (s : Hst) (l : List Int) : Prop where
 g : Good N s
 z : ∀ b i w,Loaded s.R s.ws b i w 0 → w = 0
 m : Mono 0 s.R
 r : ∀ a ∈ objs s.R,a ∈ l
 p : ∀ a ∈ l,Prot s a
theorem PaceI.nf {N : Int} {s : Hst} {l : List Int} (h : PaceI N s l) : Nf s.R s.ws := fun a _ x _ hl => h.z a 1 x hl
theorem PaceI.count {N : Int} {s : Hst} {l : List Int} (h : PaceI N s l) : objCount s.R ≤ l.length := by
 rw [← objs_count h.g]
 exact nodup_le (objsNd h.g) h.r
theorem PaceI.new {N : Int} {s : Hst} (h : Bare0 N s) : PaceI N s [] :=
 ⟨h.g,fun b i w hl => (by cases hl with | ok k l _ hK _ _ => exact absurd hK.obj6 (h.none b)),by rw [h.r]; exact Mono.new 0 _,fun a ha => by rw [h.objs] at ha; exact ha,fun a ha => by cases ha⟩
theorem PaceI.step {N W st : Int} {n : Nat} {s t : Hst} {l x : List Int} {o : List Gn} {e : Int} (hW : W = 32 * N) (h : PaceI N s l) (hr : (l.length : Int) < 8 * N) (hA : Alcd W st n [(5,2)] l s x o e t) : e = 0 ∧ o = [] ∧ ∃ a,x = [a] ∧ PaceI N t (l ++ [a]) ∧ (s.ph = 0 → (¬ st * W ≤ 100 * usedW s.R → t.ph = 0 ∧ t.cy = s.cy) ∧ (st * W ≤ 100 * usedW s.R → ¬ (t.ph = 0 ∧ t.cy = s.cy))) := by
 have hl : ∀ p ∈ [((5 : Int),(2 : Int))],Val p ∧ ofN p.2 = 0 := by
  intro p hp
  rw [List.mem_singleton.1 hp]
  exact ⟨⟨by decide,by decide,by decide,by decide⟩,by decide⟩
 have hcnt := h.count
 have hs0 : slotsOf 0 = 8 := rfl
 have hgo := hA.goes hW h.g h.nf
 have hmo := hA.mono hW h.g h.nf hl h.m
 have hgd := (hA.good hW h.g).1
 have first : ∀ u,Good N u → u.R = s.R → ∀ b y v,Allot u [(5,2)] b y v → b = true := by
  intro u gu hu b y v hq
  have mu : Mono 0 u.R := by rw [hu]; exact h.m
  have nu := gu.n
  refine (mu.allot gu.a gu.n gu.c hl hq).2.2 ?_
  rw [hs0]
  show objCount u.R + 1 ≤ _
  rw [hu] at nu ⊢
  omega
 cases hA with
 | room x o t0 t h0 h1 =>
  exfalso
  obtain ⟨g0,_,r0,w0⟩ := h0.good hW h.g
  have n0 : Nf t0.R t0.ws := by rw [r0,w0]; exact h.nf
  rcases (h1.whole hW g0 n0).2 with ⟨k,_⟩ | ⟨t2,t4,k,_⟩
  ·cases k
  ·obtain ⟨u,hu⟩ := k.g0
   have := first t0 g0 r0 _ _ _ hu
   cases this
 | ok x o1 o2 t0 t1 t h0 h1 h2 =>
  obtain ⟨g0,c0,r0,w0⟩ := h0.good hW h.g
  have n0 : Nf t0.R t0.ws := by rw [r0,w0]; exact h.nf
  have g1 := (h1.good hW g0).1
  rcases (h1.whole hW g0 n0).2 with ⟨_,rfl,k⟩ | ⟨t2,t4,k,_⟩
  ·obtain ⟨_,m1,xl⟩ := k.good g0
   have xl := xl rfl
   obtain ⟨a,rfl⟩ : ∃ a,x = [a] := by
    match x,xl with
    | [a],_ => exact ⟨a,rfl⟩
   have p0 : ∀ b ∈ l,Prot t0 b := fun b hb => (h0.goes hW h.g h.nf).pr b hb (h.p b hb)
   have p1 : ∀ b ∈ l ++ [a],Prot t1 b := by
    intro b hb
    rcases List.mem_append.1 hb with q | q
    ·exact (p0 b q).more m1
    ·exact .new m1 q
   have r1 : ∀ b ∈ objs t1.R,b ∈ l ++ [a] := by
    intro b hb
    rcases (m1.obj b).1 hb with q | q
    ·rw [r0] at q; exact List.mem_append_left _ (h.r b q)
    ·exact List.mem_append_right _ q
   obtain ⟨j,_,hm,hj⟩ := h2
   have pt : ∀ b ∈ l ++ [a],Prot t b := fun b hb => (p1 b hb).many hW g1 hm
   have hc := hm.count hW g1
   have hle := count_le g1.a.rows hgd.a.rows (fun b hb => (pt b (r1 b hb)).1)
   have ho2 : goneOf o2 = [] := List.eq_nil_of_length_eq_zero (by omega)
   have a1 := h1.goes hW g0 n0
   have hk2 := (hm.nf hW g1 a1.nf).2
   have ho : o2 = [] := none_of hk2 ho2
   subst ho
   have hrt : ∀ b ∈ objs t.R,b ∈ l ++ [a] := fun b hb => r1 b ((hm.nf hW g1 a1.nf).1.obj g1.a hgd.a hb)
   refine ⟨rfl,rfl,a,rfl,⟨hgd,fun b i w hlw => ?_,hmo,hrt,pt⟩,fun hp => ⟨fun hd => ?_,fun hd => ?_⟩⟩
   ·rcases hgo.1.dl b i w hlw with q | q
    ·exact q.2
    ·exact h.z b i w q
   ·have e0 := h0.not (fun q => hd q.2)
    subst e0
    obtain ⟨_,_,e1⟩ := hm.idle (by rw [m1.ph]; exact hp)
    rw [e1,m1.ph,m1.cy]
    exact ⟨hp,rfl⟩
   ·rcases h0 with ⟨_,_,hb⟩ | ⟨q,_⟩
    ·have e1 := hm.ends hW g1 (by rw [m1.ph,hb.p]; decide)
     rw [m1.cy,hb.y] at e1
     omega
    ·exact absurd ⟨hp,hd⟩ q
  ·exfalso
   obtain ⟨u,hu⟩ := k.g0
   have := first t0 g0 r0 _ _ _ hu
   cases this
structure KeepI (N : Int) (s : Hst) (a : Int) (V : List Int) : Prop where
 g : Good N s
 n : Nf s.R s.ws
 p : Prot s a
 k : Kept s.R s.ws a 4 10
 v : ∀ (i : Nat) w,V[i]? = some w → Loaded s.R s.ws a i w 0 ∧ w % 2 = 0
theorem KeepI.even {N : Int} {s : Hst} {a : Int} {V : List Int} (hV : V.length = 10) (h : KeepI N s a V) (i x : Int) (hl : Loaded s.R s.ws a i x 0) : x % 2 = 0 := by
 have hl0 := hl
 cases hl with
 | ok k l _ hK hi hx =>
  have e := (hK.det9 h.k).2
  obtain ⟨j,hj⟩ : ∃ j : Nat,i = j := ⟨i.toNat,by omega⟩
  subst hj
  obtain ⟨h1,h2⟩ := h.v j _ (List.getElem?_eq_getElem (by omega : j < V.length))
  rw [loadedF_det hl0 h1]; exact h2
theorem KeepI.step {N W st : Int} {n : Nat} {s t : Hst} {a : Int} {V x : List Int} {o : List Gn} {e k m : Int} (hW : W = 32 * N) (hN : 3 ≤ N) (hV : V.length = 10) (hv : Val (k,m)) (h : KeepI N s a V) (hA : Alcd W st n [(k,m)] [a] s x o e t) : e = 0 ∧ KeepI N t a V := by
 have hgo := (hA.goes hW h.g h.n).1
 have hgd := (hA.good hW h.g).1
 have ha : a ∈ [a] := List.mem_singleton.2 rfl
 refine ⟨?_,hgd,hgo.nf,hgo.pr a ha h.p,hgo.kf a ha h.p _ _ h.k,fun i w hi => ⟨hgo.lf a ha h.p _ _ (h.v i w hi).1,(h.v i w hi).2⟩⟩
 cases hA with
 | ok x o1 o2 t0 t1 t h0 h1 h2 => rfl
 | room x o t0 t h0 h1 =>
  exfalso
  have g0 := (h0.good hW h.g).1
  have a0 := h0.goes hW h.g h.n
  rcases (h1.whole hW g0 a0.nf).2 with ⟨k,_⟩ | ⟨t2,t4,q,_⟩
  ·cases k
  ·have a2 := a0.then q.a2
   have hin : ∀ y ∈ objs t4.R,y ∈ [a] := by
    intro y hy
    refine rch_even (fun b hb i x hl => ?_) ((q.ob y).1 hy)
    rw [List.mem_singleton.1 hb] at hl
    rcases a2.dl a i x hl with ⟨w,_⟩ | w
    ·cases w
    ·exact h.even hV i x w
   have hc : (objs t4.R).length ≤ 1 := nodup_le (objsNd q.g4) hin
   rw [objs_count q.g4] at hc
   have hn4 := q.g4.n
   have := q.al.roomy q.g4 (fun p hp => by rw [List.mem_singleton.1 hp]; exact hv) (by show objCount t4.R + 1 ≤ _; omega)
   cases this
structure FullI (N c : Int) (s : Hst) (l : List Int) : Prop where
 g : Good N s
 z : ∀ b i w,Loaded s.R s.ws b i w 0 → w = 0
 m : Mono c s.R
 p : ∀ a ∈ l,Prot s a
 d : l.Nodup
theorem FullI.nf {N c : Int} {s : Hst} {l : List Int} (h : FullI N c s l) : Nf s.R s.ws := fun a _ x _ hl => h.z a 1 x hl
theorem FullI.new {N : Int} {s : Hst} (c : Int) (h : Bare0 N s) : FullI N c s [] :=
 ⟨h.g,fun b i w hl => (by cases hl with | ok k l _ hK _ _ => exact absurd hK.obj6 (h.none b)),by rw [h.r]; exact Mono.new c _,fun a ha => (by cases ha),List.nodup_nil⟩
theorem FullI.le {N c : Int} {s : Hst} {l : List Int} (h : FullI N c s l) : l.length ≤ slotsOf c * s.R.length := by
 have h1 := nodup_cnt h.g.a.rows h.d (fun x hx => (h.p x hx).1)
 have h2 := h.m.le h.g.a.rows
 omega
theorem FullI.step {N W st k m : Int} {n : Nat} {s t : Hst} {l x : List Int} {o : List Gn} {e : Int} (hW : W = 32 * N) (hv : Val (k,m)) (h : FullI N (ofN m) s l) (hA : Alcd W st n [(k,m)] l s x o e t) : (e = 0 ∧ ∃ a,x = [a] ∧ a ∉ l ∧ FullI N (ofN m) t l ∧ FullI N (ofN m) t (l ++ [a])) ∨ (e = 9 ∧ x = [] ∧ l.length = slotsOf (ofN m) * s.R.length ∧ t.ph = 0 ∧ ∀ y,y ∈ objs t.R ↔ y ∈ l) ∧ Good N t := by
 have hl : ∀ p ∈ [(k,m)],Val p ∧ ofN p.2 = ofN m := by
  intro p hp
  rw [List.mem_singleton.1 hp]
  exact ⟨hv,rfl⟩
 have hgo := (hA.goes hW h.g h.nf).1
 have hmo := hA.mono hW h.g h.nf hl h.m
 have hgd := (hA.good hW h.g).1
 have hz : ∀ b i w,Loaded t.R t.ws b i w 0 → w = 0 := by
  intro b i w q
  rcases hgo.dl b i w q with q | q
  ·exact q.2
  ·exact h.z b i w q
 cases hA with
 | ok x o1 o2 t0 t1 t h0 h1 h2 =>
  have g0 := (h0.good hW h.g).1
  have xl := (h1.good hW g0).2.2.1 rfl
  obtain ⟨a,rfl⟩ : ∃ a,x = [a] := by
   match x,xl with
   | [a],_ => exact ⟨a,rfl⟩
  have ha : a ∈ [a] := List.mem_singleton.2 rfl
  have hna : a ∉ l := fun q => hgo.nw a ha q (h.p a q)
  refine .inl ⟨rfl,a,rfl,hna,⟨hgd,hz,hmo,fun b hb => hgo.pr b hb (h.p b hb),h.d⟩,⟨hgd,hz,hmo,fun b hb => ?_,?_⟩⟩
  ·rcases List.mem_append.1 hb with q | q
   ·exact hgo.pr b q (h.p b q)
   ·exact hgo.px b q
  ·exact List.nodup_append.2 ⟨h.d,by simp,fun p hp q hq w => hna (by rw [← List.mem_singleton.1 hq,← w]; exact hp)⟩
 | room x o t0 t h0 h1 =>
  obtain ⟨g0,_,r0,w0⟩ := h0.good hW h.g
  have a0 := h0.goes hW h.g h.nf
  rcases (h1.whole hW g0 a0.nf).2 with ⟨q,_⟩ | ⟨t2,t4,q,_⟩
  ·cases q
  ·have a2 := a0.then q.a2
   have a4 := a2.then q.a4
   have hob : ∀ y,y ∈ objs t4.R ↔ y ∈ l := by
    intro y
    constructor
    ·intro hy
     refine rch_even (fun b hb i x hlx => ?_) ((q.ob y).1 hy)
     rcases a2.dl b i x hlx with ⟨w,_⟩ | w
     ·cases w
     ·rw [h.z b i x w]; decide
    ·intro hy; exact (a4.pr y hy (h.p y hy)).1
   have m4 := q.mo (ofN m) (fun p hp => (hl p hp).2) (by rw [r0]; exact h.m)
   have hfl := (m4.allot q.g4.a q.g4.n q.g4.c hl q.al).2
   have hle := m4.le q.g4.a.rows
   have n4 := q.g4.n
   have n0 := h.g.n
   have hlen4 : t4.R.length = s.R.length := by omega
   have hcl : objCount t4.R = l.length := by
    rw [← objs_count q.g4]
    exact ((List.perm_ext_iff_of_nodup (objsNd q.g4) h.d).2 hob).length_eq
   have hno : ¬ objCount t4.R + [(k,m)].length ≤ slotsOf (ofN m) * t4.R.length := fun w => by have := hfl.2 w; cases this
   have h11 : [(k,m)].length = 1 := rfl
   obtain ⟨g5,m5,_⟩ := q.al.good q.g4
   have hx : x = [] := by
    have hk := q.al
    cases hk with
    | no _ _ _ _ _ _ _ _ _ _ _ _ _ _ _ => rfl
   rw [hx] at m5
   rw [hlen4] at hno hle
   refine .inr ⟨⟨rfl,rfl,by omega,by rw [m5.ph]; exact q.p4,fun y => ?_⟩,g5⟩
   rw [m5.obj y,hob y]
   exact ⟨fun w => w.elim id (fun w => by cases w),.inl⟩
theorem CallF.nils2 {P : Unit → Program} {f : Nat} {x y : LV} {h : LH} {n : Nat} {K : LV → LH → Nat → Prop} (hc : CallF P f [x,y,.p (.vsl (.sym 0) true [])] h n K) : CallF P f [x,y,.p .nils] h n K := by
 cases hc with
 | mk h1 h2 =>
  refine .mk h1 fun c w xs hr hN hl hrel => h2 c w xs hr hN hl (fun i u hu => ?_)
  match i,hu with
  | 0,hu => cases hu; exact hrel 0 _ rfl
  | 1,hu => cases hu; exact hrel 1 _ rfl
  | 2,hu =>
   cases hu
   have h3 := hrel 2 _ rfl
   generalize xs.getD 2 Go.undef = v at h3
   cases h3 with
   | p _ _ h4 =>
    cases h4 with
    | nils => exact .p _ _ (.vsl0 _ _ _ none 0 rfl (Nat.zero_le _))
theorem Bare0.alloc {N W st : Int} {l : List (Int × Int)} {A : List Int} {s t : Hst} {x : List Int} {o : List Gn} {e : Int} (hW : W = 32 * N) (hb : Bare0 N s) (hst : 1 ≤ st) (hl : ∀ p ∈ l,Val p) (hlen : (l.length : Int) ≤ N) (h : Alcd W st 0 l A s x o e t) : e = 0 ∧ o = [] ∧ Allot s l true x t ∧ ¬ Renewed W st l A s := by
 have hn := hb.g.n
 have hc := hb.count
 have first : ∀ b y u,Allot s l b y u → b = true := fun b y u hq => hq.roomy hb.g hl (by omega)
 have hren : ¬ Renewed W st l A s := by
  rintro (⟨_,q⟩ | ⟨t0,t1,q1,q2⟩)
  ·have h1 := hb.g.n1
   have h2 : 1 * W ≤ st * W := Int.mul_le_mul_of_nonneg_right hst (by omega)
   rw [hb.used] at q
   omega
  ·have e0 := hb.pre hW hst q1
   subst e0
   have := first _ _ _ q2
   cases this
 cases h with
 | ok x o1 o2 t0 t1 t h0 h1 h2 =>
  have e0 := hb.pre hW hst h0
  subst e0
  obtain ⟨e2,e3⟩ := h2.none
  subst e2 e3
  cases h1 with
  | quick x t h1 => exact ⟨rfl,rfl,h1,hren⟩
  | forced b x o1 o2 k1 k2 t1 t2 t3 t4 t5 h1 h2 p2 h3 h4 p4 h5 =>
   have := first _ _ _ h1
   cases this
 | room x o t0 t h0 h1 =>
  have e0 := hb.pre hW hst h0
  subst e0
  cases h1 with
  | forced b x o1 o2 k1 k2 t1 t2 t3 t4 t5 h1 h2 p2 h3 h4 p4 h5 =>
   have := first _ _ _ h1
   cases this
theorem sz_two {X : List Int} (h : Sz [(5,0),(2,2)] X) : X = [2,2] := by
 obtain ⟨h1,h2⟩ := h
 match X,h1 with
 | [a,b],_ =>
  obtain ⟨v,e,q⟩ := h2 0 _ rfl
  cases e
  obtain ⟨w,e,q2⟩ := h2 1 _ rfl
  cases e
  have ha : a = 2 := by
   rcases q with ⟨q,_⟩ | ⟨_,q,_⟩
   ·exact absurd q (by decide)
   ·exact q
  have hb : b = 2 := by
   rcases q2 with ⟨_,⟨_,_,q,_⟩ | ⟨q,_⟩⟩ | ⟨q,_⟩
   ·exact q
   ·exact absurd ⟨by decide,by decide⟩ q
   ·exact absurd rfl q
  rw [ha,hb]
theorem wide_lx : CallF (fun _ => Tryz.prog) 36 [] [] 0 (fun r h n => r = .agg [.p (.int .i64 (.lit 100)),.p (.int .i64 (.lit 100)),.p (.int .i64 (.lit 0))] ∧ h = [] ∧ n = 0) := by
 refine callF_of_body tok Tryz.func36 (by kernel_rfl) rfl rfl rfl ?_; conv => cbv
 refine RetF.mk [.agg [.p (.int .i64 (.lit 100)),.p (.int .i64 (.lit 100)),.p (.int .i64 (.lit 0))]] [] 0 (Re.at [] []) rfl ⟨rfl,rfl,rfl⟩
theorem awake21_lx (o : Unit → Obj) (ho : IsPow o) : CallF (fun _ => Tryz.prog) 13 [] [(0,.fix 0 o)] 1 (fun r h n => r = .p (.bool true) ∧ h = [(0,.fix 0 o)] ∧ n = 1) := by
 refine callF_of_body tok Tryz.func13 (by kernel_rfl) rfl rfl rfl ?_; conv => cbv
 refine callF_frame wide_lx [] rfl (by simp [hmapOk,nget,hget,renB,okB,renV,renVs,rn,okVs,okV]) rfl rfl (fun r h' n' ⟨e1,e2,e3⟩ => ?_)
 subst e1 e2 e3
 conv => cbv
 obtain ⟨z0,hz0⟩ : ∃ z0 : ByteArray,z0 = ⟨(enc []).toArray⟩ := ⟨_,rfl⟩
 obtain ⟨N,hN⟩ : ∃ N : Int,N = 100 := ⟨_,rfl⟩
 obtain ⟨W,hW⟩ : ∃ W : Int,W = 32 * N := ⟨_,rfl⟩
 obtain ⟨st,hst⟩ : ∃ N : Int,N = 100 := ⟨_,rfl⟩
 obtain ⟨as_,has⟩ : ∃ N : Int,N = 0 := ⟨_,rfl⟩
 obtain ⟨L0,hL0⟩ : ∃ L0,L0 = rpv (List.replicate N.toNat ((0,[]) : Rw)) := ⟨_,rfl⟩
 obtain ⟨D0,hD0⟩ : ∃ D0,D0 = ipv (List.replicate W.toNat (0 : Int)) := ⟨_,rfl⟩
 have hM0 := HM.new (by omega : 2 ≤ N) (by omega) hW hL0 hD0 hD0 hz0
 obtain ⟨R0,hR0⟩ : ∃ R0,R0 = List.replicate N.toNat ((0,[]) : Rw) := ⟨_,rfl⟩
 obtain ⟨ws0,hws0⟩ : ∃ ws0,ws0 = List.replicate W.toNat (0 : Int) := ⟨_,rfl⟩
 rw [← hR0,← hws0] at hM0
 have hCO : COk N st as_ := ⟨by omega,by omega,by omega,by omega⟩
 have hB0 : Bare0 N ⟨R0,ws0,ws0,[],false,0,0,0⟩ := ⟨hM0.good false 0 0 (by omega) (by omega) ⟨by omega,by omega⟩ (by omega),hR0,rfl⟩
 refine CallF.le (args0 := [.agg [i6 N,i6 st,i6 as_]]) (callF_frame (newS_lx N W st as_ hCO (by omega) (by omega) hW L0 D0 D0 z0 hL0 hD0 hD0 hz0) [] rfl trivial rfl rfl (fun r h' n' ⟨e1,e2,e3⟩ => ?_)) (by simp [ales,ale,pvle,I.val,hN,hst,has])
 subst e1 e2 e3
 conv => cbv
 refine cfr (heapS_lx R0 ws0 ws0 [] N W 0 0 0 L0 D0 D0 z0 false st as_) [(0,1),(1,2),(2,3),(3,4),(4,5),(5,6),(6,7),(7,8)] (fun r h' n' ⟨e1,e2,e3⟩ => ?_)
 subst e1 e2 e3
 conv => cbv
 refine cfr (heapS_lx R0 ws0 ws0 [] N W 0 0 0 L0 D0 D0 z0 false st as_) [(0,1),(1,2),(2,3),(3,4),(4,5),(5,6),(6,7),(7,8)] (fun r h' n' ⟨e1,e2,e3⟩ => ?_)
 subst e1 e2 e3
 conv => cbv
 refine cfr (arena_lx R0 ws0 ws0 [] N W 0 0 0 L0 D0 D0 z0 false) [(0,2),(1,3),(2,4),(3,5),(4,6),(5,7),(6,8)] (fun r h' n' ⟨e1,e2,e3⟩ => ?_)
 subst e1 e2 e3
 conv => cbv
 refine CallF.re (args0 := [.ptr 1 (.lit 0),.p (.vsl (.sym 2) true [.int .i64 (.sym 5),.int .i64 (.sym 0),.int .i64 (.sym 2),.int .i64 (.sym 2)]),.p (.vsl (.sym 0) true [])]) (h' := [(1,.mix [.ptr 2 (.lit 0),i6 st,i6 as_]),hpA 2 3 7 8 3 W 0 0 0,hpB 3 4 6 3 W,hpC 4 5 137 2 N,hpP 5 L0,hpP 6 D0,hpF 7 z0 false,hpP 8 D0,(0,.fix 0 o)]) (Re.at [(0,0),(1,1),(2,2),(3,3),(4,4),(5,5),(6,6),(7,7),(8,8)] []) (cfr (alloc21_lx R0 ws0 ws0 [] N W 0 0 0 L0 D0 D0 z0 false hM0 o ho st as_ hCO hB0.g (by decide) [(5,0),(2,2)] 2 [.int .i64 (.sym 5),.int .i64 (.sym 0),.int .i64 (.sym 2),.int .i64 (.sym 2)] rfl rfl (by decide) [] 0 [] rfl rfl (by decide)) [(0,1),(1,2),(2,3),(3,4),(4,5),(5,6),(6,7),(7,8),(8,0)] (fun r h' n' hrr => ?_))
 rcases hrr with ⟨e1,⟨p,hp,v,hv⟩,e2,e3⟩ | hrr
 ·exfalso
  rcases List.mem_cons.1 hp with rfl | hp
  ·rcases hv with ⟨q,_⟩ | ⟨_,q,q2⟩
   ·exact absurd q (by decide)
   ·rw [q] at q2
    exact absurd (q2.2 (by decide)) (by decide)
  ·rw [List.mem_singleton.1 hp] at hv
   rcases hv with ⟨_,⟨_,_,_,q⟩ | ⟨q,_⟩⟩ | ⟨q,_⟩
   ·cases q
   ·exact q ⟨by decide,by decide⟩
   ·exact q rfl
 obtain ⟨X,x,out,e,mx,mg,T,cg,R1,ws1,C1,G1,ov1,ph1,sp1,cy1,L1,D1,Q1,z1,e1,hX,hh,h1,hT,hmx,hcg,hmg,hA⟩ := hrr
 have hX2 := sz_two hX
 subst hX2
 rw [has,Int.zero_mul] at hA
 obtain ⟨rfl,rfl,hAl,hnr⟩ := hB0.alloc (l := [(5,2),(2,2)]) hW hCO.1 (by simp [Val]) (by simp [hN]) hA
 rcases hh with ⟨e2,e3⟩ | ⟨_,_,hren⟩
 case inr => exact absurd hren hnr
 subst e1 e2 e3
 obtain ⟨hg1,hmo1,hxl⟩ := hAl.good hB0.g
 have hkd := hAl.kinds hB0.g
 have hxl := hxl rfl
 obtain ⟨a0,a1,rfl⟩ : ∃ a0 a1,x = [a0,a1] := by
  match x,hxl with
  | [a0,a1],_ => exact ⟨a0,a1,rfl⟩
 have hk1 : Kept R1 ws1 a1 2 2 := hkd 1 a1 (2,2) rfl rfl
 have hp1 : ph1 = 0 := hmo1.ph
 subst hp1
 subst hmg hcg hmx hT
 conv => cbv
 refine drawn_sound tok (by kernel_rfl) [(14,[18,17,16]),(15,[18,17,16]),(19,[]),(24,[]),(30,[]),(31,[])] [0,1,2,3,4,5,6,7,8,9,10,11,12,13,16,17,18,14,15,19,20,21,22,23,24,25,26,27,28,29,30,31,32,33,34] (drawnOKF_ok (by kernel_rfl)) ?_; conv => cbv
 conv => cbv
 refine Br.yes (show (0 : Int) = 0 from rfl) ?_
 conv => cbv
 refine Br.yes (show (0 : Int) = 0 from rfl) ?_
 conv => cbv
 refine Br.yes (show (2 : Int) = 2 from rfl) ?_
 conv => cbv
 refine Need.mk ⟨by decide,by decide⟩ ?_
 conv => cbv
 refine Cell.at 1 _ rfl rfl rfl ?_
 conv => cbv
 refine cfr (heapS_lx R1 ws1 C1 G1 N W 0 sp1 cy1 L1 D1 Q1 z1 ov1 st as_) [(0,1),(1,2),(2,3),(3,4),(4,5),(5,6),(6,7),(7,8)] (fun r h' n' ⟨e1,e2,e3⟩ => ?_)
 subst e1 e2 e3
 conv => cbv
 refine cfr (arena_lx R1 ws1 C1 G1 N W 0 sp1 cy1 L1 D1 Q1 z1 ov1) [(0,2),(1,3),(2,4),(3,5),(4,6),(5,7),(6,8)] (fun r h' n' ⟨e1,e2,e3⟩ => ?_)
 subst e1 e2 e3
 conv => cbv
 refine cfr (kind_lx R1 ws1 N a1 W L1 D1 h1.l h1.d h1.n h1.r h1.a h1.w) [(0,3),(1,4),(2,5),(3,6)] (fun r h' n' hrr => ?_)
 obtain ⟨v,e1,e2,e3,hv⟩ := hrr
 subst e1 e2 e3
 have hv2 : v = 2 := by
  cases hv with
  | no hno => exact absurd hk1.obj6 hno
  | is _ l hK => exact (hK.det9 hk1).1
 subst hv2
 conv => cbv
 refine Br.yes (show (2 : Int) = 2 from rfl) ?_
 conv => cbv
 refine CallF.le (args0 := [.ptr 1 (.lit 0),.p (.vsl (.sym 0) true [])]) (cfr (collectS_idle R1 ws1 C1 G1 N W 0 sp1 cy1 L1 D1 Q1 z1 ov1 h1 o ho st as_ rfl [] 0 [] rfl rfl (by decide)) [(0,1),(1,2),(2,3),(3,4),(4,5),(5,6),(6,7),(7,8),(8,0)] (fun r h' n' hrr => ?_)) (by simp [ales,ale,pvle,I.val])
 obtain ⟨C3,G3,ov3,Q3,z3,e1,e2,e3,h3,hb3⟩ := hrr
 subst e1 e2 e3
 conv => cbv
 refine cfr (heapS_lx R1 ws1 C3 G3 N W 1 sp1 cy1 L1 D1 Q3 z3 ov3 st as_) [(0,1),(1,2),(2,3),(3,4),(4,5),(5,6),(6,10),(7,8)] (fun r h' n' ⟨e1,e2,e3⟩ => ?_)
 subst e1 e2 e3
 conv => cbv
 refine cfr (phase_lx R1 ws1 C3 G3 N W 1 sp1 cy1 L1 D1 Q3 z3 ov3) [(0,2),(1,3),(2,4),(3,5),(4,6),(5,10),(6,8)] (fun r h' n' ⟨e1,e2,e3⟩ => ?_)
 subst e1 e2 e3
 conv => cbv
 refine Br.yes (show (1 : Int) = 1 from rfl) ?_
 conv => cbv
 refine RetF.mk [.p (.bool true)] [(0,.fix 0 o)] 1 (Re.at [(0,0)] []) rfl ⟨rfl,rfl,rfl⟩
end Go.Proofs.YtpbhcdbkmmjimaaGreatDoor
