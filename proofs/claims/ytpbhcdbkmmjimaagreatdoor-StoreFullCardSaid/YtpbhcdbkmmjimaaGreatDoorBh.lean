/-
  The ground of the proof, part 8: the calculus and what is proved with it.
-/
import Derived.Test.YtpbhcdbkmmjimaaGreatDoorBg
import Derived.Test.YtpbhcdbkmmjimaaGreatDoorBf
import Derived.Test.YtpbhcdbkmmjimaaGreatDoorBe
import Derived.Shelf.Strings.Builder1
import Derived.Shelf.Strings.Builder2
import Derived.Shelf.Strings.BuilderF
import Derived.Shelf.Strings.BuilderK
import Derived.Shelf.LaysM
import Derived.Shelf.Strconv.Itoa3
import Derived.Shelf.LaysC
import Derived.Shelf.Strconv.AtoiAll
import Derived.Shelf.Strings.Prefix
import Derived.Shelf.Strings.Repeat
import Derived.Ground.Names2Prog
import Derived.Shelf.Slices.Clone
import Derived.Test.YtpbhcdbkmmjimaaGreatDoorProg
import Derived.Test.YtpbhcdbkmmjimaaGreatDoorBd
import Derived.Test.YtpbhcdbkmmjimaaGreatDoorRows
namespace Go.Proofs.YtpbhcdbkmmjimaaGreatDoor
open Go Go.LX
set_option maxRecDepth 100000
set_option linter.unusedVariables false
set_option linter.unusedSimpArgs false
set_option maxHeartbeats 32000000
def usedW (R : List Rw) : Int := (R.map fun e => (e.2.count true : Int) * wordsOf e.1).sum
def Asst (W : Int) (n : Nat) (s : Hst) (out : List Gn) (t : Hst) : Prop := ∃ k,k ≤ n ∧ Many W s k out t ∧ (k = n ∨ t.ph = 0)
def Pre (W st : Int) (A : List Int) (s t : Hst) : Prop := (s.ph = 0 ∧ st * W ≤ 100 * usedW s.R ∧ Bgn W s A t) ∨ (¬ (s.ph = 0 ∧ st * W ≤ 100 * usedW s.R) ∧ t = s)
inductive Tried (W : Int) (l : List (Int × Int)) (A : List Int) (s : Hst) : Bool → List Int → List Gn → Hst → Prop
 | quick (x : List Int) (t : Hst) (h : Allot s l true x t) : Tried W l A s true x [] t
 | forced (b : Bool) (x : List Int) (o1 o2 : List Gn) (k1 k2 : Nat) (t1 t2 t3 t4 t5 : Hst) (h1 : Allot s l false [] t1) (h2 : Many W t1 k1 o1 t2) (p2 : t2.ph = 0) (h3 : Bgn W t2 (A ++ keptOf o1) t3) (h4 : Many W t3 k2 o2 t4) (p4 : t4.ph = 0) (h5 : Allot t4 l b x t5) : Tried W l A s b x (o1 ++ o2) t5
inductive Alcd (W st : Int) (n : Nat) (l : List (Int × Int)) (A : List Int) (s : Hst) : List Int → List Gn → Int → Hst → Prop
 | ok (x : List Int) (o1 o2 : List Gn) (t0 t1 t : Hst) (h0 : Pre W st A s t0) (h1 : Tried W l A t0 true x o1 t1) (h2 : Asst W n t1 o2 t) : Alcd W st n l A s x (o1 ++ o2) 0 t
 | room (x : List Int) (o : List Gn) (t0 t : Hst) (h0 : Pre W st A s t0) (h1 : Tried W l A t0 false x o t) : Alcd W st n l A s [] o 9 t
theorem Allot.good {N : Int} {s t : Hst} {l : List (Int × Int)} {x : List Int} {b : Bool} (hg : Good N s) (h : Allot s l b x t) : Good N t ∧ More s t x ∧ (b = true → x.length = l.length) := by
 have k := h.more hg.a hg.n hg.c
 exact ⟨k.1.good hg,k.1,k.2⟩
theorem Many.cyb {N W : Int} {s t : Hst} {n : Nat} {out : List Gn} (hW : W = 32 * N) (hg : Good N s) (hm : Many W s n out t) : t.cy ≤ s.cy + 2177 ∧ out.length ≤ 69664 ∧ n ≤ 2177 := by
 obtain ⟨h1,h2,h3,h4⟩ := hm.good hW hg
 have h5 := hg.left_le
 have h6 := hg.n2
 have h7 := h1.left0.1
 exact ⟨by omega,by omega,by omega⟩
theorem Pre.good {N W st : Int} {A : List Int} {s t : Hst} (hW : W = 32 * N) (hg : Good N s) (h : Pre W st A s t) : Good N t ∧ t.cy = s.cy ∧ t.R = s.R ∧ t.ws = s.ws := by
 rcases h with ⟨_,_,h⟩ | ⟨_,rfl⟩
 ·exact ⟨h.good hW hg,h.y,h.r,h.w⟩
 ·exact ⟨hg,rfl,rfl,rfl⟩
theorem Tried.good {N W : Int} {l : List (Int × Int)} {A : List Int} {s t : Hst} {b : Bool} {x : List Int} {o : List Gn} (hW : W = 32 * N) (hg : Good N s) (h : Tried W l A s b x o t) : Good N t ∧ t.cy ≤ s.cy + 4354 ∧ (b = true → x.length = l.length) ∧ o.length ≤ 139328 := by
 cases h with
 | quick x t h =>
  obtain ⟨h1,h2,h3⟩ := h.good hg
  have h4 := h2.cy
  exact ⟨h1,by omega,h3,Nat.zero_le _⟩
 | forced b x o1 o2 k1 k2 t1 t2 t3 t4 t5 h1 h2 p2 h3 h4 p4 h5 =>
  obtain ⟨g1,m1,_⟩ := h1.good hg
  have g2 := (h2.good hW g1).1
  have g3 := h3.good hW g2
  have g4 := (h4.good hW g3).1
  obtain ⟨g5,m5,e5⟩ := h5.good g4
  have c1 := m1.cy
  have c2 := h2.cyb hW g1
  have c3 := h3.y
  have c4 := h4.cyb hW g3
  have c5 := m5.cy
  exact ⟨g5,by omega,e5,by rw [List.length_append]; omega⟩
theorem Asst.good {N W : Int} {n : Nat} {s t : Hst} {o : List Gn} (hW : W = 32 * N) (hg : Good N s) (h : Asst W n s o t) : Good N t ∧ t.cy ≤ s.cy + 2177 ∧ o.length ≤ 69664 := by
 obtain ⟨k,_,hm,_⟩ := h
 have c := hm.cyb hW hg
 exact ⟨(hm.good hW hg).1,c.1,c.2.1⟩
theorem Alcd.good {N W st : Int} {n : Nat} {l : List (Int × Int)} {A : List Int} {s t : Hst} {x : List Int} {o : List Gn} {e : Int} (hW : W = 32 * N) (hg : Good N s) (h : Alcd W st n l A s x o e t) : Good N t ∧ t.cy ≤ s.cy + 7000 ∧ (e = 0 ∧ x.length = l.length ∨ e = 9 ∧ x = []) ∧ o.length ≤ 1000000 := by
 cases h with
 | ok x o1 o2 t0 t1 t h0 h1 h2 =>
  obtain ⟨g0,c0,_⟩ := h0.good hW hg
  obtain ⟨g1,c1,e1,l1⟩ := h1.good hW g0
  obtain ⟨g2,c2,l2⟩ := h2.good hW g1
  exact ⟨g2,by omega,.inl ⟨rfl,e1 rfl⟩,by rw [List.length_append]; omega⟩
 | room x o t0 t h0 h1 =>
  obtain ⟨g0,c0,_⟩ := h0.good hW hg
  obtain ⟨g1,c1,_,l1⟩ := h1.good hW g0
  exact ⟨g1,by omega,.inr ⟨rfl,rfl⟩,by omega⟩
structure Goes (s t : Hst) (A x : List Int) : Prop where
 nf : Nf t.R t.ws
 pr : ∀ a ∈ A,Prot s a → Prot t a
 px : ∀ a ∈ x,Prot t a
 nw : ∀ a ∈ x,a ∈ A → ¬ Prot s a
 xn : x.Nodup
 kf : ∀ a ∈ A,Prot s a → ∀ k l,Kept s.R s.ws a k l → Kept t.R t.ws a k l
 lf : ∀ a ∈ A,Prot s a → ∀ i w,Loaded s.R s.ws a i w 0 → Loaded t.R t.ws a i w 0
 dl : ∀ b i w,Loaded t.R t.ws b i w 0 → (b ∈ x ∧ w = 0) ∨ Loaded s.R s.ws b i w 0
 dk : ∀ b k l,Kept t.R t.ws b k l → b ∈ x ∨ Kept s.R s.ws b k l
theorem Goes.refl {s : Hst} (A : List Int) (h : Nf s.R s.ws) : Goes s s A [] :=
 ⟨h,fun _ _ q => q,fun a q => (by cases q),fun a q => (by cases q),List.nodup_nil,fun _ _ _ _ _ q => q,fun _ _ _ _ _ q => q,fun _ _ _ q => .inr q,fun _ _ _ q => .inr q⟩
theorem Goes.shr {s t : Hst} {A : List Int} (hA2 : AOk t.R t.ws) (hn : Nf s.R s.ws) (h : Shr s t) (hp : ∀ a ∈ A,Prot s a → Prot t a) : Goes s t A [] :=
 ⟨h.nf hn,hp,fun a q => (by cases q),fun a q => (by cases q),List.nodup_nil,fun a ha hq k l hk => kept_to hA2 h.k (hp a ha hq).1 hk,fun a ha hq i w hl => loaded_fw hA2 h.k h.w (hp a ha hq).1 hl,fun b i w hl => .inr (loaded_to h.k h.w hl),fun b k l hk => .inr (h.k b k l hk)⟩
theorem Goes.many {N W : Int} {s t : Hst} {n : Nat} {out : List Gn} (A : List Int) (hW : W = 32 * N) (hg : Good N s) (hn : Nf s.R s.ws) (hm : Many W s n out t) : Goes s t A [] :=
 .shr (hm.good hW hg).1.a hn (hm.nf hW hg hn).1 (fun a _ h => h.many hW hg hm)
theorem Goes.bgn {N W : Int} {s t : Hst} {A B : List Int} (hW : W = 32 * N) (hg : Good N s) (hn : Nf s.R s.ws) (h : Bgn W s B t) (hB : ∀ a ∈ A,a ∈ B) : Goes s t A [] :=
 .shr (h.good hW hg).a hn h.shr (fun a ha hp => h.prot hW hg (hB a ha) hp.1)
theorem Goes.more {s t : Hst} {x : List Int} (A : List Int) (hA : AOk s.R s.ws) (hn : Nf s.R s.ws) (h : More s t x) : Goes s t A x := by
 refine ⟨fun a l w hk hl => ?_,fun a _ hp => hp.more h,fun a ha => .new h ha,fun a ha _ hp => h.new a ha hp.1,h.nd,fun a _ _ k l hk => h.kept a k l hk,fun a _ _ i w hl => h.ld a i w hl,h.dl,fun b k l hk => ?_⟩
 ·rcases h.dl a 1 w hl with ⟨_,q⟩ | q
  ·exact q
  ·have q0 := q
   cases q with
   | ok k2 l2 _ hK _ _ =>
    have e := ((h.kept a k2 l2 hK).det9 hk).1
    subst e
    exact hn a l2 w hK q0
 ·rcases (h.obj b).1 ((obj_iff h.a b).2 hk.obj6) with q | q
  ·obtain ⟨k2,l2,h2⟩ := Kept.of hA ((obj_iff hA b).1 q)
   obtain ⟨e1,e2⟩ := (h.kept b k2 l2 h2).det9 hk
   exact .inr (by rw [← e1,← e2]; exact h2)
  ·exact .inl q
theorem Goes.then {s t u : Hst} {A x : List Int} (h : Goes s t A []) (h2 : Goes t u A x) : Goes s u A x :=
 ⟨h2.nf,fun a ha hp => h2.pr a ha (h.pr a ha hp),h2.px,fun a ha hA hp => h2.nw a ha hA (h.pr a hA hp),h2.xn,fun a ha hp k l hk => h2.kf a ha (h.pr a ha hp) k l (h.kf a ha hp k l hk),fun a ha hp i w hl => h2.lf a ha (h.pr a ha hp) i w (h.lf a ha hp i w hl),fun b i w hl => (h2.dl b i w hl).imp id fun q => (h.dl b i w q).elim (fun k => by cases k.1) id,fun b k l hk => (h2.dk b k l hk).imp id fun q => (h.dk b k l q).elim (fun k => by cases k) id⟩
theorem Goes.past {s t u : Hst} {A x : List Int} (h : Goes s t A x) (h2 : Goes t u (A ++ x) []) : Goes s u A x :=
 ⟨h2.nf,fun a ha hp => h2.pr a (List.mem_append_left _ ha) (h.pr a ha hp),fun a ha => h2.pr a (List.mem_append_right _ ha) (h.px a ha),h.nw,h.xn,fun a ha hp k l hk => h2.kf a (List.mem_append_left _ ha) (h.pr a ha hp) k l (h.kf a ha hp k l hk),fun a ha hp i w hl => h2.lf a (List.mem_append_left _ ha) (h.pr a ha hp) i w (h.lf a ha hp i w hl),fun b i w hl => h.dl b i w ((h2.dl b i w hl).elim (fun k => by cases k.1) id),fun b k l hk => h.dk b k l ((h2.dk b k l hk).elim (fun k => by cases k) id)⟩
theorem Pre.goes {N W st : Int} {A : List Int} {s t : Hst} (hW : W = 32 * N) (hg : Good N s) (hn : Nf s.R s.ws) (h : Pre W st A s t) : Goes s t A [] := by
 rcases h with ⟨_,_,h⟩ | ⟨_,rfl⟩
 ·exact .bgn hW hg hn h (fun a ha => ha)
 ·exact .refl _ hn
structure Whole (N W : Int) (l : List (Int × Int)) (A : List Int) (s t2 t4 t : Hst) (b : Bool) (x : List Int) : Prop where
 g0 : ∃ t1,Allot s l false [] t1
 g2 : Good N t2
 a2 : Goes s t2 A []
 g4 : Good N t4
 a4 : Goes t2 t4 A []
 p4 : t4.ph = 0
 ob : ∀ y,y ∈ objs t4.R ↔ Rch t2.R t2.ws A y
 al : Allot t4 l b x t
 mo : ∀ c,(∀ p ∈ l,ofN p.2 = c) → Mono c s.R → Mono c t4.R
 kp : objCount t4.R ≤ objCount s.R
theorem Tried.whole {N W : Int} {l : List (Int × Int)} {A : List Int} {s t : Hst} {b : Bool} {x : List Int} {o : List Gn} (hW : W = 32 * N) (hg : Good N s) (hn : Nf s.R s.ws) (h : Tried W l A s b x o t) : keptOf o = [] ∧ ((b = true ∧ o = [] ∧ Allot s l true x t) ∨ ∃ t2 t4,Whole N W l A s t2 t4 t b x ∧ objCount t4.R + (goneOf o).length = objCount s.R) := by
 cases h with
 | quick x t h => exact ⟨rfl,.inl ⟨rfl,rfl,h⟩⟩
 | forced b x o1 o2 k1 k2 t1 t2 t3 t4 t5 h1 h2 p2 h3 h4 p4 h5 =>
  obtain ⟨g1,m1,_⟩ := h1.good hg
  have a1 := Goes.more A hg.a hn m1
  have g2 := (h2.good hW g1).1
  have a2 := Goes.many A hW g1 a1.nf h2
  have q1 := (h2.nf hW g1 a1.nf).2
  rw [q1,List.append_nil] at h3
  have g3 := h3.good hW g2
  have a3 := Goes.bgn hW g2 a2.nf h3 (fun a ha => ha)
  have g4 := (h4.good hW g3).1
  have a4 := Goes.many A hW g3 a3.nf h4
  have q2 := (h4.nf hW g3 a3.nf).2
  have c1 := m1.cnt
  have c2 := h2.count hW g1
  have c3 : objCount t3.R = objCount t2.R := by rw [h3.r]
  have c4 := h4.count hW g3
  have hmo : ∀ c,(∀ p ∈ l,ofN p.2 = c) → Mono c s.R → Mono c t1.R := by
   intro c hl hc
   cases h1 with
   | no i k n a e y u R R' ws hi h ha he hb => exact (hc.alls (fun p hp => hl p (List.mem_of_mem_take hp)) h).backs hb
  have hmo2 : ∀ c,(∀ p ∈ l,ofN p.2 = c) → Mono c s.R → Mono c t4.R := by
   intro c hl hc
   have k1 := (hmo c hl hc).many h2
   exact Mono.many (by rw [h3.r]; exact k1) h4
  have c0 : objCount t1.R = objCount s.R := m1.cnt
  have cx : objCount t4.R + (goneOf (o1 ++ o2)).length = objCount s.R := by rw [goneOf_app,List.length_append]; omega
  refine ⟨by rw [keptOf_app,q1,q2]; rfl,.inr ⟨t2,t4,⟨⟨t1,h1⟩,g2,a1.then a2,g4,a3.then a4,p4,h4.whole hW g2 a2.nf h3 p4,h5,hmo2,by omega⟩,cx⟩⟩
theorem Allot.goes {N : Int} {s t : Hst} {l : List (Int × Int)} {x : List Int} {b : Bool} (A : List Int) (hg : Good N s) (hn : Nf s.R s.ws) (h : Allot s l b x t) : Goes s t A x := by
 cases h with
 | ok x t h => exact .more A hg.a hn (h.more hg.a hg.n hg.c).1
 | no i k n a e y u R R' ws hi h ha he hb => exact .more A hg.a hn (Backs.more hg.a (h.more hg.a hg.n hg.c).1 hb)
theorem Tried.goes {N W : Int} {l : List (Int × Int)} {A : List Int} {s t : Hst} {b : Bool} {x : List Int} {o : List Gn} (hW : W = 32 * N) (hg : Good N s) (hn : Nf s.R s.ws) (h : Tried W l A s b x o t) : Goes s t A x := by
 rcases (h.whole hW hg hn).2 with ⟨_,_,k⟩ | ⟨t2,t4,k,_⟩
 ·exact k.goes A hg hn
 ·exact (k.a2.then k.a4).then (k.al.goes A k.g4 k.a4.nf)
theorem Asst.goes {N W : Int} {n : Nat} {s t : Hst} {o : List Gn} (A : List Int) (hW : W = 32 * N) (hg : Good N s) (hn : Nf s.R s.ws) (h : Asst W n s o t) : Goes s t A [] ∧ keptOf o = [] := by
 obtain ⟨k,_,hm,_⟩ := h
 exact ⟨.many A hW hg hn hm,(hm.nf hW hg hn).2⟩
theorem Alcd.goes {N W st : Int} {n : Nat} {l : List (Int × Int)} {A : List Int} {s t : Hst} {x : List Int} {o : List Gn} {e : Int} (hW : W = 32 * N) (hg : Good N s) (hn : Nf s.R s.ws) (h : Alcd W st n l A s x o e t) : Goes s t A x ∧ keptOf o = [] := by
 cases h with
 | ok x o1 o2 t0 t1 t h0 h1 h2 =>
  have g0 := (h0.good hW hg).1
  have a0 := h0.goes hW hg hn
  have g1 := (h1.good hW g0).1
  have a1 := h1.goes hW g0 a0.nf
  have k1 := (h1.whole hW g0 a0.nf).1
  have a2 := h2.goes (A ++ x) hW g1 a1.nf
  exact ⟨(a0.then a1).past a2.1,by rw [keptOf_app,k1,a2.2]; rfl⟩
 | room x o t0 t h0 h1 =>
  have g0 := (h0.good hW hg).1
  have a0 := h0.goes hW hg hn
  have a1 := h1.goes hW g0 a0.nf
  have k1 := (h1.whole hW g0 a0.nf).1
  have hx : x = [] := by
   cases h1 with
   | forced b x o1 o2 k1 k2 t1 t2 t3 t4 t5 h1 h2 p2 h3 h4 p4 h5 => cases h5; rfl
  subst hx
  exact ⟨a0.then a1,k1⟩
theorem gpv_cellsV (l : List Gn) : ∀ (i : Nat) (g : Gn),l[i]? = some g → (gpv l)[4 * i]? = some (.int .i64 (.sym g.1)) ∧ (gpv l)[4 * i + 1]? = some (.int .i64 (.sym g.2.1)) ∧ (gpv l)[4 * i + 2]? = some (.vsl (.sym (g.2.2.1.length : Int)) true (ipv g.2.2.1)) ∧ (gpv l)[4 * i + 3]? = some (.bool g.2.2.2) := by
 induction l with
 | nil => intro i g h; simp at h
 | cons x l ih =>
  intro i g h
  cases i with
  | zero => simp at h; subst h; exact ⟨rfl,rfl,rfl,rfl⟩
  | succ i =>
   have h2 := ih i g (by simpa using h)
   rw [show 4 * (i + 1) = (4 * i) + 4 by omega]
   exact h2
theorem keptOfV_take {out : List Gn} {j : Nat} {g : Gn} (h : out[j]? = some g) : keptOf (out.take (j + 1)) = keptOf (out.take j) ++ (if g.2.2.2 = true then [g.2.1] else []) := by
 unfold keptOf
 rw [List.take_add_one,h,List.filter_append,List.map_append]
 congr 1
 cases hb : g.2.2.2 <;> simp [hb]
theorem steps_lx (R : List Rw) (ws C G : List Int) (N W ph sp cy : Int) (L D Q : List PV) (z : ByteArray) (ov : Bool) (h : HM R ws C G N W L D Q z) (o : Unit → Obj) (ho : IsPow o) (hg : Good N ⟨R,ws,C,G,ov,ph,sp,cy⟩) (hcy : cy ≤ 900000000) (c : Int) (hc0 : 0 ≤ c) (hc1 : c ≤ 1000000000) :
  CallF (fun _ => Tryz.prog) 60 [.ptr 0 (.lit 0),i6 c] [hpA 0 1 5 6 3 W ph sp cy,hpB 1 2 4 3 W,hpC 2 3 137 2 N,hpP 3 L,hpP 4 D,hpF 5 z ov,hpP 6 Q,(7,.fix 0 o)] 8 (fun r h n => ∃ (out : List Gn) (m ph2 : Int) (cells : List PV) (Rh : List Rw) (wh Ch Gh : List Int) (ovh : Bool) (sp2 cy2 : Int) (Lh Dh Qh : List PV) (zh : ByteArray),r = .p (.vsl (.sym m) true cells) ∧ h = [hpA 0 1 5 6 3 W ph2 sp2 cy2,hpB 1 2 4 3 W,hpC 2 3 137 2 N,hpP 3 Lh,hpP 4 Dh,hpF 5 zh ovh,hpP 6 Qh,(7,.fix 0 o)] ∧ n = 8 ∧ HM Rh wh Ch Gh N W Lh Dh Qh zh ∧ cells = gpv out ∧ m = out.length ∧ Asst W c.toNat ⟨R,ws,C,G,ov,ph,sp,cy⟩ out ⟨Rh,wh,Ch,Gh,ovh,ph2,sp2,cy2⟩) := by
 have hW := h.w
 have hN2 := hg.n2
 have hl0 := hg.left_le
 refine callF_of_body tok Tryz.func60 (by kernel_rfl) rfl rfl rfl ?_; conv => cbv
 refine LoopF.mk (fun kk s => ∃ (i m ph2 : Int) (out : List Gn) (cells : List PV) (k : Nat) (Rh : List Rw) (wh Ch Gh : List Int) (ovh : Bool) (sp2 cy2 : Int) (Lh Dh Qh : List PV) (zh : ByteArray),s = ⟨.ptr 0 (.lit 0) :: (undefs 3 ++ .p .nils :: .sl 8 40 4 (.lit 0) (.sym m) :: .p (.int .i64 (.sym c)) :: .p (.int .i64 (.sym i)) :: undefs 10),[hpA 0 1 5 6 3 W ph2 sp2 cy2,hpB 1 2 4 3 W,hpC 2 3 137 2 N,hpP 3 Lh,hpP 4 Dh,hpF 5 zh ovh,hpP 6 Qh,(7,.fix 0 o),hpP 8 cells],9⟩ ∧ HM Rh wh Ch Gh N W Lh Dh Qh zh ∧ cells = gpv out ∧ m = out.length ∧ Many W ⟨R,ws,C,G,ov,ph,sp,cy⟩ k out ⟨Rh,wh,Ch,Gh,ovh,ph2,sp2,cy2⟩ ∧ 0 ≤ i ∧ i ≤ c ∧ k ≤ i.toNat ∧ (k = i.toNat ∨ ph2 = 0) ∧ kk = (c - i).toNat) c.toNat _
  (Re.at [(0,0),(1,1),(2,2),(3,3),(4,4),(5,5),(6,6),(7,7)] [8]) ⟨0,0,ph,[],[],0,R,ws,C,G,ov,sp,cy,L,D,Q,z,rfl,h,rfl,rfl,.zero,by omega,hc0,Nat.zero_le _,.inl rfl,by omega⟩ ?_
 rintro kk s ⟨i,m,ph2,out,cells,k,Rh,wh,Ch,Gh,ovh,sp2,cy2,Lh,Dh,Qh,zh,rfl,hh,hcells,hml,hm,hi0,hi1,hki,hkp,hkk⟩
 obtain ⟨hgh,hlh,hch,hoh⟩ := hm.good hW hg
 have hgs0 : 0 ≤ sp2 := hgh.p.1
 have hgs1 : sp2 ≤ N := hgh.p.2
 have hgy : 0 ≤ cy2 := hgh.y
 have hch : cy2 ≤ cy + k := hch
 have hlb := hgh.left0
 conv => cbv
 refine Br.mk (fun q => ?_) (fun q => ?_)
 case refine_2 =>
  have q : ¬ i < c := q
  conv => cbv
  refine RetF.mk [.p (.vsl (.sym m) true cells)] [hpA 0 1 5 6 3 W ph2 sp2 cy2,hpB 1 2 4 3 W,hpC 2 3 137 2 N,hpP 3 Lh,hpP 4 Dh,hpF 5 zh ovh,hpP 6 Qh,(7,.fix 0 o)] 8 (Re.at [(0,0),(1,1),(2,2),(3,3),(4,4),(5,5),(6,6),(7,7)] []) rfl ⟨out,m,ph2,cells,Rh,wh,Ch,Gh,ovh,sp2,cy2,Lh,Dh,Qh,zh,rfl,rfl,rfl,hh,hcells,hml,k,by omega,hm,by rw [show c.toNat = i.toNat by omega]; exact hkp⟩
 have q : i < c := q
 conv => cbv
 refine cfr (phase_lx Rh wh Ch Gh N W ph2 sp2 cy2 Lh Dh Qh zh ovh) [(0,0),(1,1),(2,2),(3,3),(4,4),(5,5),(6,6)] (fun r h' n' ⟨e1,e2,e3⟩ => ?_)
 subst e1 e2 e3
 conv => cbv
 refine Br.mk (fun q2 => ?_) (fun q2 => ?_)
 case refine_2 =>
  have q2 : ph2 = 0 := Classical.byContradiction q2
  conv => cbv
  refine Fit.mk (by show (-9223372036854775808 : Int) ≤ i + 1; omega) (by show i + 1 ≤ 9223372036854775807; omega) fun i2 hi2 => ?_
  have hi2 : i2 = i + 1 := hi2
  conv => cbv
  refine Again.mk (c - i2).toNat _ (by omega) (Re.at [(0,0),(1,1),(2,2),(3,3),(4,4),(5,5),(6,6),(7,7),(8,8)] []) ⟨i2,m,ph2,out,cells,k,Rh,wh,Ch,Gh,ovh,sp2,cy2,Lh,Dh,Qh,zh,rfl,hh,hcells,hml,hm,by omega,by omega,by omega,.inr q2,rfl⟩
 have q2 : ¬ ph2 = 0 := q2
 have hki2 : k = i.toNat := hkp.resolve_right q2
 conv => cbv
 refine cfr (step_lx Rh wh Ch Gh N W ph2 sp2 cy2 Lh Dh Qh zh ovh hh o ho ⟨hgs0,by omega⟩ ⟨hgy,by omega⟩) [(0,0),(1,1),(2,2),(3,3),(4,4),(5,5),(6,6),(7,7)] (fun r h' n' hrr => ?_)
 obtain ⟨o2,kx,ph',sp',cy',R2,w2,C2,G2,ov2,cells',Lx,Dx,Qx,z2,e1,e2,e3,h2,hcs2,hkx,hst⟩ := hrr
 subst e1 e2 e3
 have hm2 := Many.succ k out o2 ⟨Rh,wh,Ch,Gh,ovh,ph2,sp2,cy2⟩ ⟨R2,w2,C2,G2,ov2,ph',sp',cy'⟩ hm q2 hst
 obtain ⟨hgg,hlt,hcl,hol⟩ := hm2.good hW hg
 have hg2l := hgg.left0.1
 have hlt2 : Hst.left N ⟨R2,w2,C2,G2,ov2,ph',sp',cy'⟩ < Hst.left N ⟨Rh,wh,Ch,Gh,ovh,ph2,sp2,cy2⟩ := (Good.step (t := ⟨R2,w2,C2,G2,ov2,ph',sp',cy'⟩) hgh hW q2 hst).2.1
 conv => cbv
 have hcl2 : cells'.length = 4 * o2.length := by rw [hcs2,gpv_length]
 have hcl1 : cells.length = 4 * out.length := by rw [hcells,gpv_length]
 rw [List.length_append] at hol
 refine Need.mk (by show (cells'.length : Int) = kx * 4; omega) ?_
 conv => cbv
 refine Room.new ⟨by show (cells.length : Int) = m * 4; omega,by show (m + kx) * 48 ≤ 140737488355328; omega,by show m + kx ≤ 9223372036854775807; omega⟩ ?_
 conv => cbv
 refine Upd.mk fun c2 hc2 => ?_
 have hc2 : c2 = gpv (out ++ o2) := by rw [show c2 = cells ++ cells' from hc2,hcells,hcs2,gpv_app]
 conv => cbv
 refine Sum.mk fun m2 hm3 => ?_
 have hm4 : m2 = ((out ++ o2).length : Int) := by rw [show m2 = m + kx from hm3,hml,hkx,List.length_append]; rfl
 conv => cbv
 refine Fit.mk (by show (-9223372036854775808 : Int) ≤ i + 1; omega) (by show i + 1 ≤ 9223372036854775807; omega) fun i2 hi2 => ?_
 have hi2 : i2 = i + 1 := hi2
 conv => cbv
 refine Again.mk (c - i2).toNat _ (by omega) (Re.at [(0,0),(1,1),(2,2),(3,3),(4,4),(5,5),(6,6),(7,7),(9,8)] []) ⟨i2,m2,ph',out ++ o2,c2,k + 1,R2,w2,C2,G2,ov2,sp',cy',Lx,Dx,Qx,z2,rfl,h2,hc2,hm4,hm2,by omega,by omega,by omega,.inl (by omega),rfl⟩
theorem look21_lx (k a q : Int) (ws : List PV) (b : Bool) : CallF (fun _ => Tryz.prog) 124 [.agg [i6 k,i6 a,.p (.vsl (.sym q) true ws),.p (.bool b)]] [] 0 (fun r h n => (b = true ∧ r = .iface 161 (.agg [i6 a]) ∨ b = false ∧ r = .iface 165 (.agg [])) ∧ h = [] ∧ n = 0) := by
 cases b with
 | false =>
  refine callF_of_body tok Tryz.func124 (by kernel_rfl) rfl rfl rfl ?_; conv => cbv
  refine RetF.mk [.iface 165 (.agg [])] [] 0 (Re.at [] []) rfl ⟨.inr ⟨rfl,rfl⟩,rfl,rfl⟩
 | true =>
  refine callF_of_body tok Tryz.func124 (by kernel_rfl) rfl rfl rfl ?_; conv => cbv
  refine RetF.mk [.iface 161 (.agg [i6 a])] [] 0 (Re.at [] []) rfl ⟨.inl ⟨rfl,rfl⟩,rfl,rfl⟩
theorem keptOf_lx (out : List Gn) (k : Int) (cells : List PV) (hk : k = out.length) (hcs : cells = gpv out) (hl : out.length ≤ 1000000) : CallF (fun _ => Tryz.prog) 100 [.p (.vsl (.sym k) true cells)] [] 0 (fun r h n => ∃ (m : Int) (T : List PV),r = .sl 0 3 1 (.lit 0) (.sym m) ∧ h = [hpP 0 T] ∧ n = 1 ∧ T = ipv (keptOf out) ∧ m = (keptOf out).length) := by
 have hcl : cells.length = 4 * out.length := by rw [hcs,gpv_length]
 refine callF_of_body tok Tryz.func100 (by kernel_rfl) rfl rfl rfl ?_; conv => cbv
 refine LoopF.mk (fun kk s => ∃ (i m : Int) (T : List PV),s = ⟨undefs 2 ++ .p .nils :: .sl 0 3 1 (.lit 0) (.sym m) :: (undefs 4 ++ .p (.vsl (.sym k) true cells) :: .p (.int .i64 (.sym k)) :: .p (.int .i64 (.sym i)) :: undefs 17),[hpP 0 T],1⟩ ∧ 0 ≤ i ∧ i ≤ k ∧ T = ipv (keptOf (out.take i.toNat)) ∧ m = (keptOf (out.take i.toNat)).length ∧ kk = (k - i).toNat) k.toNat _
  (Re.at [] [0]) ⟨0,0,[],rfl,by omega,by omega,rfl,rfl,by omega⟩ ?_
 rintro kk s ⟨i,m,T,rfl,hi0,hi1,hT,hm,hkk⟩
 have hTl : T.length = (keptOf (out.take i.toNat)).length := by rw [hT,ipv_length]
 have hkl : (keptOf (out.take i.toNat)).length ≤ out.length := by
  have h1 := gone_kept (out.take i.toNat)
  rw [List.length_take] at h1
  omega
 conv => cbv
 refine Br.mk (fun q => ?_) (fun q => ?_)
 case refine_2 =>
  have q : ¬ i < k := q
  rw [List.take_of_length_le (by omega : out.length ≤ i.toNat)] at hT hm
  conv => cbv
  refine RetF.mk [.sl 0 3 1 (.lit 0) (.sym m)] [hpP 0 T] 1 (Re.at [(0,0)] []) rfl ⟨m,T,rfl,rfl,rfl,hT,hm⟩
 have q : i < k := q
 obtain ⟨⟨g1,g2,g3,g4⟩,hg⟩ : ∃ p,out[i.toNat]? = some p := ⟨_,List.getElem?_eq_getElem (by omega)⟩
 have hcc := gpv_cellsV out i.toNat _ hg
 rw [← hcs] at hcc
 dsimp only at hcc
 obtain ⟨q3,hq3⟩ : ∃ q : Int,q = ((g3.length : Nat) : Int) := ⟨_,rfl⟩
 obtain ⟨c3,hc3⟩ : ∃ c,c = ipv g3 := ⟨_,rfl⟩
 rw [← hq3,← hc3] at hcc
 conv => cbv
 refine Need.mk ⟨by show 0 ≤ i; omega,by show i < k; omega⟩ ?_
 conv => cbv
 refine Sum.mk fun w hw => ?_
 have hw : w = i * 4 := hw
 conv => cbv
 refine Cell.at (w + 0) _ hcc.1 rfl (by omega) ?_
 conv => cbv
 refine Cell.at (w + 1) _ hcc.2.1 rfl (by omega) ?_
 conv => cbv
 refine Cell.at (w + 2) _ hcc.2.2.1 rfl (by omega) ?_
 conv => cbv
 refine Cell.at (w + 3) _ hcc.2.2.2 rfl (by omega) ?_
 conv => cbv
 refine cfr (look21_lx g1 g2 q3 c3 g4) [] (fun r h' n' hrr => ?_)
 obtain ⟨hres,e2,e3⟩ := hrr
 subst e2 e3
 have htk := keptOfV_take hg
 dsimp only at htk
 have hi2n : (i + 1).toNat = i.toNat + 1 := by omega
 rcases hres with ⟨hb4,e1⟩ | ⟨hb4,e1⟩
 ·subst hb4 e1
  rw [if_pos rfl] at htk
  conv => cbv
  refine Room.new rfl ?_
  conv => cbv
  refine Room.new ⟨by show (T.length : Int) = m * 1; omega,by show (m + 1) * 8 ≤ 140737488355328; omega,by show m + 1 ≤ 9223372036854775807; omega⟩ ?_
  conv => cbv
  refine Upd.mk fun T2 hT2 => ?_
  have hT2 : T2 = ipv (keptOf (out.take (i.toNat + 1))) := by rw [show T2 = T ++ [.int .i64 (.sym g2)] from hT2,htk,← ipv_app,← hT]; rfl
  conv => cbv
  refine Sum.mk fun m2 hm2 => ?_
  have hm2 : m2 = (keptOf (out.take (i.toNat + 1))).length := by rw [show m2 = m + 1 from hm2,hm,htk,List.length_append]; rfl
  conv => cbv
  refine Fit.mk (by show (-9223372036854775808 : Int) ≤ i + 1; omega) (by show i + 1 ≤ 9223372036854775807; omega) fun i2 hi2 => ?_
  have hi2 : i2 = i + 1 := hi2
  conv => cbv
  refine Again.mk (k - i2).toNat _ (by omega) (Re.at [(4,0)] []) ⟨i2,m2,T2,rfl,by omega,by omega,by rw [show i2.toNat = i.toNat + 1 by omega]; exact hT2,by rw [show i2.toNat = i.toNat + 1 by omega]; exact hm2,rfl⟩
 ·subst hb4 e1
  rw [if_neg (by decide),List.append_nil] at htk
  conv => cbv
  refine Fit.mk (by show (-9223372036854775808 : Int) ≤ i + 1; omega) (by show i + 1 ≤ 9223372036854775807; omega) fun i2 hi2 => ?_
  have hi2 : i2 = i + 1 := hi2
  conv => cbv
  refine Again.mk (k - i2).toNat _ (by omega) (Re.at [(0,0)] []) ⟨i2,m,T,rfl,by omega,by omega,by rw [show i2.toNat = i.toNat + 1 by omega,htk]; exact hT,by rw [show i2.toNat = i.toNat + 1 by omega,htk]; exact hm,rfl⟩
theorem Re.cut {n0 : Nat} {s s' : LS} (b : Nat) (sy : Bool) (T T' : List PV) (hb : hget s.h b = some (.pure sy T)) (hp : T' <+: T) (h : Re n0 { s with h := hset s.h b (.pure true T') } s') : Re n0 s s' := by
 obtain ⟨h⟩ := h
 refine ⟨fun c0 w0 c a w hN he hs => h c0 w0 c a w hN he ⟨hs.tl,hs.tr,hs.df,⟨fun b' B hB => ?_,hs.hr.fresh,hs.hr.inj,hs.hr.noX,hs.hr.ltX,hs.hr.lt⟩,hs.nn⟩⟩
 have hB : hget (hset s.h b (.pure true T')) b' = some B := hB
 rw [hget_set hb] at hB
 by_cases e : b' = b
 ·rw [if_pos e] at hB
  cases hB
  rw [e]
  obtain ⟨m,hm,hBR⟩ := hs.hr.live b _ hb
  refine ⟨m,hm,?_⟩
  obtain ⟨T2,hT2⟩ := hp
  cases m with
  | none =>
   have hBR : T = [] := hBR
   rw [hBR] at hT2
   exact (List.append_eq_nil_iff.1 hT2).1
  | some r =>
   obtain ⟨cur,ty,h1,h2,h3⟩ := hBR
   have hl : T'.length ≤ T.length := by rw [← hT2,List.length_append]; omega
   exact ⟨cur,ty,h1,by omega,fun j u hu => h3 j u (by rw [← hT2,List.getElem?_append_left (List.getElem?_eq_some_iff.1 hu).1]; exact hu)⟩
 ·rw [if_neg e] at hB
  exact hs.hr.live b' B hB
def ptrs : List Int → List Int
 | [] => []
 | w :: X => if w % 2 = 1 then (w - 1) / 2 :: ptrs X else ptrs X
theorem ptrs_app (X Y : List Int) : ptrs (X ++ Y) = ptrs X ++ ptrs Y := by
 induction X with
 | nil => rfl
 | cons w X ih =>
  show (if w % 2 = 1 then (w - 1) / 2 :: ptrs (X ++ Y) else ptrs (X ++ Y)) = (if w % 2 = 1 then (w - 1) / 2 :: ptrs X else ptrs X) ++ ptrs Y
  rw [ih]
  split <;> rfl
theorem ptrs_len (X : List Int) : (ptrs X).length ≤ X.length := by
 induction X with
 | nil => exact Nat.le_refl _
 | cons w X ih =>
  unfold ptrs
  split
  ·simp only [List.length_cons]; omega
  ·simp only [List.length_cons]; omega
theorem ptrs_mem {X : List Int} {b : Int} : b ∈ ptrs X ↔ ∃ w ∈ X,w % 2 = 1 ∧ b = (w - 1) / 2 := by
 induction X with
 | nil => exact ⟨fun h => (by cases h),fun ⟨w,h,_⟩ => (by cases h)⟩
 | cons w X ih =>
  unfold ptrs
  split
  ·rename_i hw
   rw [List.mem_cons,ih]
   constructor
   ·rintro (h | ⟨v,h1,h2⟩)
    ·exact ⟨w,List.mem_cons_self,hw,h⟩
    ·exact ⟨v,List.mem_cons_of_mem _ h1,h2⟩
   ·rintro ⟨v,h1,h2,h3⟩
    rcases List.mem_cons.1 h1 with h | h
    ·subst h; exact .inl h3
    ·exact .inr ⟨v,h,h2,h3⟩
  ·rename_i hw
   rw [ih]
   constructor
   ·rintro ⟨v,h1,h2⟩; exact ⟨v,List.mem_cons_of_mem _ h1,h2⟩
   ·rintro ⟨v,h1,h2,h3⟩
    rcases List.mem_cons.1 h1 with h | h
    ·subst h; exact absurd h2 hw
    ·exact ⟨v,h,h2,h3⟩
theorem ptrs_take {X : List Int} {i : Nat} {w : Int} (h : X[i]? = some w) : ptrs (X.take (i + 1)) = ptrs (X.take i) ++ (if w % 2 = 1 then [(w - 1) / 2] else []) := by
 rw [List.take_add_one,h,ptrs_app]; rfl
def Brk (R : List Rw) (ws : List Int) (a : Int) : Prop := ∃ i w : Int,Loaded R ws a i w 0 ∧ w % 2 = 1 ∧ ¬ (w - 1) / 2 ∈ objs R
theorem loaded_okL {R : List Rw} {ws : List Int} {a k l i x e : Int} (h : Kept R ws a k l) (hi : 0 ≤ i ∧ i < l) (hv : Loaded R ws a i x e) : e = 0 ∧ ws[(a + 1 + i).toNat]? = some x := by
 cases hv with
 | none hn => obtain ⟨w,hw,_⟩ := h; exact absurd (isObj_iff.2 ⟨w,hw⟩) hn
 | arg k' l' h' hi' => rw [(h.det9 h').2] at hi; exact absurd hi hi'
 | ok k' l' _ h' hi' hx => exact ⟨rfl,hx⟩
end Go.Proofs.YtpbhcdbkmmjimaaGreatDoor
namespace Go.Proofs
open Go.Shelf
set_option maxHeartbeats 32000000
def Tryz.laysNm215_ren : Go.Shelf.Ren := ⟨fun | 15 => 99 | n => n,fun | 22 => 34 | 3 => 3 | 4 => 4 | n => n,fun | n => n⟩
theorem Tryz.laysNm215 : Go.Proofs.Lays2.n15 Tryz.prog Tryz.laysNm215_ren := {
 mixed := by kernel_rfl
 f15 := Tryz.func99.trans (congrArg some (by kernel_rfl))
 t3 := Tryz.underlying3
 a3 := Tryz.isAgg3
 z3 := Tryz.sizeOf3
 v3 := Tryz.zeroValue3
 t4 := Tryz.underlying4
 a4 := Tryz.isAgg4
 z4 := Tryz.sizeOf4
 v4 := Tryz.zeroValue4
 t22 := Tryz.underlying34
 a22 := Tryz.isAgg34
 z22 := Tryz.sizeOf34
 v22 := Tryz.zeroValue34
 i3 := by kernel_rfl }
open Go.RowKit Go.Lib in
theorem Tryz.slices_Clone_int (b off n c : Nat) (zs : List Int) (w : World) (hz : n ≤ zs.length) (hbig : n * 8 ≤ 140737488355328) (hc : ∀ j,j < zs.length → w.cell? ⟨b,off + j,none⟩ = some (.int .i64 (zs.getD j 0))) :
  Calls Tryz.prog 99 #[.slice (some ⟨b,off,none⟩) n c] w fun e w' => ∃ v',e = .returned v' ∧ w'.ownsRow w.heap.size 3 1 v' n ((zs.take n).map (Value.int .i64)) ∧ v' ≠ .slice none 0 0 ∧ Below w.heap.size w w' := Any.slices_Clone_int Tryz.laysNm215 b off n c zs w hz hbig hc
open Go.RowKit Go.Lib in
theorem Tryz.slices_Clone_int_nil (n c : Nat) (w : World) :
  Calls Tryz.prog 99 #[.slice none n c] w fun e w' => e = .returned (.slice none 0 0) ∧ w' = w := Any.slices_Clone_int_nil Tryz.laysNm215 n c w
open Go.RowKit Go.Lib in
theorem Tryz.slices_Clone_int_zero (a : Addr) (c : Nat) (w : World) :
  Calls Tryz.prog 99 #[.slice (some a) 0 c] w fun e w' => ∃ v',e = .returned v' ∧ w'.ownsRow w.heap.size 3 1 v' 0 [] ∧ v' ≠ .slice none 0 0 ∧ Below w.heap.size w w' := Any.slices_Clone_int_zero Tryz.laysNm215 a c w
end Go.Proofs
namespace Go.Proofs.YtpbhcdbkmmjimaaGreatDoor
open Go Go.LX
set_option maxRecDepth 100000
set_option linter.unusedVariables false
set_option linter.unusedSimpArgs false
set_option maxHeartbeats 32000000
open Go.RowKit in
theorem HR.owned {c : Ctx} {w w' : World} {h : LH} (hr : HR c w h) (hb : Below w.heap.size w w') (g : Nat) (hg : w.heap.size ≤ g) (hg2 : g < w'.heap.size) {B : LB} (hB : BR (c.grow (some g)) w' B (some g)) : Ext c w (c.grow (some g)) w' ∧ HR (c.grow (some g)) w' ((c.N,B) :: h) := by
 have he : Ext c w (c.grow (some g)) w' := by
  refine ⟨hb.os,hb.tape,hb.output,hb.size,rfl,Nat.le_succ _,fun b hb => .inl (grow_old c _ (Nat.ne_of_lt hb)),fun b r hb h => ?_,fun r hr _ => hb.block r hr,fun b r hbn h => ?_⟩
  ·by_cases e : b = c.N
   ·subst e; rw [grow_new] at h; cases h; exact .inl hg
   ·rw [grow_old c _ e,hr.fresh b hb] at h; cases h
  ·rw [grow_old c _ (Nat.ne_of_lt hbn)] at h
   simp only [World.shape?]
   rw [hb.block r (hr.lt b r h)]
 refine ⟨he,hr.step he (.inr rfl) (fun b hb => ?_) (fun b => ?_) (fun b C hb2 => ?_)⟩
 ·have hb' : c.N + 1 ≤ b := hb
  rw [grow_old c _ (by omega)]; exact hr.fresh b (by omega)
 ·by_cases e : b = c.N
  ·exact .inr (.inr ⟨e,.inr ⟨g,by rw [e,grow_new],hg,hg2⟩⟩)
  ·exact .inl (grow_old c _ e)
 ·rw [hget_cons] at hb2
  by_cases e : c.N = b
  ·rw [if_pos e] at hb2; cases hb2
   subst e
   exact .inr ⟨_,grow_new c _,hB⟩
  ·rw [if_neg e] at hb2
   exact .inl ⟨hb2,grow_old c _ (fun h => e h.symm),fun r hrr => hb.block r (hr.lt b r hrr)⟩
open Go.RowKit in
theorem clone_own {c : Ctx} {w w' : World} {A : List Int} {k : Int} {v : Value} {n : Nat} (hr : HR c w []) (hN : c.N = 0) (hk : k = A.length) (hn : n = A.length) (ho : w'.ownsRow w.heap.size 3 1 v n (A.map (Value.int .i64))) (hne : v ≠ .slice none 0 0) (hb : Below w.heap.size w w') :
  ∃ (c' : Ctx) (r : LV) (v2 : Value) (h' : LH) (n' : Nat),Ending.returned v = .returned v2 ∧ (∃ T : List PV,r = .sl 0 3 1 (.lit 0) (.sym k) ∧ h' = [hpP 0 T] ∧ n' = 1 ∧ T = ipv A) ∧ HR c' w' h' ∧ c'.N = n' ∧ LR c' w' r v2 ∧ Ext c w c' w' := by
 obtain ⟨hl,⟨h1,_⟩ | ⟨g,cap,cur,rfl,hg,hgh,hnc,hcm,hcs,hct⟩⟩ := ho
 ·exact absurd h1 hne
 have hgs : g < w'.heap.size := by
  have := (Array.getElem?_eq_some_iff.1 hgh).1
  exact this
 have hB : BR (c.grow (some g)) w' (.pure true (ipv A)) (some g) := by
  refine ⟨_,_,hgh,by rw [ipv_length,hcs]; omega,fun j u hu => ?_⟩
  have hj : j < A.length := by
   have := (List.getElem?_eq_some_iff.1 hu).1
   rwa [ipv_length] at this
  have hu2 := ipv_get (List.getElem?_eq_getElem hj)
  rw [hu2] at hu
  cases hu
  have hc : cur.toList[j]? = some (.int .i64 A[j]) := by
   have h2 : (cur.toList.take (n * 1))[j]? = some (.int .i64 A[j]) := by rw [hct,List.getElem?_map,List.getElem?_eq_getElem hj]; rfl
   rw [List.getElem?_take_of_lt (by omega)] at h2
   exact h2
  rw [Array.getD_eq_getD_getElem?,← Array.getElem?_toList,hc]
  exact .int _ _ _ rfl
 obtain ⟨he,hh⟩ := HR.owned hr hb g hg hgs hB
 rw [hN] at hh
 refine ⟨c.grow (some g),.sl 0 3 1 (.lit 0) (.sym k),_,[hpP 0 (ipv A)],1,rfl,⟨ipv A,rfl,rfl,rfl,rfl⟩,hh,by show c.N + 1 = 1; omega,?_,he⟩
 have hm : (c.grow (some g)).m 0 = some (some g) := by have := grow_new c (some g); rwa [hN] at this
 refine .sl _ _ _ _ _ g 0 n cap cur.size hm rfl ?_ hnc hcm ?_ (by omega)
 ·simp only [I.val]; omega
 ·simp only [World.shape?,hgh]
theorem addr_add {a : Addr} (h : a.spot = none) (j : Nat) : a.add j = ⟨a.block,a.off + j,none⟩ := by
 cases a; cases h
 unfold Addr.add
 by_cases e : j = 0
 ·subst e; rfl
 ·rw [if_neg e]
theorem ints_cells {M : Nat → Prop} {w : World} {A : List Int} {f : Nat → Value} (hrel : ∀ (j : Nat) (u : PV),(ipv A)[j]? = some u → PR M w u (f j)) {j : Nat} (hj : j < A.length) : f j = .int .i64 (A.getD j 0) := by
 have h1 := hrel j _ (ipv_get (List.getElem?_eq_getElem hj))
 rw [List.getD_eq_getElem?_getD,List.getElem?_eq_getElem hj]
 generalize f j = q at h1
 cases h1 with | int _ _ m hm => rw [← hm]; rfl
open Go.RowKit in
theorem clone_lx (A : List Int) (k : Int) (cells : List PV) (hk : k = A.length) (hcs : cells = ipv A) (hAl : A.length ≤ 100000) : CallF (fun _ => Tryz.prog) 99 [.p (.vsl (.sym k) true cells)] [] 0 (fun r h n => ∃ T : List PV,r = .sl 0 3 1 (.lit 0) (.sym k) ∧ h = [hpP 0 T] ∧ n = 1 ∧ T = ipv A) := by
 refine .mk ⟨_,_,Tryz.func99,by kernel_rfl,rfl⟩ fun c w xs hr hN hl2 hrel => ?_
 obtain ⟨x,rfl,hx⟩ : ∃ x,xs = #[x] ∧ LR c w (.p (.vsl (.sym k) true cells)) x := by
  have h0 := hrel 0 _ rfl
  rcases xs with ⟨l⟩
  match l,hl2 with
  | [x],_ => exact ⟨x,rfl,h0⟩
 cases hx with | p _ _ hx => ?_
 cases hx with
 | vsl0 _ _ _ a cp h0 hc =>
  have h0 : k = 0 := h0
  have hA : A = [] := List.eq_nil_of_length_eq_zero (by omega)
  subst hA
  cases a with
  | none =>
   refine (Tryz.slices_Clone_int_nil 0 cp w).mono ?_
   rintro e w' ⟨rfl,rfl⟩
   have hh := hr.void true
   rw [hN] at hh
   refine ⟨c.grow none,.sl 0 3 1 (.lit 0) (.sym k),_,[(0,.pure true [])],1,rfl,⟨[],rfl,rfl,rfl,rfl⟩,hh,by show c.N + 1 = 1; omega,?_,Ext.void hr⟩
   have hm : (c.grow none).m 0 = some none := by have := grow_new c none; rwa [hN] at this
   exact .slv _ _ _ _ _ hm rfl h0
  | some a =>
   refine (Tryz.slices_Clone_int_zero a cp w).mono ?_
   rintro e w' ⟨v',rfl,ho,hne,hb⟩
   exact clone_own hr hN hk rfl ho hne hb
 | vsl _ _ _ a n cp f hn hs hM hlt hk2 hc hcell hr2 =>
  have hn : k = n := hn
  have hnA : n = A.length := by omega
  rw [hcs] at hcell hr2
  have ha : a = ⟨a.block,a.off,none⟩ := by cases a; cases hs; rfl
  rw [ha]
  refine (Tryz.slices_Clone_int a.block a.off n cp A w (by omega) (by omega) (fun j hj => ?_)).mono ?_
  ·have h1 := hcell j _ (ipv_get (List.getElem?_eq_getElem hj))
   rw [ints_cells hr2 hj] at h1
   rw [addr_add hs] at h1; exact h1
  ·rintro e w' ⟨v',rfl,ho,hne,hb⟩
   rw [hnA,List.take_length] at ho
   exact clone_own hr hN hk rfl ho hne hb
def Made (W : Int) (A : List Int) (s : Hst) (out : List Gn) (t : Hst) : Prop := ∃ (o1 o2 : List Gn) (k1 k2 : Nat) (t2 t3 : Hst),out = o1 ++ o2 ∧ Many W s k1 o1 t2 ∧ t2.ph = 0 ∧ Bgn W t2 (A ++ keptOf o1) t3 ∧ Many W t3 k2 o2 t ∧ t.ph = 0
theorem makeRoom_lx (R : List Rw) (ws C G : List Int) (N W ph sp cy : Int) (L D Q : List PV) (z : ByteArray) (ov : Bool) (h : HM R ws C G N W L D Q z) (o : Unit → Obj) (ho : IsPow o) (hg : Good N ⟨R,ws,C,G,ov,ph,sp,cy⟩) (hcy : cy ≤ 800000000) (A : List Int) (j : Int) (ca : List PV) (hca : ca = ipv A) (hj : j = A.length) (hAl : A.length ≤ 100000) :
  CallF (fun _ => Tryz.prog) 59 [.ptr 0 (.lit 0),.p (.vsl (.sym j) true ca)] [hpA 0 1 5 6 3 W ph sp cy,hpB 1 2 4 3 W,hpC 2 3 137 2 N,hpP 3 L,hpP 4 D,hpF 5 z ov,hpP 6 Q,(7,.fix 0 o)] 8 (fun r h n => ∃ (out : List Gn) (m : Int) (cells : List PV) (Rh : List Rw) (wh Ch Gh : List Int) (ovh : Bool) (sp2 cy2 : Int) (Lh Dh Qh : List PV) (zh : ByteArray),r = .sl 9 40 4 (.lit 0) (.sym m) ∧ h = [hpA 0 1 8 6 3 W 0 sp2 cy2,hpB 1 2 4 3 W,hpC 2 3 137 2 N,hpP 3 Lh,hpP 4 Dh,hpF 8 zh ovh,hpP 6 Qh,(7,.fix 0 o),hpP 9 cells] ∧ n = 10 ∧ HM Rh wh Ch Gh N W Lh Dh Qh zh ∧ cells = gpv out ∧ m = out.length ∧ Made W A ⟨R,ws,C,G,ov,ph,sp,cy⟩ out ⟨Rh,wh,Ch,Gh,ovh,0,sp2,cy2⟩) := by
 have hW := h.w
 have hW2 : W = 32 * N := hW
 refine callF_of_body tok Tryz.func59 (by kernel_rfl) rfl rfl rfl ?_; conv => cbv
 refine cfr (toTheEnd_lx R ws C G N W ph sp cy L D Q z ov h o ho hg (by omega)) [(0,0),(1,1),(2,2),(3,3),(4,4),(5,5),(6,6),(7,7)] (fun r h' n' hrr => ?_)
 obtain ⟨o1,m1,c1,k1,R1,ws1,C1,G1,ov1,sp1,cy1,L1,D1,Q1,z1,e1,e2,e3,h1,hc1,hm1,hM1⟩ := hrr
 subst e1 e2 e3
 obtain ⟨g1,_,hy1,_⟩ := hM1.good hW2 hg
 have hb1 := hM1.cyb hW2 hg
 conv => cbv
 refine cfr (clone_lx A j ca hj hca hAl) [] (fun r h' n' hrr => ?_)
 obtain ⟨T,e1,e2,e3,hT⟩ := hrr
 subst e1 e2 e3
 conv => cbv
 refine callF_lend (keptOf_lx o1 m1 c1 hm1 hc1 (by omega)) (by simp [lends,lendV,hget,I.val,pvle]) (fun r h' n' hrr => ?_) (fun r h' n' hrr => ?_)
 ·obtain ⟨m2,T2,e1,e2,e3,hT2,hm2⟩ := hrr
  subst e1 e2
  exact ⟨trivial,fun u hu => by rw [hT2] at hu; obtain ⟨y,_,rfl⟩ := List.mem_map.1 hu; exact trivial,trivial⟩
 obtain ⟨m2,T2,e1,e2,e3,hT2,hm2⟩ := hrr
 subst e1 e2 e3
 conv => cbv
 have hTl : T.length = A.length := by rw [hT,ipv_length]
 have hT2l : T2.length = (keptOf o1).length := by rw [hT2,ipv_length]
 have hgk := gone_kept o1
 refine Room.new (by show (T2.length : Int) = m2 * 1; omega) ?_
 conv => cbv
 refine Room.new ⟨by show (T.length : Int) = j * 1; omega,by show (j + m2) * 8 ≤ 140737488355328; omega,by show j + m2 ≤ 9223372036854775807; omega⟩ ?_
 conv => cbv
 refine Upd.mk fun T3 hT3 => ?_
 have hT3 : T3 = ipv (A ++ keptOf o1) := by rw [show T3 = T ++ T2 from hT3,hT,hT2,← ipv_app]
 conv => cbv
 refine Sum.mk fun m3 hm3 => ?_
 have hm3 : m3 = ((A ++ keptOf o1).length : Int) := by rw [show m3 = j + m2 from hm3,hj,hm2,List.length_append]; rfl
 conv => cbv
 refine CallF.re (args0 := [.ptr 0 (.lit 0),.p (.vsl (.sym m3) true T3)]) (h' := [hpA 0 1 5 6 3 W 0 sp1 cy1,hpB 1 2 4 3 W,hpC 2 3 137 2 N,hpP 3 L1,hpP 4 D1,hpF 5 z1 ov1,hpP 6 Q1,(7,.fix 0 o),hpP 8 c1]) (Re.at [(0,0),(1,1),(2,2),(3,3),(4,4),(5,5),(6,6),(7,7),(8,8)] []) (cfr (begin_lx R1 ws1 C1 G1 N W 0 sp1 cy1 L1 D1 Q1 z1 ov1 h1 o ho (A ++ keptOf o1) m3 T3 hT3 hm3 (by rw [List.length_append]; omega) rfl) [(0,0),(1,1),(2,2),(3,3),(4,4),(5,5),(6,6),(7,7)] (fun r h' n' hrr => ?_))
 obtain ⟨C3,G3,ov3,Q3,z3,e1,e2,e3,h3,hb3⟩ := hrr
 subst e1 e2 e3
 have hB : Bgn W ⟨R1,ws1,C1,G1,ov1,0,sp1,cy1⟩ (A ++ keptOf o1) ⟨R1,ws1,C3,G3,ov3,1,sp1,cy1⟩ := ⟨rfl,rfl,rfl,rfl,rfl,(by have := h3.c; show (C3.length : Int) = W; exact this),hb3⟩
 conv => cbv
 have g3 := hB.good hW2 g1
 refine cfr (toTheEnd_lx R1 ws1 C3 G3 N W 1 sp1 cy1 L1 D1 Q3 z3 ov3 h3 o ho g3 (by have := hb1.1; show cy1 ≤ 900000000; have h9 : cy1 ≤ cy + 2177 := hb1.1; omega)) [(0,0),(1,1),(2,2),(3,3),(4,4),(5,12),(6,6),(7,7)] (fun r h' n' hrr => ?_)
 obtain ⟨o4,m4,c4,k4,R4,ws4,C4,G4,ov4,sp4,cy4,L4,D4,Q4,z4,e1,e2,e3,h4,hc4,hm4,hM4⟩ := hrr
 subst e1 e2 e3
 have hb4 := hM4.cyb hW2 g3
 have hl1 : c1.length = 4 * o1.length := by rw [hc1,gpv_length]
 have hl4 : c4.length = 4 * o4.length := by rw [hc4,gpv_length]
 conv => cbv
 refine Room.new (by show (c4.length : Int) = m4 * 4; omega) ?_
 conv => cbv
 refine Room.new ⟨by show (c1.length : Int) = m1 * 4; omega,by show (m1 + m4) * 48 ≤ 140737488355328; omega,by show m1 + m4 ≤ 9223372036854775807; omega⟩ ?_
 conv => cbv
 refine Upd.mk fun c5 hc5 => ?_
 have hc5 : c5 = gpv (o1 ++ o4) := by rw [show c5 = c1 ++ c4 from hc5,hc1,hc4,← gpv_app]
 conv => cbv
 refine Sum.mk fun m5 hm5 => ?_
 have hm5 : m5 = ((o1 ++ o4).length : Int) := by rw [show m5 = m1 + m4 from hm5,hm1,hm4,List.length_append]; rfl
 conv => cbv
 refine RetF.mk [.sl 9 40 4 (.lit 0) (.sym m5)] [hpA 0 1 8 6 3 W 0 sp4 cy4,hpB 1 2 4 3 W,hpC 2 3 137 2 N,hpP 3 L4,hpP 4 D4,hpF 8 z4 ov4,hpP 6 Q4,(7,.fix 0 o),hpP 9 c5] 10 (Re.at [(0,0),(1,1),(2,2),(3,3),(4,4),(12,8),(6,6),(7,7),(14,9)] []) rfl ⟨o1 ++ o4,m5,c5,R4,ws4,C4,G4,ov4,sp4,cy4,L4,D4,Q4,z4,rfl,rfl,rfl,h4,hc5,hm5,o1,o4,k1,k4,_,_,rfl,hM1,rfl,hB,hM4,rfl⟩
theorem newHAny_bad (n : Int) (hn : n < 2 ∨ 128 < n) : CallF (fun _ => Tryz.prog) 44 [i6 n] [] 0 (fun r h m => (∃ e : Int,r = .tup [.p .nilp,i6 e] ∧ e ≠ 0) ∧ h = [] ∧ m = 0) := by
 refine callF_of_body tok Tryz.func44 (by kernel_rfl) rfl rfl rfl ?_; conv => cbv
 refine callF_frame (newA_bad n hn) [] rfl trivial rfl rfl (fun r h' n' hrr => ?_)
 obtain ⟨⟨e,e1,he⟩,e2,e3⟩ := hrr
 subst e1 e2 e3
 conv => cbv
 refine Br.yes (show e ≠ 0 from he) ?_
 conv => cbv
 refine RetF.mk [.p .nilp,i6 e] [] 0 (Re.at [] []) rfl ⟨⟨e,rfl,he⟩,rfl,rfl⟩
def COk (N st as_ : Int) : Prop := 1 ≤ st ∧ st ≤ 100 ∧ 0 ≤ as_ ∧ as_ ≤ 8
theorem newS_bad (N st as_ : Int) (hb : ¬ (COk N st as_ ∧ 2 ≤ N ∧ N ≤ 128)) : CallF (fun _ => Tryz.prog) 11 [.agg [i6 N,i6 st,i6 as_]] [] 0 (fun r h m => (∃ e : Int,r = .tup [.p .nilp,i6 e] ∧ e ≠ 0) ∧ h = [] ∧ m = 0) := by
 unfold COk at hb
 refine callF_of_body tok Tryz.func11 (by kernel_rfl) rfl rfl rfl ?_; conv => cbv
 refine Br.mk (fun g => ?_) (fun g => ?_)
 ·conv => cbv
  refine RetF.mk [.p .nilp,i6 1] [] 0 (Re.at [] []) rfl ⟨⟨1,rfl,by decide⟩,rfl,rfl⟩
 have g : ¬ (st < 1) := g
 conv => cbv
 refine Br.mk (fun g => ?_) (fun g => ?_)
 ·conv => cbv
  refine RetF.mk [.p .nilp,i6 1] [] 0 (Re.at [] []) rfl ⟨⟨1,rfl,by decide⟩,rfl,rfl⟩
 have g2 : ¬ (100 < st) := g
 conv => cbv
 refine Br.mk (fun g => ?_) (fun g => ?_)
 ·conv => cbv
  refine RetF.mk [.p .nilp,i6 1] [] 0 (Re.at [] []) rfl ⟨⟨1,rfl,by decide⟩,rfl,rfl⟩
 have g3 : ¬ (as_ < 0) := g
 conv => cbv
 refine Br.mk (fun g => ?_) (fun g => ?_)
 ·conv => cbv
  refine RetF.mk [.p .nilp,i6 1] [] 0 (Re.at [] []) rfl ⟨⟨1,rfl,by decide⟩,rfl,rfl⟩
 have g4 : ¬ (8 < as_) := g
 conv => cbv
 refine callF_frame (newHAny_bad N (by omega)) [] rfl trivial rfl rfl (fun r h' n' hrr => ?_)
 obtain ⟨⟨e,e1,he⟩,e2,e3⟩ := hrr
 subst e1 e2 e3
 conv => cbv
 refine Br.yes (show e ≠ 0 from he) ?_
 conv => cbv
 refine RetF.mk [.p .nilp,i6 e] [] 0 (Re.at [] []) rfl ⟨⟨e,rfl,he⟩,rfl,rfl⟩
theorem newS_lx (N W st as_ : Int) (hc : COk N st as_) (h2 : 2 ≤ N) (h8 : N ≤ 128) (hW : W = 32 * N) (L D Q : List PV) (z : ByteArray) (hL : L = rpv (List.replicate N.toNat (0,[]))) (hD : D = ipv (List.replicate W.toNat 0)) (hQ : Q = ipv (List.replicate W.toNat 0)) (hz : z = ⟨(enc []).toArray⟩) : CallF (fun _ => Tryz.prog) 11 [.agg [i6 N,i6 st,i6 as_]] [] 0 (fun r h n => r = .tup [.ptr 0 (.lit 0),.p (.int .i64 (.lit 0))] ∧ h = [(0,.mix [.ptr 1 (.lit 0),i6 st,i6 as_]),hpA 1 2 6 7 3 W 0 0 0,hpB 2 3 5 3 W,hpC 3 4 137 2 N,hpP 4 L,hpP 5 D,hpF 6 z false,hpP 7 Q] ∧ n = 8) := by
 unfold COk at hc
 refine callF_of_body tok Tryz.func11 (by kernel_rfl) rfl rfl rfl ?_; conv => cbv
 refine Br.no (show ¬ (st < 1) by omega) ?_
 conv => cbv
 refine Br.no (show ¬ (100 < st) by omega) ?_
 conv => cbv
 refine Br.no (show ¬ (as_ < 0) by omega) ?_
 conv => cbv
 refine Br.no (show ¬ (8 < as_) by omega) ?_
 conv => cbv
 refine callF_frame (newH_lx N W h2 h8 hW L D Q z hL hD hQ hz) [] rfl trivial rfl rfl (fun r h' n' ⟨e1,e2,e3⟩ => ?_)
 subst e1 e2 e3
 conv => cbv
 refine RetF.mk [.ptr 0 (.lit 0),.p (.int .i64 (.lit 0))] [(0,.mix [.ptr 1 (.lit 0),i6 st,i6 as_]),hpA 1 2 6 7 3 W 0 0 0,hpB 2 3 5 3 W,hpC 3 4 137 2 N,hpP 4 L,hpP 5 D,hpF 6 z false,hpP 7 Q] 8 (Re.at [(8,0),(1,1),(2,2),(3,3),(4,4),(5,5),(6,6),(7,7)] []) rfl ⟨rfl,rfl,rfl⟩
theorem heapS_lx (R : List Rw) (ws C G : List Int) (N W ph sp cy : Int) (L D Q : List PV) (z : ByteArray) (ov : Bool) (st as_ : Int) : CallF (fun _ => Tryz.prog) 20 [.ptr 0 (.lit 0)] [(0,.mix [.ptr 1 (.lit 0),i6 st,i6 as_]),hpA 1 2 6 7 3 W ph sp cy,hpB 2 3 5 3 W,hpC 3 4 137 2 N,hpP 4 L,hpP 5 D,hpF 6 z ov,hpP 7 Q] 8 (fun r h n => r = .ptr 1 (.lit 0) ∧ h = [(0,.mix [.ptr 1 (.lit 0),i6 st,i6 as_]),hpA 1 2 6 7 3 W ph sp cy,hpB 2 3 5 3 W,hpC 3 4 137 2 N,hpP 4 L,hpP 5 D,hpF 6 z ov,hpP 7 Q] ∧ n = 8) := by
 refine callF_of_body tok Tryz.func20 (by kernel_rfl) rfl rfl rfl ?_; conv => cbv
 refine RetF.mk [.ptr 1 (.lit 0)] [(0,.mix [.ptr 1 (.lit 0),i6 st,i6 as_]),hpA 1 2 6 7 3 W ph sp cy,hpB 2 3 5 3 W,hpC 3 4 137 2 N,hpP 4 L,hpP 5 D,hpF 6 z ov,hpP 7 Q] 8 (Re.at [(0,0),(1,1),(2,2),(3,3),(4,4),(5,5),(6,6),(7,7)] []) rfl ⟨rfl,rfl,rfl⟩
theorem heapS_nil : CallF (fun _ => Tryz.prog) 20 [.p .nilp] [] 0 (fun r h n => r = .p .nilp ∧ h = [] ∧ n = 0) := by
 refine callF_of_body tok Tryz.func20 (by kernel_rfl) rfl rfl rfl ?_; conv => cbv
 refine RetF.mk [.p .nilp] [] 0 (Re.at [] []) rfl ⟨rfl,rfl,rfl⟩
def mkG (m : Nat) : List Bool := List.replicate m true ++ List.replicate (2 - m) false
def rowG (k j : Nat) : Rw := if 2 * j < k then (2,mkG (min (k - 2 * j) 2)) else (0,[])
def FillG (R : List Rw) (k : Nat) : Prop := ∀ j,j < R.length → R[j]? = some (rowG k j)
theorem mkG_get {m s : Nat} {b : Bool} (hm : m ≤ 2) (h : (mkG m)[s]? = some b) : s < 2 ∧ (b = true ↔ s < m) := by
 have hl : (mkG m).length = 2 := by rw [mkG,List.length_append,List.length_replicate,List.length_replicate]; omega
 have hs := (List.getElem?_eq_some_iff.1 h).1
 refine ⟨by omega,?_⟩
 by_cases hsm : s < m
 ·rw [mkG,List.getElem?_append_left (by rw [List.length_replicate]; exact hsm),List.getElem?_replicate,if_pos hsm] at h
  cases h
  exact ⟨fun _ => hsm,fun _ => rfl⟩
 ·rw [mkG,List.getElem?_append_right (by rw [List.length_replicate]; omega),List.getElem?_replicate,if_pos (by rw [List.length_replicate]; omega)] at h
  cases h
  exact ⟨fun h => (by cases h),fun h => absurd h hsm⟩
theorem mkG_at {m s : Nat} (hm : m ≤ 2) (hs : s < 2) : (mkG m)[s]? = some (decide (s < m)) := by
 by_cases hsm : s < m
 ·rw [mkG,List.getElem?_append_left (by rw [List.length_replicate]; exact hsm),List.getElem?_replicate,if_pos hsm,decide_eq_true hsm]
 ·rw [mkG,List.getElem?_append_right (by rw [List.length_replicate]; omega),List.getElem?_replicate,if_pos (by rw [List.length_replicate]; omega),decide_eq_false hsm]
theorem mkG_set {m : Nat} (h : m < 2) : (mkG m).set m true = mkG (m + 1) := by
 have : m = 0 ∨ m = 1 := by omega
 rcases this with rfl | rfl <;> rfl
theorem FillG.step {R R' : List Rw} {k : Nat} {i s : Int} (hF : FillG R k) (h : Alloced R 2 i s true R') : 32 * i + s * 16 = 16 * (k : Int) ∧ FillG R' (k + 1) := by
 cases h with
 | old i s l h0 hi hs h1 h2 =>
  have hil := (List.getElem?_eq_some_iff.1 hi).1
  have hr := hF i hil
  rw [hi] at hr
  have hr := Option.some.inj hr
  unfold rowG at hr
  split at hr
  ·rename_i hik
   have hl : l = mkG (min (k - 2 * i) 2) := congrArg Prod.snd hr
   obtain ⟨m,hm⟩ : ∃ m,m = min (k - 2 * i) 2 := ⟨_,rfl⟩
   rw [← hm] at hl
   subst hl
   obtain ⟨hs2,hsm⟩ := mkG_get (by omega) hs
   have hsm : ¬ s < m := fun h => by have := hsm.2 h; cases this
   have hms : ¬ m < s := fun h => by
    have h3 := (mkG_get (by omega) (h1 m h)).2.1 rfl
    omega
   have hse : s = m := by omega
   subst hse
   refine ⟨by omega,fun j hj => ?_⟩
   rw [List.length_set] at hj
   by_cases e : j = i
   ·subst e
    rw [List.getElem?_set_self hil,mkG_set hs2]
    have hq : min (k + 1 - 2 * j) 2 = s + 1 := by omega
    unfold rowG
    rw [if_pos (by omega),hq]
   ·rw [List.getElem?_set_ne (fun h => e h.symm),hF j hj]
    unfold rowG
    by_cases hjk : 2 * j < k
    ·rw [if_pos hjk,if_pos (by omega)]
     have hq : min (k - 2 * j) 2 = min (k + 1 - 2 * j) 2 := by omega
     rw [hq]
    ·rw [if_neg hjk,if_neg (by omega)]
  ·have hl : l = [] := congrArg Prod.snd hr
   subst hl
   simp at hs
 | fresh i d h0 h2 hi h3 =>
  have hil := (List.getElem?_eq_some_iff.1 hi).1
  have hr := hF i hil
  rw [hi] at hr
  have hr := Option.some.inj hr
  have hik : ¬ 2 * i < k := by
   intro hik
   unfold rowG at hr
   rw [if_pos hik] at hr
   have hl : [] = mkG (min (k - 2 * i) 2) := congrArg Prod.snd hr
   have h2z : (mkG (min (k - 2 * i) 2)).length = 2 := by rw [mkG,List.length_append,List.length_replicate,List.length_replicate]; omega
   rw [← hl] at h2z
   simp at h2z
  have hk2 : k % 2 = 0 := by
   refine Classical.byContradiction fun hne => ?_
   have hjl : k / 2 < R.length := by omega
   have hrow := hF (k / 2) hjl
   unfold rowG at hrow
   rw [if_pos (by omega)] at hrow
   refine h2 (k / 2) _ hrow ?_
   have hm : min (k - 2 * (k / 2)) 2 = k % 2 := by omega
   rw [hm]
   have := mkG_at (m := k % 2) (s := k % 2) (by omega) (by omega)
   rw [decide_eq_false (by omega)] at this
   exact List.mem_of_getElem? this
  have hki : k = 2 * i := by
   rcases Nat.eq_zero_or_pos i with e | e
   ·omega
   ·have hj := hF (i - 1) (by omega)
    have hlt : 2 * (i - 1) < k := by
     refine Classical.byContradiction fun hne => ?_
     unfold rowG at hj
     rw [if_neg hne] at hj
     exact h3 (i - 1) (by omega) 0 hj
    omega
  refine ⟨by omega,fun j hj => ?_⟩
  rw [List.length_set] at hj
  by_cases e : j = i
  ·subst e
   rw [List.getElem?_set_self hil]
   have hq : min (k + 1 - 2 * j) 2 = 1 := by omega
   unfold rowG
   rw [if_pos (by omega),hq]; rfl
  ·rw [List.getElem?_set_ne (fun h => e h.symm),hF j hj]
   unfold rowG
   by_cases hjk : 2 * j < k
   ·rw [if_pos hjk,if_pos (by omega)]
    have hq : min (k - 2 * j) 2 = min (k + 1 - 2 * j) 2 := by omega
    rw [hq]
   ·rw [if_neg hjk,if_neg (by omega)]
theorem FillG.new (n : Nat) : FillG (List.replicate n (0,[])) 0 := by
 intro j hj
 rw [List.length_replicate] at hj
 rw [List.getElem?_replicate,if_pos hj]
 unfold rowG
 rw [if_neg (by omega)]
theorem FillG.alloc {R R' : List Rw} {ws ws' : List Int} {k : Nat} {a e : Int} (hF : FillG R k) (h : Alloct R ws 4 10 a e R' ws') (he : e = 0) : a = 16 * (k : Int) ∧ FillG R' (k + 1) := by
 cases h with
 | arg h => exact absurd he (by decide)
 | room i s R' h ha => exact absurd he (by decide)
 | ok i s _ R' h ha hi hat =>
  have h0 : ofN 10 = 2 := rfl
  rw [h0] at ha hat
  obtain ⟨h1,h2⟩ := hF.step ha
  have hw : wordsOf 2 = 16 := rfl
  rw [hw] at hat
  exact ⟨by omega,h2⟩
theorem FillG.room {R R' : List Rw} {ws ws' : List Int} {k : Nat} {a e : Int} (hF : FillG R k) (hk : k < 2 * R.length) (h : Alloct R ws 4 10 a e R' ws') : e = 0 := by
 cases h with
 | arg h => exact absurd (by omega) h
 | ok i s _ R' h ha hi hat => rfl
 | room i s R' h ha =>
  have h0 : ofN 10 = 2 := rfl
  rw [h0] at ha
  have hrow := hF (k / 2) (by omega)
  cases ha with
  | no h => exact absurd h (by decide)
  | full _ h2 h3 =>
   unfold rowG at hrow
   by_cases hq : 2 * (k / 2) < k
   ·rw [if_pos hq] at hrow
    refine absurd ?_ (h2 (k / 2) _ hrow)
    have hm : min (k - 2 * (k / 2)) 2 = k % 2 := by omega
    rw [hm]
    have := mkG_at (m := k % 2) (s := k % 2) (by omega) (by omega)
    rw [decide_eq_false (by omega)] at this
    exact List.mem_of_getElem? this
   ·rw [if_neg hq] at hrow
    exact absurd hrow (h3 (k / 2) 0)
theorem FillG.full {R R' : List Rw} {ws ws' : List Int} {k : Nat} {a e : Int} (hF : FillG R k) (hk : k = 2 * R.length) (h : Alloct R ws 4 10 a e R' ws') : e = 9 ∧ R' = R ∧ ws' = ws := by
 cases h with
 | arg h => exact absurd (by omega) h
 | ok i s _ R' h ha hib hat =>
  have h0 : ofN 10 = 2 := rfl
  rw [h0] at ha
  cases ha with
  | old i s l h0 hi hs h1 h2 =>
   have hil := (List.getElem?_eq_some_iff.1 hi).1
   have hr := hF i hil
   rw [hi] at hr
   have hr := Option.some.inj hr
   unfold rowG at hr
   rw [if_pos (by omega)] at hr
   have hl : l = mkG (min (k - 2 * i) 2) := congrArg Prod.snd hr
   have hm : min (k - 2 * i) 2 = 2 := by omega
   rw [hm] at hl
   subst hl
   obtain ⟨g1,g2⟩ := mkG_get (by omega) hs
   have := g2.2 g1
   cases this
  | fresh i d h0 h2 hi h3 =>
   have hil := (List.getElem?_eq_some_iff.1 hi).1
   have hr := hF i hil
   rw [hi] at hr
   have hr := Option.some.inj hr
   unfold rowG at hr
   rw [if_pos (by omega)] at hr
   have hl : [] = mkG (min (k - 2 * i) 2) := congrArg Prod.snd hr
   have hlen : (mkG (min (k - 2 * i) 2)).length = 2 := by rw [mkG,List.length_append,List.length_replicate,List.length_replicate]; omega
   rw [← hl] at hlen
   cases hlen
 | room i s R' h ha =>
  cases ha with
  | no h => exact ⟨rfl,rfl,rfl⟩
  | full _ h2 h3 => exact ⟨rfl,rfl,rfl⟩
def namesW : ByteArray := ⟨#[99,97,112,32,99,108,111,115,101,100,32,99,111,117,110,116,32,115,116,97,114,116,32,98,117,102,32,116,97,107,101,104,101,97,100,32,116,97,107,101,116,97,105,108,32,115,101,110,100,104,101,97,100,32,115,101,110,100,116,97,105,108,10,10,103,111,114,32,99,104,97,110,32,118,97,108,117,101,32,110,101,120,116,32,116,111,32,114,101,103,32,109,111,114,101,10,105,100,32,115,116,97,116,117,115,32,112,99,32,97,32,98,32,99,32,100,32,101,32,102,32,115,117,100,111,103,115,10,118,97,108,117,101,32,102,105,110,97,108,10,119,104,101,110,32,99,104,97,110,10]⟩
def byteW (p : Nat) : Int := ((namesW.get! p).toNat : Int)
def lnW : Nat → Int
 | 0 => 1
 | p + 1 => if byteW p = 10 then lnW p + 1 else lnW p
def frW : Nat → Int
 | 0 => 0
 | p + 1 => if byteW p = 10 then (p : Int) + 1 else frW p
theorem namesW_dec (p : Nat) (h : p < 150) : ((Utf8.decode namesW p).1 : Int) = byteW p ∧ (Utf8.decode namesW p).2 = 1 := by
 have : ∀ i : Fin 150,((Utf8.decode namesW i.val).1 : Int) = byteW i.val ∧ (Utf8.decode namesW i.val).2 = 1 := by decide +kernel
 exact this ⟨p,h⟩
theorem frW_le (p : Nat) : 0 ≤ frW p ∧ frW p ≤ p := by
 induction p with
 | zero => exact ⟨Int.le_refl _,Int.le_refl _⟩
 | succ p ih => rw [frW]; split <;> omega
theorem lnW_le (p : Nat) : 1 ≤ lnW p ∧ lnW p ≤ p + 1 := by
 induction p with
 | zero => exact ⟨Int.le_refl _,Int.le_refl _⟩
 | succ p ih => rw [lnW]; split <;> omega
def lineW (k : Int) : ByteArray := if k = 1 then namesW.extract 0 63 else if k = 3 then namesW.extract 64 96 else if k = 4 then namesW.extract 96 128 else if k = 5 then namesW.extract 128 140 else if k = 6 then namesW.extract 140 150 else ⟨#[]⟩
theorem lineW_at (p : Nat) (h : p < 150) (h1 : byteW p = 10) (h2 : frW p < p) : lineW (lnW p) = namesW.extract (frW p).toNat (p + 1) ∧ (lnW p = 1 ∨ 3 ≤ lnW p ∧ lnW p ≤ 6) := by
 have : ∀ i : Fin 150,byteW i.val = 10 → frW i.val < i.val → lineW (lnW i.val) = namesW.extract (frW i.val).toNat (i.val + 1) ∧ (lnW i.val = 1 ∨ 3 ≤ lnW i.val ∧ lnW i.val ≤ 6) := by decide +kernel
 exact this ⟨p,h⟩ h1 h2
theorem lineW_no (k : Int) (h : ∀ q : Nat,q < 150 → byteW q = 10 → frW q < q → lnW q ≠ k) : lineW k = ⟨#[]⟩ := by
 unfold lineW
 split
 ·exact absurd (by rename_i e; rw [e]; decide +kernel) (h 62 (by decide) (by decide +kernel) (by decide +kernel))
 ·split
  ·exact absurd (by rename_i e; rw [e]; decide +kernel) (h 95 (by decide) (by decide +kernel) (by decide +kernel))
  ·split
   ·exact absurd (by rename_i e; rw [e]; decide +kernel) (h 127 (by decide) (by decide +kernel) (by decide +kernel))
   ·split
    ·exact absurd (by rename_i e; rw [e]; decide +kernel) (h 139 (by decide) (by decide +kernel) (by decide +kernel))
    ·split
     ·exact absurd (by rename_i e; rw [e]; decide +kernel) (h 149 (by decide) (by decide +kernel) (by decide +kernel))
     ·rfl
theorem lineOf_lx (k : Int) : CallF (fun _ => Tryz.prog) 121 [i6 k] [] 0 (fun r h n => (∃ z : ByteArray,r = .p (.str fun _ => z) ∧ z = lineW k) ∧ h = [] ∧ n = 0) := by
 refine callF_of_body tok Tryz.func121 (by kernel_rfl) rfl rfl rfl ?_; conv => cbv
 refine LoopF.mk (fun kk s => ∃ (p ln fr : Int),s = ⟨.p (.int .i64 (.sym k)) :: .undef :: .undef :: .p (.int .i64 (.sym ln)) :: .p (.int .i64 (.sym fr)) :: .undef :: .undef :: .ptr 0 (.lit 0) :: undefs 22,[(0,.iter (fun _ => namesW) (.sym p))],1⟩ ∧ 0 ≤ p ∧ p ≤ 150 ∧ kk = (150 - p).toNat ∧ ln = lnW p.toNat ∧ fr = frW p.toNat ∧ (∀ q : Nat,q < p.toNat → byteW q = 10 → frW q < q → lnW q ≠ k)) 150 _
  (Re.at [(0,0)] []) ⟨0,1,0,rfl,by omega,by omega,by omega,rfl,rfl,fun q hq => absurd hq (by omega)⟩ ?_
 rintro kk s ⟨p,ln,fr,rfl,hp0,hp1,hkk,hln,hfr,hno⟩
 have b1 := frW_le p.toNat
 have b2 := lnW_le p.toNat
 conv => cbv
 by_cases hp : p < 150
 ·have hdc := namesW_dec p.toNat (by omega)
  refine NextS.more (show p < 150 by omega) ?_
  intro r p' hr hp'
  have hr : r = byteW p.toNat := hr.trans hdc.1
  have hp' : p' = p + 1 := by
   have : p' = p + ((Utf8.decode namesW p.toNat).2 : Int) := hp'
   rw [this,hdc.2]; rfl
  have hpn : p'.toNat = p.toNat + 1 := by omega
  clear hdc
  conv => cbv
  refine Br.mk (fun g => ?_) (fun g => ?_)
  ·have g : ¬ r = 10 := g
   have hb : ¬ byteW p.toNat = 10 := fun q => g (hr.trans q)
   conv => cbv
   refine Again.mk (150 - p').toNat _ (by omega) (Re.at [(0,0)] []) ⟨p',ln,fr,rfl,by omega,by omega,rfl,by rw [hpn,lnW,if_neg hb]; exact hln,by rw [hpn,frW,if_neg hb]; exact hfr,fun q hq h1 h2 => ?_⟩
   by_cases e : q = p.toNat
   ·rw [e] at h1; exact absurd h1 hb
   ·exact hno q (by omega) h1 h2
  ·have g : r = 10 := Classical.byContradiction fun q => g q
   have hb : byteW p.toNat = 10 := hr.symm.trans g
   conv => cbv
   refine Br.mk (fun g1 => ?_) (fun g1 => ?_)
   ·have g1 : ln = k := g1
    conv => cbv
    refine Br.mk (fun g2 => ?_) (fun g2 => ?_)
    ·have g2 : fr < p := g2
     have hat := lineW_at p.toNat (by omega) hb (by rw [← hfr]; omega)
     conv => cbv
     refine Fit.mk (by show (-9223372036854775808 : Int) ≤ p + 1; omega) (by show p + 1 ≤ 9223372036854775807; omega) fun f2 hf2 => ?_
     have hf2 : f2 = p + 1 := hf2
     conv => cbv
     refine Need.mk (show 0 ≤ fr ∧ fr ≤ f2 ∧ f2 ≤ (150 : Int) by omega) ?_
     conv => cbv
     refine Str.mk fun z hz => ?_
     have hz : z = namesW.extract fr.toNat f2.toNat := hz
     conv => cbv
     refine RetF.mk [.p (.str fun _ => z)] [] 0 (Re.at [] []) rfl ⟨⟨z,rfl,?_⟩,rfl,rfl⟩
     rw [hz,← g1,hln,hat.1,← hfr]
     congr 1
     omega
    ·have g2 : ¬ fr < p := g2
     conv => cbv
     refine Fit.mk (by show (-9223372036854775808 : Int) ≤ ln + 1; omega) (by show ln + 1 ≤ 9223372036854775807; omega) fun l2 hl2 => ?_
     have hl2 : l2 = ln + 1 := hl2
     conv => cbv
     refine Fit.mk (by show (-9223372036854775808 : Int) ≤ p + 1; omega) (by show p + 1 ≤ 9223372036854775807; omega) fun f2 hf2 => ?_
     have hf2 : f2 = p + 1 := hf2
     conv => cbv
     refine Again.mk (150 - p').toNat _ (by omega) (Re.at [(0,0)] []) ⟨p',l2,f2,rfl,by omega,by omega,rfl,by rw [hpn,lnW,if_pos hb]; omega,by rw [hpn,frW,if_pos hb]; omega,fun q hq h1 h2 => ?_⟩
     by_cases e : q = p.toNat
     ·have h2 : frW q < (q : Int) := h2
      rw [e,← hfr] at h2
      omega
     ·exact hno q (by omega) h1 h2
   ·have g1 : ¬ ln = k := g1
    conv => cbv
    refine Fit.mk (by show (-9223372036854775808 : Int) ≤ ln + 1; omega) (by show ln + 1 ≤ 9223372036854775807; omega) fun l2 hl2 => ?_
    have hl2 : l2 = ln + 1 := hl2
    conv => cbv
    refine Fit.mk (by show (-9223372036854775808 : Int) ≤ p + 1; omega) (by show p + 1 ≤ 9223372036854775807; omega) fun f2 hf2 => ?_
    have hf2 : f2 = p + 1 := hf2
    conv => cbv
    refine Again.mk (150 - p').toNat _ (by omega) (Re.at [(0,0)] []) ⟨p',l2,f2,rfl,by omega,by omega,rfl,by rw [hpn,lnW,if_pos hb]; omega,by rw [hpn,frW,if_pos hb]; omega,fun q hq h1 h2 => ?_⟩
    by_cases e : q = p.toNat
    ·rw [e,← hln]; exact g1
    ·exact hno q (by omega) h1 h2
 ·refine NextS.over (show (150 : Int) ≤ p by omega) ?_
  conv => cbv
  refine RetF.mk [.p (.str fun _ => ⟨#[]⟩)] [] 0 (Re.at [] []) rfl ⟨⟨_,rfl,(lineW_no k fun q hq => hno q (by omega)).symm⟩,rfl,rfl⟩
theorem ends_lx (x : Int) : CallF (fun _ => Tryz.prog) 122 [.p (.int .i32 (.sym x))] [] 0 (fun r h n => (∃ b : Bool,r = .p (.bool b) ∧ (b = true ↔ x = 32 ∨ x = 10)) ∧ h = [] ∧ n = 0) := by
 refine callF_of_body tok Tryz.func122 (by kernel_rfl) rfl rfl rfl ?_; conv => cbv
 refine Br.mk (fun g => ?_) (fun g => ?_)
 ·have g : x = 32 := g
  conv => cbv
  refine RetF.mk [.p (.bool true)] [] 0 (Re.at [] []) rfl ⟨⟨true,rfl,by simp [g]⟩,rfl,rfl⟩
 ·have g : ¬ x = 32 := g
  conv => cbv
  refine Br.mk (fun g1 => ?_) (fun g1 => ?_)
  ·have g1 : x = 10 := g1
   conv => cbv
   refine RetF.mk [.p (.bool true)] [] 0 (Re.at [] []) rfl ⟨⟨true,rfl,by simp [g1]⟩,rfl,rfl⟩
  ·have g1 : ¬ x = 10 := g1
   conv => cbv
   refine RetF.mk [.p (.bool false)] [] 0 (Re.at [] []) rfl ⟨⟨false,rfl,by simp [g,g1]⟩,rfl,rfl⟩
def cntW (s : ByteArray) : Nat → Int
 | 0 => 0
 | k + 1 => if (Utf8.decode s k).1 = 32 ∨ (Utf8.decode s k).1 = 10 then cntW s k + 1 else cntW s k
theorem cntW_le (s : ByteArray) (k : Nat) : 0 ≤ cntW s k ∧ cntW s k ≤ k := by
 induction k with
 | zero => exact ⟨Int.le_refl _,Int.le_refl _⟩
 | succ k ih => rw [cntW]; split <;> omega
def flatW (s : ByteArray) : Prop := s.size ≤ 150 ∧ ∀ i : Nat,i < s.size → (Utf8.decode s i).2 = 1
def needW (k : Int) : Int := if k = 1 then 9 else if k = 3 then 7 else if k = 4 then 10 else if k = 5 then 2 else if k = 6 then 2 else 0
theorem lineW_flat (k : Int) : flatW (lineW k) ∧ cntW (lineW k) (lineW k).size = needW k := by
 have key : ∀ (s : ByteArray),s.size ≤ 150 → (∀ i : Fin s.size,(Utf8.decode s i.val).2 = 1) → flatW s := fun s h1 h2 => ⟨h1,fun i hi => h2 ⟨i,hi⟩⟩
 unfold lineW needW
 split
 ·exact ⟨key _ (by decide +kernel) (by decide +kernel),by decide +kernel⟩
 ·split
  ·exact ⟨key _ (by decide +kernel) (by decide +kernel),by decide +kernel⟩
  ·split
   ·exact ⟨key _ (by decide +kernel) (by decide +kernel),by decide +kernel⟩
   ·split
    ·exact ⟨key _ (by decide +kernel) (by decide +kernel),by decide +kernel⟩
    ·split
     ·exact ⟨key _ (by decide +kernel) (by decide +kernel),by decide +kernel⟩
     ·exact ⟨key _ (by decide +kernel) (by decide +kernel),by decide +kernel⟩
theorem needR_lx (k m : Int) (hk : k ≠ 2) : CallF (fun _ => Tryz.prog) 95 [i6 k,i6 m] [] 0 (fun r h n => (∃ (v : Int) (b : Bool),r = .tup [i6 v,.p (.bool b)] ∧ v = needW k ∧ (b = true ↔ v > 0)) ∧ h = [] ∧ n = 0) := by
 refine callF_of_body tok Tryz.func95 (by kernel_rfl) rfl rfl rfl ?_; conv => cbv
 refine Br.no (show ¬ (k = 2) from hk) ?_
 conv => cbv
 refine callF_frame (lineOf_lx k) [] rfl trivial rfl rfl (fun r h' n' hrr => ?_)
 obtain ⟨⟨z,e1,hz⟩,e2,e3⟩ := hrr
 subst e1 e2 e3
 obtain ⟨hfl,hct⟩ := lineW_flat k
 rw [← hz] at hfl hct
 conv => cbv
 obtain ⟨hsz,hone⟩ := hfl
 obtain ⟨N,hN⟩ : ∃ N : Int,N = z.size := ⟨_,rfl⟩
 refine LoopF.mk (fun kk s => ∃ (p v : Int),s = ⟨undefs 6 ++ .p (.int .i64 (.sym v)) :: undefs 13 ++ .ptr 0 (.lit 0) :: undefs 10,[(0,.iter (fun _ => z) (.sym p))],1⟩ ∧ 0 ≤ p ∧ p ≤ N ∧ kk = (150 - p).toNat ∧ v = cntW z p.toNat) 150 _
  (Re.at [(0,0)] []) ⟨0,0,rfl,by omega,by omega,by omega,rfl⟩ ?_
 rintro kk s ⟨p,v,rfl,hp0,hp1,hkk,hv⟩
 have hb := cntW_le z p.toNat
 have hp0 : 0 ≤ p := hp0
 have hv : v = cntW z p.toNat := hv
 conv => cbv
 by_cases hp : p < (z.size : Int)
 ·refine NextS.more (show p < (z.size : Int) from hp) ?_
  intro r p' hr hp'
  have hr : r = ((Utf8.decode z p.toNat).1 : Int) := hr
  have hp' : p' = p + 1 := by
   have : p' = p + ((Utf8.decode z p.toNat).2 : Int) := hp'
   rw [this,hone p.toNat (by omega)]; rfl
  have hpn : p'.toNat = p.toNat + 1 := by omega
  conv => cbv
  refine callF_frame (ends_lx r) [] rfl trivial rfl rfl (fun r2 h' n' hrr => ?_)
  obtain ⟨⟨b,e1,hb2⟩,e2,e3⟩ := hrr
  subst e1 e2 e3
  cases b with
  | true =>
   have he : (Utf8.decode z p.toNat).1 = 32 ∨ (Utf8.decode z p.toNat).1 = 10 := by have := hb2.1 rfl; omega
   conv => cbv
   refine Fit.mk (by show (-9223372036854775808 : Int) ≤ v + 1; omega) (by show v + 1 ≤ 9223372036854775807; omega) fun v2 hv2 => ?_
   have hv2 : v2 = v + 1 := hv2
   conv => cbv
   refine Again.mk (150 - p').toNat _ (by omega) (Re.at [(0,0)] []) ⟨p',v2,rfl,by omega,by omega,rfl,by rw [hpn,cntW,if_pos he]; omega⟩
  | false =>
   have he : ¬ ((Utf8.decode z p.toNat).1 = 32 ∨ (Utf8.decode z p.toNat).1 = 10) := fun q => by have := hb2.2 (by omega); cases this
   conv => cbv
   refine Again.mk (150 - p').toNat _ (by omega) (Re.at [(0,0)] []) ⟨p',v,rfl,by omega,by omega,rfl,by rw [hpn,cntW,if_neg he]; omega⟩
 ·refine NextS.over (show (z.size : Int) ≤ p by omega) ?_
  have hpe : p.toNat = z.size := by omega
  rw [hpe,hct] at hv
  conv => cbv
  refine Br.mk (fun g => ?_) (fun g => ?_)
  ·have g : 0 < v := g
   conv => cbv
   refine RetF.mk [i6 v,.p (.bool true)] [] 0 (Re.at [] []) rfl ⟨⟨v,true,rfl,hv,by simp; omega⟩,rfl,rfl⟩
  ·have g : ¬ 0 < v := g
   conv => cbv
   refine RetF.mk [i6 v,.p (.bool false)] [] 0 (Re.at [] []) rfl ⟨⟨v,false,rfl,hv,by simp; omega⟩,rfl,rfl⟩
theorem needBuf_lx (m : Int) : CallF (fun _ => Tryz.prog) 95 [.p (.int .i64 (.lit 2)),i6 m] [] 0 (fun r h n => (∃ (v : Int) (b : Bool),r = .tup [i6 v,.p (.bool b)] ∧ ((0 ≤ m ∧ m ≤ 3 ∧ v = m ∧ b = true) ∨ (¬ (0 ≤ m ∧ m ≤ 3) ∧ v = 0 ∧ b = false))) ∧ h = [] ∧ n = 0) := by
 refine callF_of_body tok Tryz.func95 (by kernel_rfl) rfl rfl rfl ?_; conv => cbv
 refine Br.mk (fun g => ?_) (fun g => ?_)
 ·have g : m < 0 := g
  conv => cbv
  refine RetF.mk [i6 0,.p (.bool false)] [] 0 (Re.at [] []) rfl ⟨⟨0,false,rfl,.inr ⟨by omega,rfl,rfl⟩⟩,rfl,rfl⟩
 ·have g : ¬ m < 0 := g
  conv => cbv
  refine Br.mk (fun g1 => ?_) (fun g1 => ?_)
  ·have g1 : 3 < m := g1
   conv => cbv
   refine RetF.mk [i6 0,.p (.bool false)] [] 0 (Re.at [] []) rfl ⟨⟨0,false,rfl,.inr ⟨by omega,rfl,rfl⟩⟩,rfl,rfl⟩
  ·have g1 : ¬ 3 < m := g1
   conv => cbv
   refine RetF.mk [i6 m,.p (.bool true)] [] 0 (Re.at [] []) rfl ⟨⟨m,true,rfl,.inl ⟨by omega,by omega,rfl,rfl⟩⟩,rfl,rfl⟩
def needV (k : Int) : Int := if k = 2 then 0 else needW k
def hasV (k : Int) : Prop := k = 2 ∨ needW k > 0
theorem need_lx (k : Int) : CallF (fun _ => Tryz.prog) 95 [i6 k,.p (.int .i64 (.lit 0))] [] 0 (fun r h n => (∃ (v : Int) (b : Bool),r = .tup [i6 v,.p (.bool b)] ∧ v = needV k ∧ (b = true ↔ hasV k)) ∧ h = [] ∧ n = 0) := by
 by_cases hk : k = 2
 ·refine CallF.le (args0 := [.p (.int .i64 (.lit 2)),i6 0]) (CallF.mono (needBuf_lx 0) ?_) (by simp [ales,ale,pvle,I.val,hk])
  rintro r h n ⟨⟨v,b,e1,h1⟩,e2,e3⟩
  rcases h1 with ⟨_,_,h1,h2⟩ | ⟨h1,_,_⟩
  ·exact ⟨⟨v,b,e1,by rw [h1,needV,if_pos hk],by rw [h2]; simp [hasV,hk]⟩,e2,e3⟩
  ·exact absurd (by omega) h1
 ·refine CallF.le (args0 := [i6 k,i6 0]) (CallF.mono (needR_lx k 0 hk) ?_) (by simp [ales,ale,pvle,I.val])
  rintro r h n ⟨⟨v,b,e1,h1,h2⟩,e2,e3⟩
  exact ⟨⟨v,b,e1,by rw [h1,needV,if_neg hk],by rw [h2,h1]; simp [hasV,hk]⟩,e2,e3⟩
def NeedR (k m v : Int) (b : Bool) : Prop := (k = 2 ∧ ((0 ≤ m ∧ m ≤ 3 ∧ v = m ∧ b = true) ∨ (¬ (0 ≤ m ∧ m ≤ 3) ∧ v = 0 ∧ b = false))) ∨ (k ≠ 2 ∧ v = needW k ∧ (b = true ↔ v > 0))
theorem needAny_lx (k m : Int) : CallF (fun _ => Tryz.prog) 95 [i6 k,i6 m] [] 0 (fun r h n => (∃ (v : Int) (b : Bool),r = .tup [i6 v,.p (.bool b)] ∧ NeedR k m v b) ∧ h = [] ∧ n = 0) := by
 by_cases hk : k = 2
 ·refine CallF.le ((needBuf_lx m).mono ?_) (by simp [ales,ale,pvle,I.val,hk])
  rintro r h n ⟨⟨v,b,e1,h1⟩,e2,e3⟩
  exact ⟨⟨v,b,e1,.inl ⟨hk,h1⟩⟩,e2,e3⟩
 ·refine (needR_lx k m hk).mono ?_
  rintro r h n ⟨⟨v,b,e1,h1,h2⟩,e2,e3⟩
  exact ⟨⟨v,b,e1,.inr ⟨hk,h1,h2⟩⟩,e2,e3⟩
def twosP : List (Int × Int) → List PV
 | [] => []
 | p :: l => .int .i64 (.sym p.1) :: .int .i64 (.sym p.2) :: twosP l
theorem twosP_length : ∀ l,(twosP l).length = 2 * l.length
 | [] => rfl
 | p :: l => by show (twosP l).length + 1 + 1 = _; rw [twosP_length l,List.length_cons]; omega
theorem twosP_get : ∀ (l : List (Int × Int)) (i : Nat) (p : Int × Int),l[i]? = some p → (twosP l)[2 * i]? = some (.int .i64 (.sym p.1)) ∧ (twosP l)[2 * i + 1]? = some (.int .i64 (.sym p.2))
 | [],i,p,h => by simp at h
 | q :: l,0,p,h => by cases h; exact ⟨rfl,rfl⟩
 | q :: l,i + 1,p,h => by
  have := twosP_get l i p h
  rw [show 2 * (i + 1) = 2 * i + 2 by omega]
  exact this
def Sz (l : List (Int × Int)) (X : List Int) : Prop := X.length = l.length ∧ ∀ (i : Nat) (p : Int × Int),l[i]? = some p → ∃ v,X[i]? = some v ∧ NeedR p.1 p.2 v true
theorem sizesOf_lx (l : List (Int × Int)) (k : Int) (cells : List PV) (hk : k = l.length) (hcs : cells = twosP l) (hl : l.length ≤ 100000) : CallF (fun _ => Tryz.prog) 57 [.p (.vsl (.sym k) true cells)] [] 0 (fun r h n => ((∃ (X : List Int) (j : Int) (O : List PV),r = .tup [.p (.vsl (.sym j) true O),.p (.bool true)] ∧ O = ipv X ∧ j = X.length ∧ Sz l X) ∨ (r = .tup [.p .nils,.p (.bool false)] ∧ ∃ p ∈ l,∃ v,NeedR p.1 p.2 v false)) ∧ h = [] ∧ n = 0) := by
 have hcl : cells.length = 2 * l.length := by rw [hcs,twosP_length]
 refine callF_of_body tok Tryz.func57 (by kernel_rfl) rfl rfl rfl ?_; conv => cbv
 refine LoopF.mk (fun kk s => ∃ (i j : Int) (X : List Int) (T : List PV),s = ⟨undefs 2 ++ .p .nils :: .p (.bool false) :: .sl 0 3 1 (.lit 0) (.sym j) :: (undefs 4 ++ .p (.vsl (.sym k) true cells) :: .p (.int .i64 (.sym k)) :: .p (.int .i64 (.sym i)) :: undefs 19),[hpP 0 T],1⟩ ∧ T = ipv X ∧ j = X.length ∧ i = X.length ∧ i ≤ k ∧ (∀ (q : Nat) (p : Int × Int),q < X.length → l[q]? = some p → ∃ v,X[q]? = some v ∧ NeedR p.1 p.2 v true) ∧ kk = (k - i).toNat) k.toNat _
  (Re.at [] [0]) ⟨0,0,[],[],rfl,rfl,rfl,rfl,by omega,fun q p hq => (by simp at hq),by omega⟩ ?_
 rintro kk s ⟨i,j,X,T,rfl,hT,hj,hiX,hik,hX,hkk⟩
 have hTl : T.length = X.length := by rw [hT,ipv_length]
 conv => cbv
 refine Br.mk (fun q => ?_) (fun q => ?_)
 case refine_2 =>
  have q : ¬ i < k := q
  have hXl : X.length = l.length := by omega
  conv => cbv
  refine RetF.mk [.p (.vsl (.sym j) true T),.p (.bool true)] [] 0 (Re.at [] []) rfl ⟨.inl ⟨X,j,T,rfl,hT,hj,hXl,fun q p hp => hX q p (by have := (List.getElem?_eq_some_iff.1 hp).1; omega) hp⟩,rfl,rfl⟩
 have q : i < k := q
 obtain ⟨⟨p1,p2⟩,hp⟩ : ∃ p,l[i.toNat]? = some p := ⟨_,List.getElem?_eq_getElem (by omega)⟩
 obtain ⟨k',rfl⟩ : ∃ k',kk = k' + 1 := ⟨kk - 1,by omega⟩
 have hcc := twosP_get l i.toNat _ hp
 rw [← hcs] at hcc
 dsimp only at hcc
 conv => cbv
 refine Need.mk ⟨by show 0 ≤ i; omega,by show i < k; omega⟩ ?_
 conv => cbv
 refine Sum.mk fun w hw => ?_
 have hw : w = i * 2 := hw
 conv => cbv
 refine Cell.at (w + 0) _ hcc.1 rfl (by omega) ?_
 conv => cbv
 refine Cell.at (w + 1) _ hcc.2 rfl (by omega) ?_
 conv => cbv
 refine callF_frame (needAny_lx p1 p2) [] rfl trivial rfl rfl (fun r h' n' hrr => ?_)
 obtain ⟨⟨v,b,e1,hN⟩,e2,e3⟩ := hrr
 subst e1 e2 e3
 conv => cbv
 cases b with
 | false =>
  conv => cbv
  refine RetF.mk [.p .nils,.p (.bool false)] [] 0 (Re.at [] []) rfl ⟨.inr ⟨rfl,(p1,p2),List.mem_of_getElem? hp,v,hN⟩,rfl,rfl⟩
 | true =>
 conv => cbv
 refine Room.new rfl ?_
 conv => cbv
 refine Room.new ⟨by show (T.length : Int) = j * 1; omega,by show (j + 1) * 8 ≤ 140737488355328; omega,by show j + 1 ≤ 9223372036854775807; omega⟩ ?_
 conv => cbv
 refine Upd.mk fun T2 hT2 => ?_
 have hT2 : T2 = ipv (X ++ [v]) := by rw [show T2 = T ++ [.int .i64 (.sym v)] from hT2,← ipv_app,← hT]; rfl
 conv => cbv
 refine Sum.mk fun j2 hj2 => ?_
 have hj2 : j2 = (X ++ [v]).length := by rw [show j2 = j + 1 from hj2,hj,List.length_append]; rfl
 conv => cbv
 refine Fit.mk (by show (-9223372036854775808 : Int) ≤ i + 1; omega) (by show i + 1 ≤ 9223372036854775807; omega) fun i2 hi2 => ?_
 have hi2 : i2 = i + 1 := hi2
 have hi3 : i2 = ((X ++ [v]).length : Int) := by rw [hi2,hiX,List.length_append]; rfl
 have hX2 : ∀ (q : Nat) (p : Int × Int),q < (X ++ [v]).length → l[q]? = some p → ∃ u,(X ++ [v])[q]? = some u ∧ NeedR p.1 p.2 u true := by
  intro q p hq hpq
  rcases Nat.lt_or_ge q X.length with hlt | hge
  ·obtain ⟨u,h1,h2⟩ := hX q p hlt hpq
   exact ⟨u,by rw [List.getElem?_append_left hlt]; exact h1,h2⟩
  ·have hqe : q = X.length := by rw [List.length_append] at hq; simp at hq; omega
   rw [hqe,show X.length = i.toNat by omega,hp] at hpq
   cases hpq
   exact ⟨v,by rw [hqe,List.getElem?_append_right (Nat.le_refl _),Nat.sub_self]; rfl,hN⟩
 conv => cbv
 refine Again.mk k' _ (Nat.lt_succ_self _) (Re.at [(3,0)] []) ⟨i2,j2,X ++ [v],T2,rfl,hT2,hj2,hi3,by omega,hX2,by omega⟩
def wdsOf : List Int → Int
 | [] => 0
 | n :: l => wordsOf (ofN n) + wdsOf l
theorem wdsOf_take {l : List Int} {i : Nat} {n : Int} (h : l[i]? = some n) : wdsOf (l.take (i + 1)) = wdsOf (l.take i) + wordsOf (ofN n) := by
 induction l generalizing i with
 | nil => simp at h
 | cons a l ih =>
  cases i with
  | zero => cases h; show wordsOf (ofN _) + wdsOf (List.take 0 l) = _; rw [List.take_zero,List.take_zero]; show _ + (0 : Int) = 0 + _; omega
  | succ i =>
   have := ih (i := i) h
   show wordsOf (ofN a) + wdsOf (l.take (i + 1)) = wordsOf (ofN a) + wdsOf (l.take i) + _
   omega
theorem wordsOfS_bd (c : Int) : 0 ≤ wordsOf c ∧ wordsOf c ≤ 32 := by
 unfold wordsOf
 split
 ·omega
 ·split
  ·omega
  ·split
   ·omega
   ·split <;> omega
theorem wordsOf_lx (X : List Int) (j : Int) (O : List PV) (hj : j = X.length) (hO : O = ipv X) (hl : X.length ≤ 100000) (hX : ∀ n ∈ X,0 ≤ n ∧ n ≤ 31) : CallF (fun _ => Tryz.prog) 61 [.p (.vsl (.sym j) true O)] [] 0 (fun r h n => ∃ v : Int,r = .p (.int .i64 (.sym v)) ∧ h = [] ∧ n = 0 ∧ v = wdsOf X) := by
 have hOl : O.length = X.length := by rw [hO,ipv_length]
 refine callF_of_body tok Tryz.func61 (by kernel_rfl) rfl rfl rfl ?_; conv => cbv
 refine LoopF.mk (fun kk s => ∃ i w : Int,s = ⟨undefs 3 ++ .p (.int .i64 (.sym w)) :: (undefs 4 ++ .p (.vsl (.sym j) true O) :: .p (.int .i64 (.sym j)) :: .p (.int .i64 (.sym i)) :: undefs 14),[],0⟩ ∧ w = wdsOf (X.take i.toNat) ∧ 0 ≤ i ∧ i ≤ j ∧ 0 ≤ w ∧ w ≤ 32 * i ∧ kk = (j - i).toNat) j.toNat _
  (Re.at [] []) ⟨0,0,rfl,rfl,by omega,by omega,by omega,by omega,by omega⟩ ?_
 rintro kk s ⟨i,w,rfl,hw,hi0,hij,hw0,hw1,hkk⟩
 conv => cbv
 refine Br.mk (fun q => ?_) (fun q => ?_)
 case refine_2 =>
  have q : ¬ i < j := q
  rw [List.take_of_length_le (by omega : X.length ≤ i.toNat)] at hw
  conv => cbv
  refine RetF.mk [i6 w] [] 0 (Re.at [] []) rfl ⟨w,rfl,rfl,rfl,hw⟩
 have q : i < j := q
 obtain ⟨n,hn⟩ : ∃ n,X[i.toNat]? = some n := ⟨_,List.getElem?_eq_getElem (by omega)⟩
 have hOn : O[i.toNat]? = some (.int .i64 (.sym n)) := by rw [hO]; exact ipv_get hn
 have hnb := hX n (List.mem_of_getElem? hn)
 obtain ⟨k',rfl⟩ : ∃ k',kk = k' + 1 := ⟨kk - 1,by omega⟩
 conv => cbv
 refine Need.mk (show 0 ≤ i ∧ i < j by omega) ?_
 conv => cbv
 refine Cell.at i _ hOn (by simp [I.val]) rfl ?_
 conv => cbv
 refine callF_frame (of_lx n) [] rfl trivial rfl rfl (fun r h' n' hrr => ?_)
 obtain ⟨c,b,e1,e2,e3,hof⟩ := hrr
 subst e1 e2 e3
 have hc : c = ofN n := by
  cases hof with
  | yes c hc h => exact hc
  | no h => exact absurd hnb h
 conv => cbv
 refine callF_frame (words_lx c (wordsOf c) rfl) [] rfl trivial rfl rfl (fun r h' n' ⟨e1,e2,e3⟩ => ?_)
 subst e1 e2 e3
 have hwb := wordsOfS_bd c
 generalize hwc : wordsOf c = wc at hwb
 conv => cbv
 refine Fit.mk (by show (-9223372036854775808 : Int) ≤ w + wc; omega) (by show w + wc ≤ 9223372036854775807; omega) fun w2 hw2 => ?_
 have hw2 : w2 = w + wc := hw2
 conv => cbv
 refine Fit.mk (by show (-9223372036854775808 : Int) ≤ i + 1; omega) (by show i + 1 ≤ 9223372036854775807; omega) fun i2 hi2 => ?_
 have hi2 : i2 = i + 1 := hi2
 have hw3 : w2 = wdsOf (X.take i2.toNat) := by rw [show i2.toNat = i.toNat + 1 by omega,wdsOf_take hn,← hw,← hc,hwc]; exact hw2
 conv => cbv
 refine Again.mk k' _ (Nat.lt_succ_self _) (Re.at [] []) ⟨i2,w2,rfl,hw3,by omega,by omega,by omega,by omega,by omega⟩
theorem Asst.none {W : Int} {s t : Hst} {o : List Gn} (h : Asst W 0 s o t) : o = [] ∧ t = s := by
 obtain ⟨k,hk,hm,_⟩ := h
 cases hm with
 | zero => exact ⟨rfl,rfl⟩
 | succ n out o2 t u hm hp hs => omega
theorem Pre.not {W st : Int} {A : List Int} {s t : Hst} (h : Pre W st A s t) (hn : ¬ (s.ph = 0 ∧ st * W ≤ 100 * usedW s.R)) : t = s := by
 rcases h with ⟨h1,h2,_⟩ | ⟨_,h⟩
 ·exact absurd ⟨h1,h2⟩ hn
 ·exact h
theorem Tried.mono {c N W : Int} {l : List (Int × Int)} {A : List Int} {s t : Hst} {b : Bool} {x : List Int} {o : List Gn} (hW : W = 32 * N) (hg : Good N s) (hn : Nf s.R s.ws) (hl : ∀ p ∈ l,Val p ∧ ofN p.2 = c) (hm : Mono c s.R) (h : Tried W l A s b x o t) : Mono c t.R := by
 rcases (h.whole hW hg hn).2 with ⟨_,_,k⟩ | ⟨t2,t4,k,_⟩
 ·exact (hm.allot hg.a hg.n hg.c hl k).1
 ·exact ((k.mo c (fun p hp => (hl p hp).2) hm).allot k.g4.a k.g4.n k.g4.c hl k.al).1
theorem Alcd.mono {c N W st : Int} {n : Nat} {l : List (Int × Int)} {A : List Int} {s t : Hst} {x : List Int} {o : List Gn} {e : Int} (hW : W = 32 * N) (hg : Good N s) (hn : Nf s.R s.ws) (hl : ∀ p ∈ l,Val p ∧ ofN p.2 = c) (hm : Mono c s.R) (h : Alcd W st n l A s x o e t) : Mono c t.R := by
 cases h with
 | ok x o1 o2 t0 t1 t h0 h1 h2 =>
  obtain ⟨g0,_,r0,w0⟩ := h0.good hW hg
  have m0 : Mono c t0.R := by rw [r0]; exact hm
  have n0 : Nf t0.R t0.ws := by rw [r0,w0]; exact hn
  obtain ⟨k,_,hk,_⟩ := h2
  exact (h1.mono hW g0 n0 hl m0).many hk
 | room x o t0 t h0 h1 =>
  obtain ⟨g0,_,r0,w0⟩ := h0.good hW hg
  have m0 : Mono c t0.R := by rw [r0]; exact hm
  have n0 : Nf t0.R t0.ws := by rw [r0,w0]; exact hn
  exact h1.mono hW g0 n0 hl m0
theorem Alls.kinds {N : Int} {s t : Hst} {l : List (Int × Int)} {x : List Int} (hg : Good N s) (h : Alls s l x t) : ∀ (i : Nat) a p,x[i]? = some a → l[i]? = some p → Kept t.R t.ws a p.1 p.2 := by
 induction h with
 | nil => intro i a p h1; simp at h1
 | snoc l x t k n a R ws h ha ih =>
  intro i b p h1 h2
  obtain ⟨hm,hl⟩ := h.more hg.a hg.n hg.c
  obtain ⟨k1,_,_,_,k5,_⟩ := alloct_ok hm.a ha rfl
  rw [List.getElem?_append] at h1 h2
  by_cases hi : i < x.length
  ·rw [if_pos hi] at h1
   rw [if_pos (by omega)] at h2
   exact k5 _ _ _ (ih i b p h1 h2)
  ·rw [if_neg hi] at h1
   rw [if_neg (by omega)] at h2
   have e : i - x.length = 0 := by have := (List.getElem?_eq_some_iff.1 h1).1; simp at this; omega
   rw [e] at h1
   rw [show i - l.length = 0 by omega] at h2
   cases h1; cases h2
   exact k1
theorem Allot.kinds {N : Int} {s t : Hst} {l : List (Int × Int)} {x : List Int} {b : Bool} (hg : Good N s) (h : Allot s l b x t) : ∀ (i : Nat) a p,x[i]? = some a → l[i]? = some p → Kept t.R t.ws a p.1 p.2 := by
 cases h with
 | ok x t h => exact h.kinds hg
 | no i k n a e y u R R' ws hi h ha he hb => intro i a p h1; simp at h1
theorem Alcd.kinds {N W st : Int} {n : Nat} {l : List (Int × Int)} {A : List Int} {s t : Hst} {x : List Int} {o : List Gn} {e : Int} (hW : W = 32 * N) (hg : Good N s) (hn : Nf s.R s.ws) (h : Alcd W st n l A s x o e t) : ∀ (i : Nat) a p,x[i]? = some a → l[i]? = some p → Kept t.R t.ws a p.1 p.2 := by
 cases h with
 | ok x o1 o2 t0 t1 t h0 h1 h2 =>
  obtain ⟨g0,_,r0,w0⟩ := h0.good hW hg
  have n0 : Nf t0.R t0.ws := by rw [r0,w0]; exact hn
  have g1 := (h1.good hW g0).1
  have a1 := h1.goes hW g0 n0
  have a2 := (h2.goes x hW g1 a1.nf).1
  intro i a p hi hp
  have hax : a ∈ x := List.mem_of_getElem? hi
  refine a2.kf a hax (a1.px a hax) _ _ ?_
  rcases (h1.whole hW g0 n0).2 with ⟨_,_,k⟩ | ⟨t2,t4,k,_⟩
  ·exact k.kinds g0 i a p hi hp
  ·exact k.al.kinds k.g4 i a p hi hp
 | room x o t0 t h0 h1 => intro i a p h1; simp at h1
theorem Allot.roomy {N : Int} {s t : Hst} {l : List (Int × Int)} {x : List Int} {b : Bool} (hg : Good N s) (hl : ∀ p ∈ l,Val p) (hr : objCount s.R + l.length ≤ s.R.length) (h : Allot s l b x t) : b = true := by
 cases h with
 | ok x t h => rfl
 | no i k n a e y u R R' ws hi h ha he hb =>
  exfalso
  have hli := (List.getElem?_eq_some_iff.1 hi).1
  obtain ⟨h2,h3⟩ := h.more hg.a hg.n hg.c
  obtain ⟨v1,v2,v3,v4⟩ := hl (k,n) (List.mem_of_getElem? hi)
  have h5 := h2.cnt
  have h6 := h2.len
  rw [List.length_take] at h3
  have := alloct_err h2.a ha (by omega)
  rw [if_pos ⟨v1,v2,v3,v4⟩] at this
  exact he this
theorem need_val {k m v : Int} (h : NeedR k m v true) : Val (k,v) := by
 rcases h with ⟨rfl,⟨h1,h2,rfl,_⟩ | ⟨_,_,h⟩⟩ | ⟨_,rfl,h⟩
 ·exact ⟨h1,by show v ≤ 31; omega,by show (1 : Int) ≤ 2; omega,by show (2 : Int) ≤ 6; omega⟩
 ·cases h
 ·have h := h.1 rfl
  unfold needW at h ⊢
  unfold Val
  dsimp only
  split at h
  ·split <;> omega
  ·split at h
   ·split <;> omega
   ·split at h
    ·split <;> omega
    ·split at h
     ·split <;> omega
     ·split at h
      ·split <;> omega
      ·omega
theorem usedW_none {R : List Rw} (h : ∀ e ∈ R,e.2 = []) : usedW R = 0 := by
 unfold usedW
 induction R with
 | nil => rfl
 | cons e R ih =>
  rw [List.map_cons,List.sum_cons,ih fun x hx => h x (List.mem_cons_of_mem _ hx),h e (List.mem_cons_self ..)]
  simp
structure Bare0 (N : Int) (s : Hst) : Prop where
 g : Good N s
 r : s.R = List.replicate N.toNat (0,[])
 p : s.ph = 0
theorem Bare0.none {N : Int} {s : Hst} (h : Bare0 N s) (a : Int) : ¬ IsObj s.R a := by rw [h.r]; exact new_none _ _
theorem Bare0.nf {N : Int} {s : Hst} (h : Bare0 N s) : Nf s.R s.ws := fun a l x hk _ => absurd hk.obj6 (h.none a)
theorem Bare0.used {N : Int} {s : Hst} (h : Bare0 N s) : usedW s.R = 0 := by rw [h.r]; exact usedW_none fun e he => by rw [(List.mem_replicate.1 he).2]
theorem Bare0.objs {N : Int} {s : Hst} (h : Bare0 N s) : objs s.R = [] := by
 refine List.eq_nil_iff_forall_not_mem.2 fun a ha => h.none a ((obj_iff h.g.a a).1 ha)
theorem Bare0.count {N : Int} {s : Hst} (h : Bare0 N s) : objCount s.R = 0 := by
 have h1 : (Go.Proofs.YtpbhcdbkmmjimaaGreatDoor.objs s.R).length = objCount s.R := objs_length h.g.a.rows
 rw [h.objs] at h1
 exact h1.symm
theorem Bare0.pre {N W st : Int} {A : List Int} {s t : Hst} (h : Bare0 N s) (hW : W = 32 * N) (hst : 1 ≤ st) (hp : Pre W st A s t) : t = s := by
 refine hp.not fun q => ?_
 have h1 := h.g.n1
 have h2 : 1 * W ≤ st * W := Int.mul_le_mul_of_nonneg_right hst (by omega)
 rw [h.used] at q
 omega
theorem HM.good {R : List Rw} {ws C G : List Int} {N W : Int} {L D Q : List PV} {z : ByteArray} (h : HM R ws C G N W L D Q z) (ov : Bool) (sp cy : Int) (h1 : 1 ≤ N) (h2 : N ≤ 128) (hsp : 0 ≤ sp ∧ sp ≤ N) (hcy : 0 ≤ cy) : Good N ⟨R,ws,C,G,ov,0,sp,cy⟩ :=
 ⟨h.a,h.n,h1,h2,by have := h.c; have := h.w; show (C.length : Int) = 32 * N; omega,.inl rfl,hsp,hcy⟩
theorem Alls.fillG {s t : Hst} {l : List (Int × Int)} {x : List Int} (hF : FillG s.R 0) (hl : ∀ p ∈ l,p = (4,10)) (h : Alls s l x t) : FillG t.R l.length ∧ x = (List.range l.length).map (fun k : Nat => 16 * (k : Int)) := by
 induction h with
 | nil => exact ⟨hF,rfl⟩
 | snoc l x t k n a R ws h ha ih =>
  obtain ⟨i1,i2⟩ := ih fun p hp => hl p (List.mem_append_left _ hp)
  have hp := hl (k,n) (List.mem_append_right _ (List.mem_singleton.2 rfl))
  cases hp
  obtain ⟨h1,h2⟩ := i1.alloc ha rfl
  rw [List.length_append]
  refine ⟨h2,?_⟩
  show _ = (List.range (l.length + 1)).map _
  rw [List.range_succ,List.map_append,← i2,h1]; rfl
theorem gors_rise (n : Nat) : ((List.range n).map (fun k : Nat => 16 * (k : Int))).Pairwise (· < ·) := by
 rw [List.pairwise_map]
 exact List.pairwise_lt_range.imp fun h => by omega
theorem storeAll_fact {N W : Int} {n : Nat} {s t : Hst} {x : List Int} {o : List Gn} {e : Int} (hW : W = 32 * N) (hb : Bare0 N s) (h : Alcd W 100 0 (List.replicate n (4,10)) [] s x o e t) : o = [] ∧ ((n : Int) ≤ 2 * N → e = 0 ∧ x = objs t.R ∧ x.length = n) ∧ (¬ (n : Int) ≤ 2 * N → e = 9 ∧ x = [] ∧ objs t.R = []) := by
 have hg := hb.g
 have hn := hg.n
 have hl : ∀ p ∈ List.replicate n ((4 : Int),(10 : Int)),Val p ∧ ofN p.2 = 2 := by
  intro p hp
  obtain ⟨_,rfl⟩ := List.mem_replicate.1 hp
  exact ⟨⟨by decide,by decide,by decide,by decide⟩,by decide⟩
 have hl2 : ∀ p ∈ List.replicate n ((4 : Int),(10 : Int)),p = (4,10) := fun p hp => (List.mem_replicate.1 hp).2
 have hm : Mono 2 s.R := by rw [hb.r]; exact Mono.new 2 _
 have hF : FillG s.R 0 := by rw [hb.r]; exact FillG.new _
 have hc0 := hb.count
 have hs2 : slotsOf 2 = 2 := rfl
 have first : ∀ b y u,Allot s (List.replicate n (4,10)) b y u → (b = true ↔ (n : Int) ≤ 2 * N) := by
  intro b y u hq
  have k := (hm.allot hg.a hg.n hg.c hl hq).2
  rw [hc0,List.length_replicate,hs2] at k
  rw [k]; omega
 cases h with
 | ok x o1 o2 t0 t1 t h0 h1 h2 =>
  have e0 := hb.pre hW (by omega) h0
  subst e0
  obtain ⟨e2,e3⟩ := h2.none
  subst e2 e3
  obtain ⟨k0,k⟩ := h1.whole hW hg hb.nf
  rcases k with ⟨_,rfl,k⟩ | ⟨t2,t4,k,_⟩
  ·have hle := (first _ _ _ k).1 rfl
   refine ⟨rfl,fun _ => ⟨rfl,?_,?_⟩,fun q => absurd hle q⟩
   ·cases k with
    | ok x t k =>
     have k2 := (k.fillG hF hl2).2
     obtain ⟨k3,_⟩ := k.more hg.a hg.n hg.c
     refine asc_eq (by rw [k2]; exact gors_rise _) (objsTo_asc k3.a.rows _) fun y => ?_
     have := k3.obj y
     rw [hb.objs] at this
     exact ⟨fun q => this.2 (.inr q),fun q => (this.1 q).elim (fun w => by cases w) id⟩
   ·have := (k.good hg).2.2 rfl
    rw [this,List.length_replicate]
  ·obtain ⟨u,hu⟩ := k.g0
   have hgt : ¬ (n : Int) ≤ 2 * N := fun q => by have := (first _ _ _ hu).2 q; cases this
   have hm4 := k.mo 2 (fun p hp => (hl p hp).2) hm
   have k4 := (hm4.allot k.g4.a k.g4.n k.g4.c hl k.al).2.1 rfl
   have n4 := k.g4.n
   rw [List.length_replicate,hs2] at k4
   omega
 | room x o t0 t h0 h1 =>
  have e0 := hb.pre hW (by omega) h0
  subst e0
  obtain ⟨k0,k⟩ := h1.whole hW hg hb.nf
  rcases k with ⟨k,_⟩ | ⟨t2,t4,k,kc⟩
  ·cases k
  ·obtain ⟨u,hu⟩ := k.g0
   have hgt : ¬ (n : Int) ≤ 2 * N := fun q => by have := (first _ _ _ hu).2 q; cases this
   have ho : o = [] := none_of k0 (List.eq_nil_of_length_eq_zero (by omega))
   refine ⟨ho,fun q => absurd q hgt,fun _ => ⟨rfl,rfl,?_⟩⟩
   obtain ⟨g5,m5,_⟩ := k.al.good k.g4
   have hx : x = [] := by
    have hk := k.al
    cases hk with
    | no _ _ _ _ _ _ _ _ _ _ _ _ _ _ _ => rfl
   have c5 := m5.cnt
   have e5 : (objs t.R).length = objCount t.R := objs_length g5.a.rows
   rw [hx] at c5
   have : ([] : List Int).length = 0 := rfl
   exact List.eq_nil_of_length_eq_zero (by omega)
theorem freeAll_lx (R : List Rw) (ws C G : List Int) (N W ph sp cy : Int) (L D Q : List PV) (z : ByteArray) (ov : Bool) (h : HM R ws C G N W L D Q z) (x : List Int) (j : Int) (cells : List PV) (hj : j = x.length) (hcs : cells = ipv x) (hl : x.length ≤ 1000000) :
  CallF (fun _ => Tryz.prog) 97 [.ptr 0 (.lit 0),.p (.vsl (.sym j) true cells)] [hpA 0 1 5 6 3 W ph sp cy,hpB 1 2 4 3 W,hpC 2 3 137 2 N,hpP 3 L,hpP 4 D,hpF 5 z ov,hpP 6 Q] 7 (fun r h n => ∃ (R' : List Rw) (L' : List PV),r = .tup [] ∧ h = [hpA 0 1 5 6 3 W ph sp cy,hpB 1 2 4 3 W,hpC 2 3 137 2 N,hpP 3 L',hpP 4 D,hpF 5 z ov,hpP 6 Q] ∧ n = 7 ∧ HM R' ws C G N W L' D Q z ∧ Backs R x 0 R') := by
 have hcl : cells.length = x.length := by rw [hcs,ipv_length]
 refine callF_of_body tok Tryz.func97 (by kernel_rfl) rfl rfl rfl ?_; conv => cbv
 refine Fit.mk (by show (-9223372036854775808 : Int) ≤ j - 1; omega) (by show j - 1 ≤ 9223372036854775807; omega) fun j1 hj1 => ?_
 have hj1 : j1 = j - 1 := hj1
 conv => cbv
 refine LoopF.mk (fun kk s => ∃ (i : Int) (R1 : List Rw) (L1 : List PV),s = ⟨.ptr 0 (.lit 0) :: .p (.vsl (.sym j) true cells) :: (undefs 2 ++ .p (.int .i64 (.sym i)) :: undefs 14),[hpA 0 1 5 6 3 W ph sp cy,hpB 1 2 4 3 W,hpC 2 3 137 2 N,hpP 3 L1,hpP 4 D,hpF 5 z ov,hpP 6 Q],7⟩ ∧ -1 ≤ i ∧ i < j ∧ HM R1 ws C G N W L1 D Q z ∧ Backs R x (i + 1).toNat R1 ∧ kk = (i + 1).toNat) x.length _
  (Re.at [(0,0),(1,1),(2,2),(3,3),(4,4),(5,5),(6,6)] []) ⟨j1,R,L,rfl,by omega,by omega,h,by rw [show (j1 + 1).toNat = x.length by omega]; exact .zero,by omega⟩ ?_
 rintro kk s ⟨i,R1,L1,rfl,hi0,hi1,h1,hB,hkk⟩
 conv => cbv
 refine Br.mk (fun q => ?_) (fun q => ?_)
 case refine_2 =>
  have q : ¬ 0 ≤ i := q
  rw [show (i + 1).toNat = 0 by omega] at hB
  conv => cbv
  refine RetF.mk [] [hpA 0 1 5 6 3 W ph sp cy,hpB 1 2 4 3 W,hpC 2 3 137 2 N,hpP 3 L1,hpP 4 D,hpF 5 z ov,hpP 6 Q] 7 (Re.at [(0,0),(1,1),(2,2),(3,3),(4,4),(5,5),(6,6)] []) rfl ⟨R1,L1,rfl,rfl,rfl,h1,hB⟩
 have q : 0 ≤ i := q
 obtain ⟨a,ha⟩ : ∃ a,x[i.toNat]? = some a := ⟨_,List.getElem?_eq_getElem (by omega)⟩
 have hca : cells[i.toNat]? = some (.int .i64 (.sym a)) := by rw [hcs]; exact ipv_get ha
 conv => cbv
 refine drawn_sound tok (by kernel_rfl) [(1,[5,4,3,2]),(6,[])] [0,2,3,4,5,1,6] (by kernel_rfl) ?_; conv => cbv
 conv => cbv
 refine Need.mk (show 0 ≤ i ∧ i < j by omega) ?_
 conv => cbv
 refine Cell.at i _ hca (by simp [I.val]) rfl ?_
 conv => cbv
 refine cfr (arena_lx R1 ws C G N W ph sp cy L1 D Q z ov) [(0,0),(1,1),(2,2),(3,3),(4,4),(5,5),(6,6)] (fun r h' n' ⟨e1,e2,e3⟩ => ?_)
 subst e1 e2 e3
 conv => cbv
 refine cfr (freeA_lx a R1 ws N W L1 D h1.l h1.d h1.n h1.r h1.a h1.w) [(0,1),(1,2),(2,3),(3,4)] (fun r h' n' hrr => ?_)
 obtain ⟨e,R2,L2,e1,e2,e3,hL2,hF⟩ := hrr
 subst e1 e2 e3
 have h2 := h1.freet hF hL2
 conv => cbv
 refine Fit.mk (by show (-9223372036854775808 : Int) ≤ i - 1; omega) (by show i - 1 ≤ 9223372036854775807; omega) fun i2 hi2 => ?_
 have hi2 : i2 = i - 1 := hi2
 have hB2 : Backs R x (i2 + 1).toNat R2 := by
  rw [show (i2 + 1).toNat = i.toNat by omega]
  exact .next i.toNat a e R1 R2 (by rw [show i.toNat + 1 = (i + 1).toNat by omega]; exact hB) ha hF
 conv => cbv
 refine Again.mk (i2 + 1).toNat _ (by omega) (Re.at [(0,0),(1,1),(2,2),(3,3),(4,4),(5,5),(6,6)] []) ⟨i2,R2,L2,rfl,by omega,by omega,h2,hB2,rfl⟩
theorem allot_lx (R : List Rw) (ws C G : List Int) (N W ph sp cy : Int) (L D Q : List PV) (z : ByteArray) (ov : Bool) (h : HM R ws C G N W L D Q z) (l : List (Int × Int)) (X : List Int) (k j : Int) (cells O : List PV) (hk : k = l.length) (hcs : cells = twosP l) (hX : X.length = l.length) (hj : j = X.length) (hO : O = ipv X) (hl : l.length ≤ 100000) (KN : List (Int × Int)) (hKN : KN = (l.map Prod.fst).zip X) :
  CallF (fun _ => Tryz.prog) 58 [.ptr 0 (.lit 0),.p (.vsl (.sym k) true cells),.p (.vsl (.sym j) true O)] [hpA 0 1 5 6 3 W ph sp cy,hpB 1 2 4 3 W,hpC 2 3 137 2 N,hpP 3 L,hpP 4 D,hpF 5 z ov,hpP 6 Q] 7 (fun r h n => ∃ (b : Bool) (x : List Int) (R' : List Rw) (ws' C' : List Int) (L' D' Q' : List PV),(∃ (m : Int) (T : List PV),r = .tup [.p (.vsl (.sym m) true T),.p (.bool b)] ∧ T = ipv x ∧ m = x.length) ∧ h = [hpA 0 1 5 6 3 W ph sp cy,hpB 1 2 4 3 W,hpC 2 3 137 2 N,hpP 3 L',hpP 4 D',hpF 5 z ov,hpP 6 Q'] ∧ n = 7 ∧ HM R' ws' C' G N W L' D' Q' z ∧ Allot ⟨R,ws,C,G,ov,ph,sp,cy⟩ KN b x ⟨R',ws',C',G,ov,ph,sp,cy⟩) := by
 have hOl : O.length = X.length := by rw [hO,ipv_length]
 have hcl : cells.length = 2 * l.length := by rw [hcs,twosP_length]
 refine callF_of_body tok Tryz.func58 (by kernel_rfl) rfl rfl rfl ?_; conv => cbv
 have hKNl : KN.length = l.length := by rw [hKN,List.length_zip,List.length_map]; omega
 refine LoopF.mk (fun kk s => ∃ (i m : Int) (x : List Int) (T : List PV) (R1 : List Rw) (ws1 C1 : List Int) (L1 D1 Q1 : List PV),s = ⟨.ptr 0 (.lit 0) :: .p (.vsl (.sym k) true cells) :: .p (.vsl (.sym j) true O) :: (undefs 3 ++ .p .nils :: .p (.bool false) :: .sl 7 3 1 (.lit 0) (.sym m) :: (undefs 4 ++ .p (.vsl (.sym k) true cells) :: .p (.int .i64 (.sym k)) :: .p (.int .i64 (.sym i)) :: undefs 26)),[hpA 0 1 5 6 3 W ph sp cy,hpB 1 2 4 3 W,hpC 2 3 137 2 N,hpP 3 L1,hpP 4 D1,hpF 5 z ov,hpP 6 Q1,hpP 7 T],8⟩ ∧ T = ipv x ∧ m = x.length ∧ i = x.length ∧ i ≤ k ∧ HM R1 ws1 C1 G N W L1 D1 Q1 z ∧ Alls ⟨R,ws,C,G,ov,ph,sp,cy⟩ (KN.take i.toNat) x ⟨R1,ws1,C1,G,ov,ph,sp,cy⟩ ∧ kk = (k - i).toNat) k.toNat _
  (Re.at [(0,0),(1,1),(2,2),(3,3),(4,4),(5,5),(6,6)] [7]) ⟨0,0,[],[],R,ws,C,L,D,Q,rfl,rfl,rfl,rfl,by omega,h,.nil,by omega⟩ ?_
 rintro kk s ⟨i,m,x,T,R1,ws1,C1,L1,D1,Q1,rfl,hT,hm,hix,hik,h1,hA,hkk⟩
 have hTl : T.length = x.length := by rw [hT,ipv_length]
 conv => cbv
 refine Br.mk (fun q => ?_) (fun q => ?_)
 case refine_2 =>
  have q : ¬ i < k := q
  rw [List.take_of_length_le (by omega : KN.length ≤ i.toNat)] at hA
  conv => cbv
  refine RetF.mk [.p (.vsl (.sym m) true T),.p (.bool true)] [hpA 0 1 5 6 3 W ph sp cy,hpB 1 2 4 3 W,hpC 2 3 137 2 N,hpP 3 L1,hpP 4 D1,hpF 5 z ov,hpP 6 Q1] 7 (Re.at [(0,0),(1,1),(2,2),(3,3),(4,4),(5,5),(6,6)] []) rfl ⟨true,x,R1,ws1,C1,L1,D1,Q1,⟨m,T,rfl,hT,hm⟩,rfl,rfl,h1,.ok x _ hA⟩
 have q : i < k := q
 obtain ⟨⟨p1,p2⟩,hp⟩ : ∃ p,l[i.toNat]? = some p := ⟨_,List.getElem?_eq_getElem (by omega)⟩
 obtain ⟨v,hv⟩ : ∃ v,X[i.toNat]? = some v := ⟨_,List.getElem?_eq_getElem (by omega)⟩
 have hkn : KN[i.toNat]? = some (p1,v) := by rw [hKN,List.getElem?_zip_eq_some,List.getElem?_map,hp]; exact ⟨rfl,hv⟩
 have hcc := twosP_get l i.toNat _ hp
 rw [← hcs] at hcc
 dsimp only at hcc
 have hOv : O[i.toNat]? = some (.int .i64 (.sym v)) := by rw [hO]; exact ipv_get hv
 conv => cbv
 refine Need.mk ⟨by show 0 ≤ i; omega,by show i < k; omega⟩ ?_
 conv => cbv
 refine Sum.mk fun w hw => ?_
 have hw : w = i * 2 := hw
 conv => cbv
 refine Cell.at (w + 0) _ hcc.1 rfl (by omega) ?_
 conv => cbv
 refine Cell.at (w + 1) _ hcc.2 rfl (by omega) ?_
 conv => cbv
 refine drawn_sound tok (by kernel_rfl) [(7,[])] [0,1,2,3,4,5,6,7,8,9,10,11,12] (by kernel_rfl) ?_; conv => cbv
 conv => cbv
 refine Need.mk (show 0 ≤ i ∧ i < j by omega) ?_
 conv => cbv
 refine Cell.at i _ hOv (by simp [I.val]) rfl ?_
 conv => cbv
 refine cfr (alloc9_lx R1 ws1 C1 G N W ph sp cy L1 D1 Q1 z ov h1 p1 v) [(0,0),(1,1),(2,2),(3,3),(4,4),(5,5),(6,6)] (fun r h' n' hrr => ?_)
 obtain ⟨a,e,R2,ws2,C2,L2,D2,Q2,e1,e2,e3,h2,hAl,hC2⟩ := hrr
 subst e1 e2 e3
 conv => cbv
 refine Br.mk (fun g => ?_) (fun g => ?_)
 ·have g : e ≠ 0 := g
  obtain ⟨rfl,rfl,_⟩ := alloct_no hAl g
  have hC : C2 = C1 := by rw [hC2]; unfold allocC; rw [if_neg g]
  subst hC
  conv => cbv
  refine CallF.re (args0 := [.ptr 0 (.lit 0),.p (.vsl (.sym m) true T)]) (h' := [hpA 0 1 5 6 3 W ph sp cy,hpB 1 2 4 3 W,hpC 2 3 137 2 N,hpP 3 L2,hpP 4 D2,hpF 5 z ov,hpP 6 Q2]) (Re.at [(0,0),(1,1),(2,2),(3,3),(4,4),(5,5),(6,6)] []) (cfr (freeAll_lx R2 ws2 C2 G N W ph sp cy L2 D2 Q2 z ov h2 x m T hm hT (by omega)) [(0,0),(1,1),(2,2),(3,3),(4,4),(5,5),(6,6)] (fun r h' n' hrr => ?_))
  obtain ⟨R3,L3,e1,e2,e3,h3,hB⟩ := hrr
  subst e1 e2 e3
  conv => cbv
  refine RetF.mk [.p (.vsl (.sym 0) true []),.p (.bool false)] [hpA 0 1 5 6 3 W ph sp cy,hpB 1 2 4 3 W,hpC 2 3 137 2 N,hpP 3 L3,hpP 4 D2,hpF 5 z ov,hpP 6 Q2] 7 (Re.at [(0,0),(1,1),(2,2),(3,3),(4,4),(5,5),(6,6)] []) rfl ⟨false,[],R3,ws2,C2,L3,D2,Q2,⟨0,[],rfl,rfl,rfl⟩,rfl,rfl,h3,.no i.toNat p1 v a e x ⟨R2,ws2,C2,G,ov,ph,sp,cy⟩ R2 R3 ws2 hkn hA hAl g hB⟩
 have g : e = 0 := Classical.byContradiction g
 conv => cbv
 refine Room.new rfl ?_
 conv => cbv
 refine Room.new ⟨by show (T.length : Int) = m * 1; omega,by show (m + 1) * 8 ≤ 140737488355328; omega,by show m + 1 ≤ 9223372036854775807; omega⟩ ?_
 conv => cbv
 refine Upd.mk fun T2 hT2 => ?_
 have hT2 : T2 = ipv (x ++ [a]) := by rw [show T2 = T ++ [.int .i64 (.sym a)] from hT2,← ipv_app,← hT]; rfl
 conv => cbv
 refine Sum.mk fun m2 hm2 => ?_
 have hm2 : m2 = (x ++ [a]).length := by rw [show m2 = m + 1 from hm2,hm,List.length_append]; rfl
 conv => cbv
 refine Fit.mk (by show (-9223372036854775808 : Int) ≤ i + 1; omega) (by show i + 1 ≤ 9223372036854775807; omega) fun i2 hi2 => ?_
 have hi2 : i2 = i + 1 := hi2
 have hi3 : i2 = ((x ++ [a]).length : Int) := by rw [hi2,hix,List.length_append]; rfl
 have hA2 : Alls ⟨R,ws,C,G,ov,ph,sp,cy⟩ (KN.take i2.toNat) (x ++ [a]) ⟨R2,ws2,C2,G,ov,ph,sp,cy⟩ := by
  rw [show i2.toNat = i.toNat + 1 by omega,List.take_add_one,hkn,hC2,g]
  rw [g] at hAl
  exact .snoc _ x _ p1 v a R2 ws2 hA hAl
 conv => cbv
 refine Again.mk (k - i2).toNat _ (by omega) (Re.at [(0,0),(1,1),(2,2),(3,3),(4,4),(5,5),(6,6),(10,7)] []) ⟨i2,m2,x ++ [a],T2,R2,ws2,C2,L2,D2,Q2,rfl,hT2,hm2,hi3,by omega,h2,hA2,rfl⟩
def Renewed (W st : Int) (l : List (Int × Int)) (A : List Int) (s : Hst) : Prop := (s.ph = 0 ∧ st * W ≤ 100 * usedW s.R) ∨ ∃ t0 t1,Pre W st A s t0 ∧ Allot t0 l false [] t1
theorem sz_bd {l : List (Int × Int)} {X : List Int} (h : Sz l X) : ∀ n ∈ X,0 ≤ n ∧ n ≤ 31 := by
 intro n hn
 obtain ⟨i,hi⟩ := List.getElem?_of_mem hn
 have hil := (List.getElem?_eq_some_iff.1 hi).1
 have hl := h.1
 obtain ⟨v,hv,hN⟩ := h.2 i _ (List.getElem?_eq_getElem (by omega : i < l.length))
 rw [hi] at hv
 cases hv
 have := need_val hN
 exact ⟨this.1,this.2.1⟩
theorem usedW_bd : ∀ {R : List Rw},(∀ e ∈ R,e.2.length ≤ 8) → 0 ≤ usedW R ∧ usedW R ≤ 256 * R.length
 | [],_ => ⟨Int.le_refl _,Int.le_refl _⟩
 | e :: R,h => by
  have h1 := usedW_bd (R := R) fun x hx => h x (List.mem_cons_of_mem _ hx)
  have h2 := wordsOfS_bd e.1
  have h3 := h e (List.mem_cons_self ..)
  have h4 := List.count_le_length (a := true) (l := e.2)
  have h5 : (0 : Int) ≤ (e.2.count true : Int) * wordsOf e.1 := Int.mul_nonneg (by omega) h2.1
  have h6 : (e.2.count true : Int) * wordsOf e.1 ≤ 8 * 32 := Int.mul_le_mul (by omega) h2.2 h2.1 (by decide)
  unfold usedW at h1 ⊢
  rw [List.map_cons,List.sum_cons,List.length_cons]
  omega
theorem wdsOf_bd : ∀ X : List Int,0 ≤ wdsOf X ∧ wdsOf X ≤ 32 * X.length
 | [] => ⟨Int.le_refl _,Int.le_refl _⟩
 | n :: X => by
  have h1 := wdsOf_bd X
  have h2 := wordsOfS_bd (ofN n)
  rw [wdsOf,List.length_cons]
  omega
theorem Allot.no_x {s t : Hst} {l : List (Int × Int)} {x : List Int} (h : Allot s l false x t) : x = [] := by
 cases h with
 | no _ _ _ _ _ _ _ _ _ _ _ _ _ _ _ => rfl
theorem Made.tried {W : Int} {A x1 x : List Int} {l : List (Int × Int)} {s t1 t4 t : Hst} {o : List Gn} {b : Bool} (h1 : Allot s l false x1 t1) (h : Made W A t1 o t4) (h5 : Allot t4 l b x t) : Tried W l A s b x o t := by
 have hx := h1.no_x
 subst hx
 obtain ⟨o1,o2,k1,k2,t2,t3,rfl,hM1,hp1,hB,hM2,hp2⟩ := h
 exact .forced b x o1 o2 k1 k2 t1 t2 t3 t4 t h1 hM1 hp1 hB hM2 hp2 h5
theorem alloc21_lx (R : List Rw) (ws C G : List Int) (N W ph sp cy : Int) (L D Q : List PV) (z : ByteArray) (ov : Bool) (h : HM R ws C G N W L D Q z) (o : Unit → Obj) (ho : IsPow o) (st as_ : Int) (hc : COk N st as_) (hg : Good N ⟨R,ws,C,G,ov,ph,sp,cy⟩) (hcy : cy ≤ 700000000) (l : List (Int × Int)) (k : Int) (cells : List PV) (hk : k = l.length) (hcs : cells = twosP l) (hl : l.length ≤ 100000) (A : List Int) (j : Int) (ca : List PV) (hca : ca = ipv A) (hj : j = A.length) (hAl : A.length ≤ 100000) :
  CallF (fun _ => Tryz.prog) 24 [.ptr 0 (.lit 0),.p (.vsl (.sym k) true cells),.p (.vsl (.sym j) true ca)] [(0,.mix [.ptr 1 (.lit 0),i6 st,i6 as_]),hpA 1 2 6 7 3 W ph sp cy,hpB 2 3 5 3 W,hpC 3 4 137 2 N,hpP 4 L,hpP 5 D,hpF 6 z ov,hpP 7 Q,(8,.fix 0 o)] 9 (fun r h n => (r = .tup [.p .nils,.p .nils,.p (.int .i64 (.lit 1))] ∧ (∃ p ∈ l,∃ v,NeedR p.1 p.2 v false) ∧ h = [(0,.mix [.ptr 1 (.lit 0),i6 st,i6 as_]),hpA 1 2 6 7 3 W ph sp cy,hpB 2 3 5 3 W,hpC 3 4 137 2 N,hpP 4 L,hpP 5 D,hpF 6 z ov,hpP 7 Q,(8,.fix 0 o)] ∧ n = 9) ∨ ∃ (X x : List Int) (out : List Gn) (e mx mg : Int) (T cellsh : List PV) (Rh : List Rw) (wh Ch Gh : List Int) (ovh : Bool) (ph2 sp2 cy2 : Int) (Lh Dh Qh : List PV) (zh : ByteArray),r = .tup [.p (.vsl (.sym mx) true T),.p (.vsl (.sym mg) true cellsh),i6 e] ∧ Sz l X ∧ ((h = [(0,.mix [.ptr 1 (.lit 0),i6 st,i6 as_]),hpA 1 2 6 7 3 W ph2 sp2 cy2,hpB 2 3 5 3 W,hpC 3 4 137 2 N,hpP 4 Lh,hpP 5 Dh,hpF 6 zh ovh,hpP 7 Qh,(8,.fix 0 o)] ∧ n = 9) ∨ (h = [(0,.mix [.ptr 1 (.lit 0),i6 st,i6 as_]),hpA 1 2 9 7 3 W ph2 sp2 cy2,hpB 2 3 5 3 W,hpC 3 4 137 2 N,hpP 4 Lh,hpP 5 Dh,hpF 9 zh ovh,hpP 7 Qh,(8,.fix 0 o)] ∧ n = 10 ∧ Renewed W st ((l.map Prod.fst).zip X) A ⟨R,ws,C,G,ov,ph,sp,cy⟩)) ∧ HM Rh wh Ch Gh N W Lh Dh Qh zh ∧ T = ipv x ∧ mx = x.length ∧ cellsh = gpv out ∧ mg = out.length ∧ Alcd W st (as_ * wdsOf X).toNat ((l.map Prod.fst).zip X) A ⟨R,ws,C,G,ov,ph,sp,cy⟩ x out e ⟨Rh,wh,Ch,Gh,ovh,ph2,sp2,cy2⟩) := by
 have hW : W = 32 * N := h.w
 have hn1 := hg.n1
 have hn2 := hg.n2
 have hNR := h.n
 unfold COk at hc
 refine callF_of_bodyB tok Tryz.func24 (by kernel_rfl) rfl rfl rfl [7,11] ?_; conv => cbv
 refine cfr (heapS_lx R ws C G N W ph sp cy L D Q z ov st as_) [(0,0),(1,1),(2,2),(3,3),(4,4),(5,5),(6,6),(7,7)] (fun r h' n' ⟨e1,e2,e3⟩ => ?_)
 subst e1 e2 e3
 conv => cbv
 refine CallF.re (args0 := [.p (.vsl (.sym k) true cells)]) (h' := [(0,.mix [.ptr 1 (.lit 0),i6 st,i6 as_]),hpA 1 2 6 7 3 W ph sp cy,hpB 2 3 5 3 W,hpC 3 4 137 2 N,hpP 4 L,hpP 5 D,hpF 6 z ov,hpP 7 Q,(8,.fix 0 o)]) (Re.at [(0,0),(1,1),(2,2),(3,3),(4,4),(5,5),(6,6),(7,7),(8,8)] []) (cfr (sizesOf_lx l k cells hk hcs hl) [] (fun r h' n' hrr => ?_))
 obtain ⟨hrr,e2,e3⟩ := hrr
 subst e2 e3
 rcases hrr with ⟨X,jx,O,e1,hO,hjx,hX⟩ | ⟨e1,hbad⟩
 case inr =>
  subst e1
  conv => cbv
  refine RetF.mk [.p .nils,.p .nils,.p (.int .i64 (.lit 1))] [(0,.mix [.ptr 1 (.lit 0),i6 st,i6 as_]),hpA 1 2 6 7 3 W ph sp cy,hpB 2 3 5 3 W,hpC 3 4 137 2 N,hpP 4 L,hpP 5 D,hpF 6 z ov,hpP 7 Q,(8,.fix 0 o)] 9 (Re.at [(0,0),(1,1),(2,2),(3,3),(4,4),(5,5),(6,6),(7,7),(8,8)] []) rfl (.inl ⟨rfl,hbad,rfl,rfl⟩)
 subst e1
 conv => cbv
 refine JoinF.mk (fun s => (s = ⟨.ptr 0 (.lit 0) :: .p (.vsl (.sym k) true cells) :: .p (.vsl (.sym j) true ca) :: (undefs 6 ++ .ptr 1 (.lit 0) :: .p (.vsl (.sym jx) true O) :: undefs 69),[(0,.mix [.ptr 1 (.lit 0),i6 st,i6 as_]),hpA 1 2 6 7 3 W ph sp cy,hpB 2 3 5 3 W,hpC 3 4 137 2 N,hpP 4 L,hpP 5 D,hpF 6 z ov,hpP 7 Q,(8,.fix 0 o)],9⟩ ∧ ¬ (ph = 0 ∧ st * W ≤ 100 * usedW R)) ∨ ∃ (C3 G3 : List Int) (ov3 : Bool) (Q3 : List PV) (z3 : ByteArray),s = ⟨.ptr 0 (.lit 0) :: .p (.vsl (.sym k) true cells) :: .p (.vsl (.sym j) true ca) :: (undefs 6 ++ .ptr 1 (.lit 0) :: .p (.vsl (.sym jx) true O) :: undefs 69),[(0,.mix [.ptr 1 (.lit 0),i6 st,i6 as_]),hpA 1 2 9 7 3 W 1 sp cy,hpB 2 3 5 3 W,hpC 3 4 137 2 N,hpP 4 L,hpP 5 D,hpF 9 z3 ov3,hpP 7 Q3,(8,.fix 0 o)],10⟩ ∧ HM R ws C3 G3 N W L D Q3 z3 ∧ (ph = 0 ∧ st * W ≤ 100 * usedW R) ∧ (C3,G3,ov3) = begS R W A) ?_ ?_
 ·refine drawn_sound tok (by kernel_rfl) [(1,[]),(5,[12,11,10,9,8]),(6,[12,11,10,9,8]),(13,[7,11,10,9,8]),(14,[7,11,10,9,8])] [0,1,2,3,4,8,9,10,11,12,5,6,7,13,14,15,16,17] (by kernel_rfl) ?_; conv => cbv
  conv => cbv
  refine cfr (phase_lx R ws C G N W ph sp cy L D Q z ov) [(0,1),(1,2),(2,3),(3,4),(4,5),(5,6),(6,7)] (fun r h' n' ⟨e1,e2,e3⟩ => ?_)
  subst e1 e2 e3
  conv => cbv
  refine Br.mk (fun q => ?_) (fun q => ?_)
  case refine_2 =>
   have q : ¬ ph = 0 := q
   conv => cbv
   refine Joined.mk _ (Re.at [(0,0),(1,1),(2,2),(3,3),(4,4),(5,5),(6,6),(7,7),(8,8)] []) (.inl ⟨rfl,fun w => q w.1⟩)
  have q : ph = 0 := q
  conv => cbv
  refine cfr (arena_lx R ws C G N W ph sp cy L D Q z ov) [(0,1),(1,2),(2,3),(3,4),(4,5),(5,6),(6,7)] (fun r h' n' ⟨e1,e2,e3⟩ => ?_)
  subst e1 e2 e3
  conv => cbv
  obtain ⟨u,hu⟩ : ∃ u : Int,u = usedW R := ⟨_,rfl⟩
  refine cfr (usedA_lx R ws N W L D h.l h.d h.n h.r h.a h.w u hu) [(0,2),(1,3),(2,4),(3,5)] (fun r h' n' ⟨e1,e2,e3⟩ => ?_)
  subst e1 e2 e3
  conv => cbv
  have hub := usedW_bd (R := R) (fun e he => (h.a.rows e he).1)
  rw [← hu] at hub
  have hsW : 0 ≤ st * W ∧ st * W ≤ 100 * 4096 := ⟨Int.mul_nonneg (by omega) (by omega),Int.mul_le_mul hc.2.1 (by omega) (by omega) (by decide)⟩
  refine Fit.mk (by show (-9223372036854775808 : Int) ≤ 100 * u; omega) (by show 100 * u ≤ 9223372036854775807; omega) fun u2 hu2 => ?_
  have hu2 : u2 = 100 * u := hu2
  conv => cbv
  refine cfr (arena_lx R ws C G N W ph sp cy L D Q z ov) [(0,1),(1,2),(2,3),(3,4),(4,5),(5,6),(6,7)] (fun r h' n' ⟨e1,e2,e3⟩ => ?_)
  subst e1 e2 e3
  conv => cbv
  refine cfr (wordsA_lx R ws N W L D h.l h.d h.n h.r h.a h.w) [(0,2),(1,3),(2,4),(3,5)] (fun r h' n' ⟨e1,e2,e3⟩ => ?_)
  subst e1 e2 e3
  conv => cbv
  refine Fit.mk (by show (-9223372036854775808 : Int) ≤ st * W; omega) (by show st * W ≤ 9223372036854775807; omega) fun w2 hw2 => ?_
  have hw2 : w2 = st * W := hw2
  conv => cbv
  refine Br.mk (fun q2 => ?_) (fun q2 => ?_)
  case refine_2 =>
   have q2 : ¬ w2 ≤ u2 := q2
   conv => cbv
   refine Joined.mk _ (Re.at [(0,0),(1,1),(2,2),(3,3),(4,4),(5,5),(6,6),(7,7),(8,8)] []) (.inl ⟨rfl,fun w => q2 (by rw [hw2,hu2,hu]; exact w.2)⟩)
  have q2 : w2 ≤ u2 := q2
  conv => cbv
  refine cfr (begin_lx R ws C G N W ph sp cy L D Q z ov h o ho A j ca hca hj (by omega) q) [(0,1),(1,2),(2,3),(3,4),(4,5),(5,6),(6,7),(7,8)] (fun r h' n' hrr => ?_)
  obtain ⟨C3,G3,ov3,Q3,z3,e1,e2,e3,h3,hb3⟩ := hrr
  subst e1 e2 e3
  conv => cbv
  refine Joined.mk _ (Re.at [(0,0),(1,1),(2,2),(3,3),(4,4),(5,5),(6,6),(7,7),(8,8),(9,9)] []) (.inr ⟨C3,G3,ov3,Q3,z3,rfl,h3,⟨q,by rw [← hu,← hu2,← hw2]; exact q2⟩,hb3⟩)
 have hXl : X.length = l.length := hX.1
 rintro s (⟨rfl,hnd⟩ | ⟨C3,G3,ov3,Q3,z3,rfl,h3,hdue,hb3⟩)
 ·have hg0 : Good N ⟨R,ws,C,G,ov,ph,sp,cy⟩ := hg
  have hpre : Pre W st A ⟨R,ws,C,G,ov,ph,sp,cy⟩ ⟨R,ws,C,G,ov,ph,sp,cy⟩ := .inr ⟨hnd,rfl⟩
  conv => cbv
  refine cfr (allot_lx R ws C G N W ph sp cy L D Q z ov h l X k jx cells O hk hcs hXl hjx hO hl ((l.map Prod.fst).zip X) rfl) [(0,1),(1,2),(2,3),(3,4),(4,5),(5,6),(6,7)] (fun r h' n' hrr => ?_)
  obtain ⟨b1,x1,R1,ws1,C1,L1,D1,Q1,⟨mx,Tx,e1,hTx,hmx⟩,e2,e3,h1,hA1⟩ := hrr
  subst e1 e2 e3
  conv => cbv
  obtain ⟨hg1,hmo1,_⟩ := hA1.good hg0
  refine JoinF.mk (fun s => (∃ (m2 : Int) (x2 : List Int) (T2 : List PV) (R2 : List Rw) (ws2 C2 : List Int) (L2 D2 Q2 : List PV),s = ⟨.ptr 0 (.lit 0) :: .p (.vsl (.sym k) true cells) :: .p (.vsl (.sym j) true ca) :: (undefs 6 ++ .ptr 1 (.lit 0) :: .p (.vsl (.sym jx) true O) :: .p (.bool true) :: .p .nils :: .p (.vsl (.sym m2) true T2) :: undefs 66),[(0,.mix [.ptr 1 (.lit 0),i6 st,i6 as_]),hpA 1 2 6 7 3 W ph sp cy,hpB 2 3 5 3 W,hpC 3 4 137 2 N,hpP 4 L2,hpP 5 D2,hpF 6 z ov,hpP 7 Q2,(8,.fix 0 o)],9⟩ ∧ T2 = ipv x2 ∧ m2 = x2.length ∧ HM R2 ws2 C2 G N W L2 D2 Q2 z ∧ Allot ⟨R,ws,C,G,ov,ph,sp,cy⟩ ((l.map Prod.fst).zip X) true x2 ⟨R2,ws2,C2,G,ov,ph,sp,cy⟩) ∨ ∃ (b2 : Bool) (m2 mg : Int) (x2 : List Int) (og : List Gn) (T2 cg : List PV) (R2 : List Rw) (ws2 C2 G2 : List Int) (ov2 : Bool) (sp2 cy2 : Int) (L2 D2 Q2 : List PV) (z2 : ByteArray),s = ⟨.ptr 0 (.lit 0) :: .p (.vsl (.sym k) true cells) :: .p (.vsl (.sym j) true ca) :: (undefs 6 ++ .ptr 1 (.lit 0) :: .p (.vsl (.sym jx) true O) :: .p (.bool b2) :: .sl 10 40 4 (.lit 0) (.sym mg) :: .p (.vsl (.sym m2) true T2) :: undefs 66),[(0,.mix [.ptr 1 (.lit 0),i6 st,i6 as_]),hpA 1 2 9 7 3 W 0 sp2 cy2,hpB 2 3 5 3 W,hpC 3 4 137 2 N,hpP 4 L2,hpP 5 D2,hpF 9 z2 ov2,hpP 7 Q2,(8,.fix 0 o),hpP 10 cg],11⟩ ∧ T2 = ipv x2 ∧ m2 = x2.length ∧ cg = gpv og ∧ mg = og.length ∧ HM R2 ws2 C2 G2 N W L2 D2 Q2 z2 ∧ (∃ t1,Allot ⟨R,ws,C,G,ov,ph,sp,cy⟩ ((l.map Prod.fst).zip X) false [] t1) ∧ Tried W ((l.map Prod.fst).zip X) A ⟨R,ws,C,G,ov,ph,sp,cy⟩ b2 x2 og ⟨R2,ws2,C2,G2,ov2,0,sp2,cy2⟩) ?_ ?_
  ·cases b1 with
   | true =>
    conv => cbv
    refine Joined.mk _ (Re.at [(0,0),(1,1),(2,2),(3,3),(4,4),(5,5),(6,6),(7,7),(8,8)] []) (.inl ⟨mx,x1,Tx,R1,ws1,C1,L1,D1,Q1,rfl,hTx,hmx,h1,hA1⟩)
   | false =>
    conv => cbv
    refine cfr (makeRoom_lx R1 ws1 C1 G N W ph sp cy L1 D1 Q1 z ov h1 o ho hg1 (by omega) A j ca hca hj hAl) [(0,1),(1,2),(2,3),(3,4),(4,5),(5,6),(6,7),(7,8)] (fun r h' n' hrr => ?_)
    obtain ⟨og,mg,cg,R4,ws4,C4,G4,ov4,sp4,cy4,L4,D4,Q4,z4,e1,e2,e3,h4,hcg,hmg,hMd⟩ := hrr
    subst e1 e2 e3
    conv => cbv
    refine cfr (allot_lx R4 ws4 C4 G4 N W 0 sp4 cy4 L4 D4 Q4 z4 ov4 h4 l X k jx cells O hk hcs hXl hjx hO hl ((l.map Prod.fst).zip X) rfl) [(0,1),(1,2),(2,3),(3,4),(4,5),(5,9),(6,7)] (fun r h' n' hrr => ?_)
    obtain ⟨b2,x2,R2,ws2,C2,L2,D2,Q2,⟨m2,T2,e1,hT2,hm2⟩,e2,e3,h2,hA2⟩ := hrr
    subst e1 e2 e3
    conv => cbv
    refine Joined.mk _ (Re.at [(0,0),(1,1),(2,2),(3,3),(4,4),(5,5),(7,7),(8,8),(9,9),(10,10)] []) (.inr ⟨b2,m2,mg,x2,og,T2,cg,R2,ws2,C2,G4,ov4,sp4,cy4,L2,D2,Q2,z4,rfl,hT2,hm2,hcg,hmg,h2,⟨_,by have w := hA1.no_x; subst w; exact hA1⟩,hMd.tried hA1 hA2⟩)
  rintro s (⟨m2,x2,T2,R2,ws2,C2,L2,D2,Q2,rfl,hT2,hm2,h2,hA2⟩ | ⟨b2,m2,mg,x2,og,T2,cg,R2,ws2,C2,G2,ov2,sp2,cy2,L2,D2,Q2,z2,rfl,hT2,hm2,hcg,hmg,h2,hA2,hTr⟩)
  ·have hg2 := (hA2.good hg0).1
   have hcy2 : cy ≤ 900000000 := by omega
   conv => cbv
   refine drawn_sound tok (by kernel_rfl) [(8,[6,5,4,3,2,1,0]),(10,[1,0]),(11,[0])] [0,1,2,3,4,5,6,7,8,9,10,11,12,13,14] (by kernel_rfl) ?_; conv => cbv
   conv => cbv
   refine cfr (wordsOf_lx X jx O hjx hO (by omega) (sz_bd hX)) [] (fun r h' n' hrr => ?_)
   obtain ⟨v,e1,e2,e3,hv⟩ := hrr
   subst e1 e2 e3
   have hvb := wdsOf_bd X
   rw [← hv] at hvb
   have hav : 0 ≤ as_ * v ∧ as_ * v ≤ 8 * 3200000 := ⟨Int.mul_nonneg (by omega) (by omega),Int.mul_le_mul (by omega) (by omega) (by omega) (by decide)⟩
   conv => cbv
   refine Fit.mk (by show (-9223372036854775808 : Int) ≤ as_ * v; omega) (by show as_ * v ≤ 9223372036854775807; omega) fun c hc2 => ?_
   have hc2 : c = as_ * wdsOf X := by rw [← hv]; exact hc2
   conv => cbv
   have hcb : 0 ≤ c ∧ c ≤ 25600000 := by rw [hv] at hav; omega
   refine cfr (steps_lx R2 ws2 C2 G N W ph sp cy L2 D2 Q2 z ov h2 o ho hg2 hcy2 c hcb.1 (by omega)) [(0,1),(1,2),(2,3),(3,4),(4,5),(5,6),(6,7),(7,8)] (fun r h' n' hrr => ?_)
   obtain ⟨os,ms,ph5,cs,R5,ws5,C5,G5,ov5,sp5,cy5,L5,D5,Q5,z5,e1,e2,e3,h5,hcs5,hms,hAs⟩ := hrr
   subst e1 e2 e3
   rw [hc2] at hAs
   have hsg := hAs.good hW hg2
   have hsl : os.length ≤ 69664 := hsg.2.2
   have hcl5 : cs.length = 4 * os.length := by rw [hcs5,gpv_length]
   conv => cbv
   refine Need.mk (by show (cs.length : Int) = ms * 4; omega) ?_
   conv => cbv
   refine Need.mk ⟨by show ms * 48 ≤ 140737488355328; omega,by show ms ≤ 9223372036854775807; omega⟩ ?_
   conv => cbv
   refine RetF.mk [.p (.vsl (.sym m2) true T2),.p (.vsl (.sym ms) true cs),i6 0] [(0,.mix [.ptr 1 (.lit 0),i6 st,i6 as_]),hpA 1 2 6 7 3 W ph5 sp5 cy5,hpB 2 3 5 3 W,hpC 3 4 137 2 N,hpP 4 L5,hpP 5 D5,hpF 6 z5 ov5,hpP 7 Q5,(8,.fix 0 o)] 9 (Re.at [(0,0),(1,1),(2,2),(3,3),(4,4),(5,5),(6,6),(7,7),(8,8)] []) rfl (.inr ⟨X,x2,os,0,m2,ms,T2,cs,R5,ws5,C5,G5,ov5,ph5,sp5,cy5,L5,D5,Q5,z5,rfl,hX,.inl ⟨rfl,rfl⟩,h5,hT2,hm2,hcs5,hms,.ok x2 [] os _ _ _ hpre (.quick x2 _ hA2) hAs⟩)
  ·obtain ⟨hg2,hcyq,_,hogl⟩ := hTr.good hW hg0
   have hcy2 : cy2 ≤ 900000000 := by have h9 : cy2 ≤ cy + 4354 := hcyq; omega
   cases b2 with
   | false =>
    conv => cbv
    refine RetF.mk [.p (.vsl (.sym 0) true []),.p (.vsl (.sym mg) true cg),i6 9] [(0,.mix [.ptr 1 (.lit 0),i6 st,i6 as_]),hpA 1 2 9 7 3 W 0 sp2 cy2,hpB 2 3 5 3 W,hpC 3 4 137 2 N,hpP 4 L2,hpP 5 D2,hpF 9 z2 ov2,hpP 7 Q2,(8,.fix 0 o)] 10 (Re.at [(0,0),(1,1),(2,2),(3,3),(4,4),(5,5),(9,9),(7,7),(8,8)] []) rfl (.inr ⟨X,[],og,9,0,mg,[],cg,R2,ws2,C2,G2,ov2,0,sp2,cy2,L2,D2,Q2,z2,rfl,hX,.inr ⟨rfl,rfl,.inr ⟨_,_,hpre,hA2.choose_spec⟩⟩,h2,rfl,rfl,hcg,hmg,.room x2 og _ _ hpre hTr⟩)
   | true =>
    conv => cbv
    refine drawn_sound tok (by kernel_rfl) [(8,[6,5,4,3,2,1,0]),(10,[1,0]),(11,[0])] [0,1,2,3,4,5,6,7,8,9,10,11,12,13,14] (by kernel_rfl) ?_; conv => cbv
    conv => cbv
    refine cfr (wordsOf_lx X jx O hjx hO (by omega) (sz_bd hX)) [] (fun r h' n' hrr => ?_)
    obtain ⟨v,e1,e2,e3,hv⟩ := hrr
    subst e1 e2 e3
    have hvb := wdsOf_bd X
    rw [← hv] at hvb
    have hav : 0 ≤ as_ * v ∧ as_ * v ≤ 8 * 3200000 := ⟨Int.mul_nonneg (by omega) (by omega),Int.mul_le_mul (by omega) (by omega) (by omega) (by decide)⟩
    conv => cbv
    refine Fit.mk (by show (-9223372036854775808 : Int) ≤ as_ * v; omega) (by show as_ * v ≤ 9223372036854775807; omega) fun c hc2 => ?_
    have hc2 : c = as_ * wdsOf X := by rw [← hv]; exact hc2
    conv => cbv
    have hcb : 0 ≤ c ∧ c ≤ 25600000 := by rw [hv] at hav; omega
    refine cfr (steps_lx R2 ws2 C2 G2 N W 0 sp2 cy2 L2 D2 Q2 z2 ov2 h2 o ho hg2 hcy2 c hcb.1 (by omega)) [(0,1),(1,2),(2,3),(3,4),(4,5),(5,9),(6,7),(7,8)] (fun r h' n' hrr => ?_)
    obtain ⟨os,ms,ph5,cs,R5,ws5,C5,G5,ov5,sp5,cy5,L5,D5,Q5,z5,e1,e2,e3,h5,hcs5,hms,hAs⟩ := hrr
    subst e1 e2 e3
    rw [hc2] at hAs
    have hsg := hAs.good hW hg2
    have hsl : os.length ≤ 69664 := hsg.2.2
    have hcl5 : cs.length = 4 * os.length := by rw [hcs5,gpv_length]
    conv => cbv
    refine Need.mk (by show (cs.length : Int) = ms * 4; omega) ?_
    conv => cbv
    have hclg : cg.length = 4 * og.length := by rw [hcg,gpv_length]
    refine Room.new ⟨by show (cg.length : Int) = mg * 4; omega,by show (mg + ms) * 48 ≤ 140737488355328; omega,by show mg + ms ≤ 9223372036854775807; omega⟩ ?_
    conv => cbv
    refine Upd.mk fun c6 hc6 => ?_
    have hc6 : c6 = gpv (og ++ os) := by rw [show c6 = cg ++ cs from hc6,hcg,hcs5,← gpv_app]
    conv => cbv
    refine Sum.mk fun m6 hm6 => ?_
    have hm6 : m6 = ((og ++ os).length : Int) := by rw [show m6 = mg + ms from hm6,hmg,hms,List.length_append]; rfl
    conv => cbv
    refine RetF.mk [.p (.vsl (.sym m2) true T2),.p (.vsl (.sym m6) true c6),i6 0] [(0,.mix [.ptr 1 (.lit 0),i6 st,i6 as_]),hpA 1 2 9 7 3 W ph5 sp5 cy5,hpB 2 3 5 3 W,hpC 3 4 137 2 N,hpP 4 L5,hpP 5 D5,hpF 9 z5 ov5,hpP 7 Q5,(8,.fix 0 o)] 10 (Re.at [(0,0),(1,1),(2,2),(3,3),(4,4),(5,5),(9,9),(7,7),(8,8)] []) rfl (.inr ⟨X,x2,(og ++ os),0,m2,m6,T2,c6,R5,ws5,C5,G5,ov5,ph5,sp5,cy5,L5,D5,Q5,z5,rfl,hX,.inr ⟨rfl,rfl,.inr ⟨_,_,hpre,hA2.choose_spec⟩⟩,h5,hT2,hm2,hc6,hm6,.ok x2 og os _ _ _ hpre hTr hAs⟩)
 ·have hbg : Bgn W ⟨R,ws,C,G,ov,ph,sp,cy⟩ A ⟨R,ws,C3,G3,ov3,1,sp,cy⟩ := ⟨rfl,rfl,rfl,rfl,rfl,(by have := h3.c; show (C3.length : Int) = W; exact this),hb3⟩
  have hg0 : Good N ⟨R,ws,C3,G3,ov3,1,sp,cy⟩ := hbg.good hW hg
  have hpre : Pre W st A ⟨R,ws,C,G,ov,ph,sp,cy⟩ ⟨R,ws,C3,G3,ov3,1,sp,cy⟩ := .inl ⟨hdue.1,hdue.2,hbg⟩
  conv => cbv
  refine cfr (allot_lx R ws C3 G3 N W 1 sp cy L D Q3 z3 ov3 h3 l X k jx cells O hk hcs hXl hjx hO hl ((l.map Prod.fst).zip X) rfl) [(0,1),(1,2),(2,3),(3,4),(4,5),(5,9),(6,7)] (fun r h' n' hrr => ?_)
  obtain ⟨b1,x1,R1,ws1,C1,L1,D1,Q1,⟨mx,Tx,e1,hTx,hmx⟩,e2,e3,h1,hA1⟩ := hrr
  subst e1 e2 e3
  conv => cbv
  obtain ⟨hg1,hmo1,_⟩ := hA1.good hg0
  refine JoinF.mk (fun s => (∃ (m2 : Int) (x2 : List Int) (T2 : List PV) (R2 : List Rw) (ws2 C2 : List Int) (L2 D2 Q2 : List PV),s = ⟨.ptr 0 (.lit 0) :: .p (.vsl (.sym k) true cells) :: .p (.vsl (.sym j) true ca) :: (undefs 6 ++ .ptr 1 (.lit 0) :: .p (.vsl (.sym jx) true O) :: .p (.bool true) :: .p .nils :: .p (.vsl (.sym m2) true T2) :: undefs 66),[(0,.mix [.ptr 1 (.lit 0),i6 st,i6 as_]),hpA 1 2 9 7 3 W 1 sp cy,hpB 2 3 5 3 W,hpC 3 4 137 2 N,hpP 4 L2,hpP 5 D2,hpF 9 z3 ov3,hpP 7 Q2,(8,.fix 0 o)],10⟩ ∧ T2 = ipv x2 ∧ m2 = x2.length ∧ HM R2 ws2 C2 G3 N W L2 D2 Q2 z3 ∧ Allot ⟨R,ws,C3,G3,ov3,1,sp,cy⟩ ((l.map Prod.fst).zip X) true x2 ⟨R2,ws2,C2,G3,ov3,1,sp,cy⟩) ∨ ∃ (b2 : Bool) (m2 mg : Int) (x2 : List Int) (og : List Gn) (T2 cg : List PV) (R2 : List Rw) (ws2 C2 G2 : List Int) (ov2 : Bool) (sp2 cy2 : Int) (L2 D2 Q2 : List PV) (z2 : ByteArray),s = ⟨.ptr 0 (.lit 0) :: .p (.vsl (.sym k) true cells) :: .p (.vsl (.sym j) true ca) :: (undefs 6 ++ .ptr 1 (.lit 0) :: .p (.vsl (.sym jx) true O) :: .p (.bool b2) :: .sl 10 40 4 (.lit 0) (.sym mg) :: .p (.vsl (.sym m2) true T2) :: undefs 66),[(0,.mix [.ptr 1 (.lit 0),i6 st,i6 as_]),hpA 1 2 9 7 3 W 0 sp2 cy2,hpB 2 3 5 3 W,hpC 3 4 137 2 N,hpP 4 L2,hpP 5 D2,hpF 9 z2 ov2,hpP 7 Q2,(8,.fix 0 o),hpP 10 cg],11⟩ ∧ T2 = ipv x2 ∧ m2 = x2.length ∧ cg = gpv og ∧ mg = og.length ∧ HM R2 ws2 C2 G2 N W L2 D2 Q2 z2 ∧ (∃ t1,Allot ⟨R,ws,C3,G3,ov3,1,sp,cy⟩ ((l.map Prod.fst).zip X) false [] t1) ∧ Tried W ((l.map Prod.fst).zip X) A ⟨R,ws,C3,G3,ov3,1,sp,cy⟩ b2 x2 og ⟨R2,ws2,C2,G2,ov2,0,sp2,cy2⟩) ?_ ?_
  ·cases b1 with
   | true =>
    conv => cbv
    refine Joined.mk _ (Re.at [(0,0),(1,1),(2,2),(3,3),(4,4),(5,5),(6,6),(7,7),(8,8),(9,9)] []) (.inl ⟨mx,x1,Tx,R1,ws1,C1,L1,D1,Q1,rfl,hTx,hmx,h1,hA1⟩)
   | false =>
    conv => cbv
    refine cfr (makeRoom_lx R1 ws1 C1 G3 N W 1 sp cy L1 D1 Q1 z3 ov3 h1 o ho hg1 (by omega) A j ca hca hj hAl) [(0,1),(1,2),(2,3),(3,4),(4,5),(5,9),(6,7),(7,8)] (fun r h' n' hrr => ?_)
    obtain ⟨og,mg,cg,R4,ws4,C4,G4,ov4,sp4,cy4,L4,D4,Q4,z4,e1,e2,e3,h4,hcg,hmg,hMd⟩ := hrr
    subst e1 e2 e3
    conv => cbv
    refine cfr (allot_lx R4 ws4 C4 G4 N W 0 sp4 cy4 L4 D4 Q4 z4 ov4 h4 l X k jx cells O hk hcs hXl hjx hO hl ((l.map Prod.fst).zip X) rfl) [(0,1),(1,2),(2,3),(3,4),(4,5),(5,10),(6,7)] (fun r h' n' hrr => ?_)
    obtain ⟨b2,x2,R2,ws2,C2,L2,D2,Q2,⟨m2,T2,e1,hT2,hm2⟩,e2,e3,h2,hA2⟩ := hrr
    subst e1 e2 e3
    conv => cbv
    refine Joined.mk _ (Re.at [(0,0),(1,1),(2,2),(3,3),(4,4),(5,5),(7,7),(8,8),(10,9),(11,10)] []) (.inr ⟨b2,m2,mg,x2,og,T2,cg,R2,ws2,C2,G4,ov4,sp4,cy4,L2,D2,Q2,z4,rfl,hT2,hm2,hcg,hmg,h2,⟨_,by have w := hA1.no_x; subst w; exact hA1⟩,hMd.tried hA1 hA2⟩)
  rintro s (⟨m2,x2,T2,R2,ws2,C2,L2,D2,Q2,rfl,hT2,hm2,h2,hA2⟩ | ⟨b2,m2,mg,x2,og,T2,cg,R2,ws2,C2,G2,ov2,sp2,cy2,L2,D2,Q2,z2,rfl,hT2,hm2,hcg,hmg,h2,hA2,hTr⟩)
  ·have hg2 := (hA2.good hg0).1
   have hcy2 : cy ≤ 900000000 := by omega
   conv => cbv
   refine drawn_sound tok (by kernel_rfl) [(8,[6,5,4,3,2,1,0]),(10,[1,0]),(11,[0])] [0,1,2,3,4,5,6,7,8,9,10,11,12,13,14] (by kernel_rfl) ?_; conv => cbv
   conv => cbv
   refine cfr (wordsOf_lx X jx O hjx hO (by omega) (sz_bd hX)) [] (fun r h' n' hrr => ?_)
   obtain ⟨v,e1,e2,e3,hv⟩ := hrr
   subst e1 e2 e3
   have hvb := wdsOf_bd X
   rw [← hv] at hvb
   have hav : 0 ≤ as_ * v ∧ as_ * v ≤ 8 * 3200000 := ⟨Int.mul_nonneg (by omega) (by omega),Int.mul_le_mul (by omega) (by omega) (by omega) (by decide)⟩
   conv => cbv
   refine Fit.mk (by show (-9223372036854775808 : Int) ≤ as_ * v; omega) (by show as_ * v ≤ 9223372036854775807; omega) fun c hc2 => ?_
   have hc2 : c = as_ * wdsOf X := by rw [← hv]; exact hc2
   conv => cbv
   have hcb : 0 ≤ c ∧ c ≤ 25600000 := by rw [hv] at hav; omega
   refine cfr (steps_lx R2 ws2 C2 G3 N W 1 sp cy L2 D2 Q2 z3 ov3 h2 o ho hg2 hcy2 c hcb.1 (by omega)) [(0,1),(1,2),(2,3),(3,4),(4,5),(5,9),(6,7),(7,8)] (fun r h' n' hrr => ?_)
   obtain ⟨os,ms,ph5,cs,R5,ws5,C5,G5,ov5,sp5,cy5,L5,D5,Q5,z5,e1,e2,e3,h5,hcs5,hms,hAs⟩ := hrr
   subst e1 e2 e3
   rw [hc2] at hAs
   have hsg := hAs.good hW hg2
   have hsl : os.length ≤ 69664 := hsg.2.2
   have hcl5 : cs.length = 4 * os.length := by rw [hcs5,gpv_length]
   conv => cbv
   refine Need.mk (by show (cs.length : Int) = ms * 4; omega) ?_
   conv => cbv
   refine Need.mk ⟨by show ms * 48 ≤ 140737488355328; omega,by show ms ≤ 9223372036854775807; omega⟩ ?_
   conv => cbv
   refine RetF.mk [.p (.vsl (.sym m2) true T2),.p (.vsl (.sym ms) true cs),i6 0] [(0,.mix [.ptr 1 (.lit 0),i6 st,i6 as_]),hpA 1 2 9 7 3 W ph5 sp5 cy5,hpB 2 3 5 3 W,hpC 3 4 137 2 N,hpP 4 L5,hpP 5 D5,hpF 9 z5 ov5,hpP 7 Q5,(8,.fix 0 o)] 10 (Re.at [(0,0),(1,1),(2,2),(3,3),(4,4),(5,5),(9,9),(7,7),(8,8)] []) rfl (.inr ⟨X,x2,os,0,m2,ms,T2,cs,R5,ws5,C5,G5,ov5,ph5,sp5,cy5,L5,D5,Q5,z5,rfl,hX,.inr ⟨rfl,rfl,.inl hdue⟩,h5,hT2,hm2,hcs5,hms,.ok x2 [] os _ _ _ hpre (.quick x2 _ hA2) hAs⟩)
  ·obtain ⟨hg2,hcyq,_,hogl⟩ := hTr.good hW hg0
   have hcy2 : cy2 ≤ 900000000 := by have h9 : cy2 ≤ cy + 4354 := hcyq; omega
   cases b2 with
   | false =>
    conv => cbv
    refine RetF.mk [.p (.vsl (.sym 0) true []),.p (.vsl (.sym mg) true cg),i6 9] [(0,.mix [.ptr 1 (.lit 0),i6 st,i6 as_]),hpA 1 2 9 7 3 W 0 sp2 cy2,hpB 2 3 5 3 W,hpC 3 4 137 2 N,hpP 4 L2,hpP 5 D2,hpF 9 z2 ov2,hpP 7 Q2,(8,.fix 0 o)] 10 (Re.at [(0,0),(1,1),(2,2),(3,3),(4,4),(5,5),(9,9),(7,7),(8,8)] []) rfl (.inr ⟨X,[],og,9,0,mg,[],cg,R2,ws2,C2,G2,ov2,0,sp2,cy2,L2,D2,Q2,z2,rfl,hX,.inr ⟨rfl,rfl,.inl hdue⟩,h2,rfl,rfl,hcg,hmg,.room x2 og _ _ hpre hTr⟩)
   | true =>
    conv => cbv
    refine drawn_sound tok (by kernel_rfl) [(8,[6,5,4,3,2,1,0]),(10,[1,0]),(11,[0])] [0,1,2,3,4,5,6,7,8,9,10,11,12,13,14] (by kernel_rfl) ?_; conv => cbv
    conv => cbv
    refine cfr (wordsOf_lx X jx O hjx hO (by omega) (sz_bd hX)) [] (fun r h' n' hrr => ?_)
    obtain ⟨v,e1,e2,e3,hv⟩ := hrr
    subst e1 e2 e3
    have hvb := wdsOf_bd X
    rw [← hv] at hvb
    have hav : 0 ≤ as_ * v ∧ as_ * v ≤ 8 * 3200000 := ⟨Int.mul_nonneg (by omega) (by omega),Int.mul_le_mul (by omega) (by omega) (by omega) (by decide)⟩
    conv => cbv
    refine Fit.mk (by show (-9223372036854775808 : Int) ≤ as_ * v; omega) (by show as_ * v ≤ 9223372036854775807; omega) fun c hc2 => ?_
    have hc2 : c = as_ * wdsOf X := by rw [← hv]; exact hc2
    conv => cbv
    have hcb : 0 ≤ c ∧ c ≤ 25600000 := by rw [hv] at hav; omega
    refine cfr (steps_lx R2 ws2 C2 G2 N W 0 sp2 cy2 L2 D2 Q2 z2 ov2 h2 o ho hg2 hcy2 c hcb.1 (by omega)) [(0,1),(1,2),(2,3),(3,4),(4,5),(5,9),(6,7),(7,8)] (fun r h' n' hrr => ?_)
    obtain ⟨os,ms,ph5,cs,R5,ws5,C5,G5,ov5,sp5,cy5,L5,D5,Q5,z5,e1,e2,e3,h5,hcs5,hms,hAs⟩ := hrr
    subst e1 e2 e3
    rw [hc2] at hAs
    have hsg := hAs.good hW hg2
    have hsl : os.length ≤ 69664 := hsg.2.2
    have hcl5 : cs.length = 4 * os.length := by rw [hcs5,gpv_length]
    conv => cbv
    refine Need.mk (by show (cs.length : Int) = ms * 4; omega) ?_
    conv => cbv
    have hclg : cg.length = 4 * og.length := by rw [hcg,gpv_length]
    refine Room.new ⟨by show (cg.length : Int) = mg * 4; omega,by show (mg + ms) * 48 ≤ 140737488355328; omega,by show mg + ms ≤ 9223372036854775807; omega⟩ ?_
    conv => cbv
    refine Upd.mk fun c6 hc6 => ?_
    have hc6 : c6 = gpv (og ++ os) := by rw [show c6 = cg ++ cs from hc6,hcg,hcs5,← gpv_app]
    conv => cbv
    refine Sum.mk fun m6 hm6 => ?_
    have hm6 : m6 = ((og ++ os).length : Int) := by rw [show m6 = mg + ms from hm6,hmg,hms,List.length_append]; rfl
    conv => cbv
    refine RetF.mk [.p (.vsl (.sym m2) true T2),.p (.vsl (.sym m6) true c6),i6 0] [(0,.mix [.ptr 1 (.lit 0),i6 st,i6 as_]),hpA 1 2 9 7 3 W ph5 sp5 cy5,hpB 2 3 5 3 W,hpC 3 4 137 2 N,hpP 4 L5,hpP 5 D5,hpF 9 z5 ov5,hpP 7 Q5,(8,.fix 0 o)] 10 (Re.at [(0,0),(1,1),(2,2),(3,3),(4,4),(5,5),(9,9),(7,7),(8,8)] []) rfl (.inr ⟨X,x2,(og ++ os),0,m2,m6,T2,c6,R5,ws5,C5,G5,ov5,ph5,sp5,cy5,L5,D5,Q5,z5,rfl,hX,.inr ⟨rfl,rfl,.inl hdue⟩,h5,hT2,hm2,hc6,hm6,.ok x2 og os _ _ _ hpre hTr hAs⟩)
theorem allocS_nil : CallF (fun _ => Tryz.prog) 24 [.p .nilp,.p .nils,.p .nils] [] 0 (fun r h n => r = .tup [.p .nils,.p .nils,.p (.int .i64 (.lit 2))] ∧ h = [] ∧ n = 0) := by
 refine callF_of_body tok Tryz.func24 (by kernel_rfl) rfl rfl rfl ?_; conv => cbv
 refine callF_frame heapS_nil [] rfl trivial rfl rfl (fun r h' n' ⟨e1,e2,e3⟩ => ?_)
 subst e1 e2 e3
 conv => cbv
 refine RetF.mk [.p .nils,.p .nils,.p (.int .i64 (.lit 2))] [] 0 (Re.at [] []) rfl ⟨rfl,rfl,rfl⟩
theorem collectS_nil : CallF (fun _ => Tryz.prog) 15 [.p .nilp,.p .nils] [] 0 (fun r h n => r = .p .nils ∧ h = [] ∧ n = 0) := by
 refine callF_of_body tok Tryz.func15 (by kernel_rfl) rfl rfl rfl ?_; conv => cbv
 refine callF_frame heapS_nil [] rfl trivial rfl rfl (fun r h' n' ⟨e1,e2,e3⟩ => ?_)
 subst e1 e2 e3
 conv => cbv
 refine callF_frame phaseNil_lx [] rfl trivial rfl rfl (fun r h' n' ⟨e1,e2,e3⟩ => ?_)
 subst e1 e2 e3
 conv => cbv
 refine Br.yes (show (0 : Int) = 0 from rfl) ?_
 conv => cbv
 refine callF_frame beginNil_lx [] rfl trivial rfl rfl (fun r h' n' ⟨e1,e2,e3⟩ => ?_)
 subst e1 e2 e3
 conv => cbv
 refine RetF.mk [.p .nils] [] 0 (Re.at [] []) rfl ⟨rfl,rfl,rfl⟩
theorem collectS_idle (R : List Rw) (ws C G : List Int) (N W ph sp cy : Int) (L D Q : List PV) (z : ByteArray) (ov : Bool) (h : HM R ws C G N W L D Q z) (o : Unit → Obj) (ho : IsPow o) (st as_ : Int) (hp : ph = 0) (A : List Int) (j : Int) (ca : List PV) (hca : ca = ipv A) (hj : j = A.length) (hAl : A.length ≤ 100000) :
  CallF (fun _ => Tryz.prog) 15 [.ptr 0 (.lit 0),.p (.vsl (.sym j) true ca)] [(0,.mix [.ptr 1 (.lit 0),i6 st,i6 as_]),hpA 1 2 6 7 3 W ph sp cy,hpB 2 3 5 3 W,hpC 3 4 137 2 N,hpP 4 L,hpP 5 D,hpF 6 z ov,hpP 7 Q,(8,.fix 0 o)] 9 (fun r h n => ∃ (C3 G3 : List Int) (ov3 : Bool) (Q3 : List PV) (z3 : ByteArray),r = .p .nils ∧ h = [(0,.mix [.ptr 1 (.lit 0),i6 st,i6 as_]),hpA 1 2 9 7 3 W 1 sp cy,hpB 2 3 5 3 W,hpC 3 4 137 2 N,hpP 4 L,hpP 5 D,hpF 9 z3 ov3,hpP 7 Q3,(8,.fix 0 o)] ∧ n = 10 ∧ HM R ws C3 G3 N W L D Q3 z3 ∧ Bgn W ⟨R,ws,C,G,ov,ph,sp,cy⟩ A ⟨R,ws,C3,G3,ov3,1,sp,cy⟩) := by
 refine callF_of_body tok Tryz.func15 (by kernel_rfl) rfl rfl rfl ?_; conv => cbv
 refine cfr (heapS_lx R ws C G N W ph sp cy L D Q z ov st as_) [(0,0),(1,1),(2,2),(3,3),(4,4),(5,5),(6,6),(7,7)] (fun r h' n' ⟨e1,e2,e3⟩ => ?_)
 subst e1 e2 e3
 conv => cbv
 refine cfr (phase_lx R ws C G N W ph sp cy L D Q z ov) [(0,1),(1,2),(2,3),(3,4),(4,5),(5,6),(6,7)] (fun r h' n' ⟨e1,e2,e3⟩ => ?_)
 subst e1 e2 e3
 conv => cbv
 refine Br.yes (show ph = 0 from hp) ?_
 conv => cbv
 refine cfr (begin_lx R ws C G N W ph sp cy L D Q z ov h o ho A j ca hca hj (by omega) hp) [(0,1),(1,2),(2,3),(3,4),(4,5),(5,6),(6,7),(7,8)] (fun r h' n' hrr => ?_)
 obtain ⟨C3,G3,ov3,Q3,z3,e1,e2,e3,h3,hb3⟩ := hrr
 subst e1 e2 e3
 conv => cbv
 refine RetF.mk [.p .nils] [(0,.mix [.ptr 1 (.lit 0),i6 st,i6 as_]),hpA 1 2 9 7 3 W 1 sp cy,hpB 2 3 5 3 W,hpC 3 4 137 2 N,hpP 4 L,hpP 5 D,hpF 9 z3 ov3,hpP 7 Q3,(8,.fix 0 o)] 10 (Re.at [(0,0),(1,1),(2,2),(3,3),(4,4),(5,5),(9,9),(7,7),(8,8)] []) rfl ⟨C3,G3,ov3,Q3,z3,rfl,rfl,rfl,h3,rfl,rfl,rfl,rfl,rfl,(by have := h3.c; show (C3.length : Int) = W; exact this),hb3⟩
theorem collectS_step (R : List Rw) (ws C G : List Int) (N W ph sp cy : Int) (L D Q : List PV) (z : ByteArray) (ov : Bool) (h : HM R ws C G N W L D Q z) (o : Unit → Obj) (ho : IsPow o) (st as_ : Int) (hp : ph ≠ 0) (hsp : 0 ≤ sp ∧ sp ≤ 1000) (hcy : 0 ≤ cy ∧ cy ≤ 1000000000) (j : Int) (ca : List PV) :
  CallF (fun _ => Tryz.prog) 15 [.ptr 0 (.lit 0),.p (.vsl (.sym j) true ca)] [(0,.mix [.ptr 1 (.lit 0),i6 st,i6 as_]),hpA 1 2 6 7 3 W ph sp cy,hpB 2 3 5 3 W,hpC 3 4 137 2 N,hpP 4 L,hpP 5 D,hpF 6 z ov,hpP 7 Q,(8,.fix 0 o)] 9 (fun r h n => ∃ (out : List Gn) (m : Int) (cells : List PV) (Rh : List Rw) (wh Ch Gh : List Int) (ovh : Bool) (ph2 sp2 cy2 : Int) (Lh Dh Qh : List PV) (zh : ByteArray),r = .p (.vsl (.sym m) true cells) ∧ h = [(0,.mix [.ptr 1 (.lit 0),i6 st,i6 as_]),hpA 1 2 6 7 3 W ph2 sp2 cy2,hpB 2 3 5 3 W,hpC 3 4 137 2 N,hpP 4 Lh,hpP 5 Dh,hpF 6 zh ovh,hpP 7 Qh,(8,.fix 0 o)] ∧ n = 9 ∧ HM Rh wh Ch Gh N W Lh Dh Qh zh ∧ cells = gpv out ∧ m = out.length ∧ Stp W ⟨R,ws,C,G,ov,ph,sp,cy⟩ out ⟨Rh,wh,Ch,Gh,ovh,ph2,sp2,cy2⟩) := by
 refine callF_of_body tok Tryz.func15 (by kernel_rfl) rfl rfl rfl ?_; conv => cbv
 refine cfr (heapS_lx R ws C G N W ph sp cy L D Q z ov st as_) [(0,0),(1,1),(2,2),(3,3),(4,4),(5,5),(6,6),(7,7)] (fun r h' n' ⟨e1,e2,e3⟩ => ?_)
 subst e1 e2 e3
 conv => cbv
 refine cfr (phase_lx R ws C G N W ph sp cy L D Q z ov) [(0,1),(1,2),(2,3),(3,4),(4,5),(5,6),(6,7)] (fun r h' n' ⟨e1,e2,e3⟩ => ?_)
 subst e1 e2 e3
 conv => cbv
 refine Br.no (show ¬ ph = 0 from hp) ?_
 conv => cbv
 refine cfr (step_lx R ws C G N W ph sp cy L D Q z ov h o ho hsp hcy) [(0,1),(1,2),(2,3),(3,4),(4,5),(5,6),(6,7),(7,8)] (fun r h' n' hrr => ?_)
 obtain ⟨o2,kx,ph',sp',cy',R2,w2,C2,G2,ov2,cells',Lx,Dx,Qx,z2,e1,e2,e3,h2,hcs2,hkx,hst⟩ := hrr
 subst e1 e2 e3
 conv => cbv
 refine RetF.mk [.p (.vsl (.sym kx) true cells')] [(0,.mix [.ptr 1 (.lit 0),i6 st,i6 as_]),hpA 1 2 6 7 3 W ph' sp' cy',hpB 2 3 5 3 W,hpC 3 4 137 2 N,hpP 4 Lx,hpP 5 Dx,hpF 6 z2 ov2,hpP 7 Qx,(8,.fix 0 o)] 9 (Re.at [(0,0),(1,1),(2,2),(3,3),(4,4),(5,5),(6,6),(7,7),(8,8)] []) rfl ⟨o2,kx,cells',R2,w2,C2,G2,ov2,ph',sp',cy',Lx,Dx,Qx,z2,rfl,rfl,rfl,h2,hcs2,hkx,hst⟩
theorem stepd_cyw {R R' : List Rw} {ws ws' C C' G G' : List Int} {ov ov' : Bool} {ph sp cy W p s y : Int} {out : List Gn} (h : Stepd R ws C G ov ph sp cy W out R' ws' C' G' ov' p s y) (hp : ph = 1 ∨ ph = 2) : (p ≠ 0 ∧ y = cy) ∨ (p = 0 ∧ y = cy + 1) := by
 cases h with
 | mark _ _ _ _ _ _ _ _ hm => cases hm with
  | scan _ _ _ _ _ _ _ _ _ _ => exact .inl ⟨by decide,rfl⟩
  | keep _ _ _ _ _ _ _ _ _ _ _ _ _ => exact .inl ⟨by decide,rfl⟩
  | sweep _ _ _ _ => exact .inl ⟨by decide,rfl⟩
 | sweep _ _ _ _ =>
  unfold swPh swCy
  split
  ·exact .inr ⟨rfl,rfl⟩
  ·exact .inl ⟨by decide,rfl⟩
 | idle h1 h2 => omega
theorem Many.ends {N W : Int} {s t : Hst} {n : Nat} {out : List Gn} (hW : W = 32 * N) (hg : Good N s) (hp : s.ph ≠ 0) (hm : Many W s n out t) : (t.ph ≠ 0 ∧ t.cy = s.cy) ∨ (t.ph = 0 ∧ t.cy = s.cy + 1) := by
 induction hm with
 | zero => exact .inl ⟨hp,rfl⟩
 | succ n out o2 t u hm hp2 hs ih =>
  have hI := (hm.good hW hg).1.i.resolve_left hp2
  have h12 : t.ph = 1 ∨ t.ph = 2 := by
   rcases hI with ⟨k,_⟩ | ⟨k,_⟩ | ⟨k,_⟩
   ·exact .inl k
   ·exact .inr k
   ·exact absurd k hp2
  have hc : t.cy = s.cy := by
                rcases ih with k | k
                ·exact k.2
                ·exact absurd k.1 hp2
  rw [← hc]
  exact stepd_cyw hs h12
theorem objs_count {N : Int} {s : Hst} (hg : Good N s) : (objs s.R).length = objCount s.R := objs_length hg.a.rows
theorem objsNd {N : Int} {s : Hst} (hg : Good N s) : (objs s.R).Nodup := (objsTo_asc hg.a.rows _).imp fun q => by omega
structure PaceI (N : Int) (s : Hst) (l : List Int) : Prop where
 g : Good N s
 z : ∀ b i w,Loaded s.R s.ws b i w 0 → w = 0
 m : Mono 0 s.R
 r : ∀ a ∈ objs s.R,a ∈ l
 p : ∀ a ∈ l,Prot s a
theorem PaceI.nf {N : Int} {s : Hst} {l : List Int} (h : PaceI N s l) : Nf s.R s.ws := fun a _ x _ hl => h.z a 1 x hl
theorem PaceI.count {N : Int} {s : Hst} {l : List Int} (h : PaceI N s l) : objCount s.R ≤ l.length := by
 rw [← objs_count h.g]
 exact nodup_le (objsNd h.g) h.r
theorem PaceI.new {N : Int} {s : Hst} (h : Bare0 N s) : PaceI N s [] :=
 ⟨h.g,fun b i w hl => (by cases hl with | ok k l _ hK _ _ => exact absurd hK.obj6 (h.none b)),by rw [h.r]; exact Mono.new 0 _,fun a ha => by rw [h.objs] at ha; exact ha,fun a ha => by cases ha⟩
theorem PaceI.step {N W st : Int} {n : Nat} {s t : Hst} {l x : List Int} {o : List Gn} {e : Int} (hW : W = 32 * N) (h : PaceI N s l) (hr : (l.length : Int) < 8 * N) (hA : Alcd W st n [(5,2)] l s x o e t) : e = 0 ∧ o = [] ∧ ∃ a,x = [a] ∧ PaceI N t (l ++ [a]) ∧ (s.ph = 0 → (¬ st * W ≤ 100 * usedW s.R → t.ph = 0 ∧ t.cy = s.cy) ∧ (st * W ≤ 100 * usedW s.R → ¬ (t.ph = 0 ∧ t.cy = s.cy))) := by
 have hl : ∀ p ∈ [((5 : Int),(2 : Int))],Val p ∧ ofN p.2 = 0 := by
  intro p hp
  rw [List.mem_singleton.1 hp]
  exact ⟨⟨by decide,by decide,by decide,by decide⟩,by decide⟩
 have hcnt := h.count
 have hs0 : slotsOf 0 = 8 := rfl
 have hgo := hA.goes hW h.g h.nf
 have hmo := hA.mono hW h.g h.nf hl h.m
 have hgd := (hA.good hW h.g).1
 have first : ∀ u,Good N u → u.R = s.R → ∀ b y v,Allot u [(5,2)] b y v → b = true := by
  intro u gu hu b y v hq
  have mu : Mono 0 u.R := by rw [hu]; exact h.m
  have nu := gu.n
  refine (mu.allot gu.a gu.n gu.c hl hq).2.2 ?_
  rw [hs0]
  show objCount u.R + 1 ≤ _
  rw [hu] at nu ⊢
  omega
 cases hA with
 | room x o t0 t h0 h1 =>
  exfalso
  obtain ⟨g0,_,r0,w0⟩ := h0.good hW h.g
  have n0 : Nf t0.R t0.ws := by rw [r0,w0]; exact h.nf
  rcases (h1.whole hW g0 n0).2 with ⟨k,_⟩ | ⟨t2,t4,k,_⟩
  ·cases k
  ·obtain ⟨u,hu⟩ := k.g0
   have := first t0 g0 r0 _ _ _ hu
   cases this
 | ok x o1 o2 t0 t1 t h0 h1 h2 =>
  obtain ⟨g0,c0,r0,w0⟩ := h0.good hW h.g
  have n0 : Nf t0.R t0.ws := by rw [r0,w0]; exact h.nf
  have g1 := (h1.good hW g0).1
  rcases (h1.whole hW g0 n0).2 with ⟨_,rfl,k⟩ | ⟨t2,t4,k,_⟩
  ·obtain ⟨_,m1,xl⟩ := k.good g0
   have xl := xl rfl
   obtain ⟨a,rfl⟩ : ∃ a,x = [a] := by
    match x,xl with
    | [a],_ => exact ⟨a,rfl⟩
   have p0 : ∀ b ∈ l,Prot t0 b := fun b hb => (h0.goes hW h.g h.nf).pr b hb (h.p b hb)
   have p1 : ∀ b ∈ l ++ [a],Prot t1 b := by
    intro b hb
    rcases List.mem_append.1 hb with q | q
    ·exact (p0 b q).more m1
    ·exact .new m1 q
   have r1 : ∀ b ∈ objs t1.R,b ∈ l ++ [a] := by
    intro b hb
    rcases (m1.obj b).1 hb with q | q
    ·rw [r0] at q; exact List.mem_append_left _ (h.r b q)
    ·exact List.mem_append_right _ q
   obtain ⟨j,_,hm,hj⟩ := h2
   have pt : ∀ b ∈ l ++ [a],Prot t b := fun b hb => (p1 b hb).many hW g1 hm
   have hc := hm.count hW g1
   have hle := count_le g1.a.rows hgd.a.rows (fun b hb => (pt b (r1 b hb)).1)
   have ho2 : goneOf o2 = [] := List.eq_nil_of_length_eq_zero (by omega)
   have a1 := h1.goes hW g0 n0
   have hk2 := (hm.nf hW g1 a1.nf).2
   have ho : o2 = [] := none_of hk2 ho2
   subst ho
   have hrt : ∀ b ∈ objs t.R,b ∈ l ++ [a] := fun b hb => r1 b ((hm.nf hW g1 a1.nf).1.obj g1.a hgd.a hb)
   refine ⟨rfl,rfl,a,rfl,⟨hgd,fun b i w hlw => ?_,hmo,hrt,pt⟩,fun hp => ⟨fun hd => ?_,fun hd => ?_⟩⟩
   ·rcases hgo.1.dl b i w hlw with q | q
    ·exact q.2
    ·exact h.z b i w q
   ·have e0 := h0.not (fun q => hd q.2)
    subst e0
    obtain ⟨_,_,e1⟩ := hm.idle (by rw [m1.ph]; exact hp)
    rw [e1,m1.ph,m1.cy]
    exact ⟨hp,rfl⟩
   ·rcases h0 with ⟨_,_,hb⟩ | ⟨q,_⟩
    ·have e1 := hm.ends hW g1 (by rw [m1.ph,hb.p]; decide)
     rw [m1.cy,hb.y] at e1
     omega
    ·exact absurd ⟨hp,hd⟩ q
  ·exfalso
   obtain ⟨u,hu⟩ := k.g0
   have := first t0 g0 r0 _ _ _ hu
   cases this
structure KeepI (N : Int) (s : Hst) (a : Int) (V : List Int) : Prop where
 g : Good N s
 n : Nf s.R s.ws
 p : Prot s a
 k : Kept s.R s.ws a 4 10
 v : ∀ (i : Nat) w,V[i]? = some w → Loaded s.R s.ws a i w 0 ∧ w % 2 = 0
theorem KeepI.even {N : Int} {s : Hst} {a : Int} {V : List Int} (hV : V.length = 10) (h : KeepI N s a V) (i x : Int) (hl : Loaded s.R s.ws a i x 0) : x % 2 = 0 := by
 have hl0 := hl
 cases hl with
 | ok k l _ hK hi hx =>
  have e := (hK.det9 h.k).2
  obtain ⟨j,hj⟩ : ∃ j : Nat,i = j := ⟨i.toNat,by omega⟩
  subst hj
  obtain ⟨h1,h2⟩ := h.v j _ (List.getElem?_eq_getElem (by omega : j < V.length))
  rw [loadedF_det hl0 h1]; exact h2
theorem KeepI.step {N W st : Int} {n : Nat} {s t : Hst} {a : Int} {V x : List Int} {o : List Gn} {e k m : Int} (hW : W = 32 * N) (hN : 3 ≤ N) (hV : V.length = 10) (hv : Val (k,m)) (h : KeepI N s a V) (hA : Alcd W st n [(k,m)] [a] s x o e t) : e = 0 ∧ KeepI N t a V := by
 have hgo := (hA.goes hW h.g h.n).1
 have hgd := (hA.good hW h.g).1
 have ha : a ∈ [a] := List.mem_singleton.2 rfl
 refine ⟨?_,hgd,hgo.nf,hgo.pr a ha h.p,hgo.kf a ha h.p _ _ h.k,fun i w hi => ⟨hgo.lf a ha h.p _ _ (h.v i w hi).1,(h.v i w hi).2⟩⟩
 cases hA with
 | ok x o1 o2 t0 t1 t h0 h1 h2 => rfl
 | room x o t0 t h0 h1 =>
  exfalso
  have g0 := (h0.good hW h.g).1
  have a0 := h0.goes hW h.g h.n
  rcases (h1.whole hW g0 a0.nf).2 with ⟨k,_⟩ | ⟨t2,t4,q,_⟩
  ·cases k
  ·have a2 := a0.then q.a2
   have hin : ∀ y ∈ objs t4.R,y ∈ [a] := by
    intro y hy
    refine rch_even (fun b hb i x hl => ?_) ((q.ob y).1 hy)
    rw [List.mem_singleton.1 hb] at hl
    rcases a2.dl a i x hl with ⟨w,_⟩ | w
    ·cases w
    ·exact h.even hV i x w
   have hc : (objs t4.R).length ≤ 1 := nodup_le (objsNd q.g4) hin
   rw [objs_count q.g4] at hc
   have hn4 := q.g4.n
   have := q.al.roomy q.g4 (fun p hp => by rw [List.mem_singleton.1 hp]; exact hv) (by show objCount t4.R + 1 ≤ _; omega)
   cases this
structure FullI (N c : Int) (s : Hst) (l : List Int) : Prop where
 g : Good N s
 z : ∀ b i w,Loaded s.R s.ws b i w 0 → w = 0
 m : Mono c s.R
 p : ∀ a ∈ l,Prot s a
 d : l.Nodup
theorem FullI.nf {N c : Int} {s : Hst} {l : List Int} (h : FullI N c s l) : Nf s.R s.ws := fun a _ x _ hl => h.z a 1 x hl
theorem FullI.new {N : Int} {s : Hst} (c : Int) (h : Bare0 N s) : FullI N c s [] :=
 ⟨h.g,fun b i w hl => (by cases hl with | ok k l _ hK _ _ => exact absurd hK.obj6 (h.none b)),by rw [h.r]; exact Mono.new c _,fun a ha => (by cases ha),List.nodup_nil⟩
theorem FullI.le {N c : Int} {s : Hst} {l : List Int} (h : FullI N c s l) : l.length ≤ slotsOf c * s.R.length := by
 have h1 := nodup_cnt h.g.a.rows h.d (fun x hx => (h.p x hx).1)
 have h2 := h.m.le h.g.a.rows
 omega
theorem FullI.step {N W st k m : Int} {n : Nat} {s t : Hst} {l x : List Int} {o : List Gn} {e : Int} (hW : W = 32 * N) (hv : Val (k,m)) (h : FullI N (ofN m) s l) (hA : Alcd W st n [(k,m)] l s x o e t) : (e = 0 ∧ ∃ a,x = [a] ∧ a ∉ l ∧ FullI N (ofN m) t l ∧ FullI N (ofN m) t (l ++ [a])) ∨ (e = 9 ∧ x = [] ∧ l.length = slotsOf (ofN m) * s.R.length ∧ t.ph = 0 ∧ ∀ y,y ∈ objs t.R ↔ y ∈ l) ∧ Good N t := by
 have hl : ∀ p ∈ [(k,m)],Val p ∧ ofN p.2 = ofN m := by
  intro p hp
  rw [List.mem_singleton.1 hp]
  exact ⟨hv,rfl⟩
 have hgo := (hA.goes hW h.g h.nf).1
 have hmo := hA.mono hW h.g h.nf hl h.m
 have hgd := (hA.good hW h.g).1
 have hz : ∀ b i w,Loaded t.R t.ws b i w 0 → w = 0 := by
  intro b i w q
  rcases hgo.dl b i w q with q | q
  ·exact q.2
  ·exact h.z b i w q
 cases hA with
 | ok x o1 o2 t0 t1 t h0 h1 h2 =>
  have g0 := (h0.good hW h.g).1
  have xl := (h1.good hW g0).2.2.1 rfl
  obtain ⟨a,rfl⟩ : ∃ a,x = [a] := by
   match x,xl with
   | [a],_ => exact ⟨a,rfl⟩
  have ha : a ∈ [a] := List.mem_singleton.2 rfl
  have hna : a ∉ l := fun q => hgo.nw a ha q (h.p a q)
  refine .inl ⟨rfl,a,rfl,hna,⟨hgd,hz,hmo,fun b hb => hgo.pr b hb (h.p b hb),h.d⟩,⟨hgd,hz,hmo,fun b hb => ?_,?_⟩⟩
  ·rcases List.mem_append.1 hb with q | q
   ·exact hgo.pr b q (h.p b q)
   ·exact hgo.px b q
  ·exact List.nodup_append.2 ⟨h.d,by simp,fun p hp q hq w => hna (by rw [← List.mem_singleton.1 hq,← w]; exact hp)⟩
 | room x o t0 t h0 h1 =>
  obtain ⟨g0,_,r0,w0⟩ := h0.good hW h.g
  have a0 := h0.goes hW h.g h.nf
  rcases (h1.whole hW g0 a0.nf).2 with ⟨q,_⟩ | ⟨t2,t4,q,_⟩
  ·cases q
  ·have a2 := a0.then q.a2
   have a4 := a2.then q.a4
   have hob : ∀ y,y ∈ objs t4.R ↔ y ∈ l := by
    intro y
    constructor
    ·intro hy
     refine rch_even (fun b hb i x hlx => ?_) ((q.ob y).1 hy)
     rcases a2.dl b i x hlx with ⟨w,_⟩ | w
     ·cases w
     ·rw [h.z b i x w]; decide
    ·intro hy; exact (a4.pr y hy (h.p y hy)).1
   have m4 := q.mo (ofN m) (fun p hp => (hl p hp).2) (by rw [r0]; exact h.m)
   have hfl := (m4.allot q.g4.a q.g4.n q.g4.c hl q.al).2
   have hle := m4.le q.g4.a.rows
   have n4 := q.g4.n
   have n0 := h.g.n
   have hlen4 : t4.R.length = s.R.length := by omega
   have hcl : objCount t4.R = l.length := by
    rw [← objs_count q.g4]
    exact ((List.perm_ext_iff_of_nodup (objsNd q.g4) h.d).2 hob).length_eq
   have hno : ¬ objCount t4.R + [(k,m)].length ≤ slotsOf (ofN m) * t4.R.length := fun w => by have := hfl.2 w; cases this
   have h11 : [(k,m)].length = 1 := rfl
   obtain ⟨g5,m5,_⟩ := q.al.good q.g4
   have hx : x = [] := by
    have hk := q.al
    cases hk with
    | no _ _ _ _ _ _ _ _ _ _ _ _ _ _ _ => rfl
   rw [hx] at m5
   rw [hlen4] at hno hle
   refine .inr ⟨⟨rfl,rfl,by omega,by rw [m5.ph]; exact q.p4,fun y => ?_⟩,g5⟩
   rw [m5.obj y,hob y]
   exact ⟨fun w => w.elim id (fun w => by cases w),.inl⟩
theorem CallF.nils2 {P : Unit → Program} {f : Nat} {x y : LV} {h : LH} {n : Nat} {K : LV → LH → Nat → Prop} (hc : CallF P f [x,y,.p (.vsl (.sym 0) true [])] h n K) : CallF P f [x,y,.p .nils] h n K := by
 cases hc with
 | mk h1 h2 =>
  refine .mk h1 fun c w xs hr hN hl hrel => h2 c w xs hr hN hl (fun i u hu => ?_)
  match i,hu with
  | 0,hu => cases hu; exact hrel 0 _ rfl
  | 1,hu => cases hu; exact hrel 1 _ rfl
  | 2,hu =>
   cases hu
   have h3 := hrel 2 _ rfl
   generalize xs.getD 2 Go.undef = v at h3
   cases h3 with
   | p _ _ h4 =>
    cases h4 with
    | nils => exact .p _ _ (.vsl0 _ _ _ none 0 rfl (Nat.zero_le _))
theorem Bare0.alloc {N W st : Int} {l : List (Int × Int)} {A : List Int} {s t : Hst} {x : List Int} {o : List Gn} {e : Int} (hW : W = 32 * N) (hb : Bare0 N s) (hst : 1 ≤ st) (hl : ∀ p ∈ l,Val p) (hlen : (l.length : Int) ≤ N) (h : Alcd W st 0 l A s x o e t) : e = 0 ∧ o = [] ∧ Allot s l true x t ∧ ¬ Renewed W st l A s := by
 have hn := hb.g.n
 have hc := hb.count
 have first : ∀ b y u,Allot s l b y u → b = true := fun b y u hq => hq.roomy hb.g hl (by omega)
 have hren : ¬ Renewed W st l A s := by
  rintro (⟨_,q⟩ | ⟨t0,t1,q1,q2⟩)
  ·have h1 := hb.g.n1
   have h2 : 1 * W ≤ st * W := Int.mul_le_mul_of_nonneg_right hst (by omega)
   rw [hb.used] at q
   omega
  ·have e0 := hb.pre hW hst q1
   subst e0
   have := first _ _ _ q2
   cases this
 cases h with
 | ok x o1 o2 t0 t1 t h0 h1 h2 =>
  have e0 := hb.pre hW hst h0
  subst e0
  obtain ⟨e2,e3⟩ := h2.none
  subst e2 e3
  cases h1 with
  | quick x t h1 => exact ⟨rfl,rfl,h1,hren⟩
  | forced b x o1 o2 k1 k2 t1 t2 t3 t4 t5 h1 h2 p2 h3 h4 p4 h5 =>
   have := first _ _ _ h1
   cases this
 | room x o t0 t h0 h1 =>
  have e0 := hb.pre hW hst h0
  subst e0
  cases h1 with
  | forced b x o1 o2 k1 k2 t1 t2 t3 t4 t5 h1 h2 p2 h3 h4 p4 h5 =>
   have := first _ _ _ h1
   cases this
theorem sz_two {X : List Int} (h : Sz [(5,0),(2,2)] X) : X = [2,2] := by
 obtain ⟨h1,h2⟩ := h
 match X,h1 with
 | [a,b],_ =>
  obtain ⟨v,e,q⟩ := h2 0 _ rfl
  cases e
  obtain ⟨w,e,q2⟩ := h2 1 _ rfl
  cases e
  have ha : a = 2 := by
   rcases q with ⟨q,_⟩ | ⟨_,q,_⟩
   ·exact absurd q (by decide)
   ·exact q
  have hb : b = 2 := by
   rcases q2 with ⟨_,⟨_,_,q,_⟩ | ⟨q,_⟩⟩ | ⟨q,_⟩
   ·exact q
   ·exact absurd ⟨by decide,by decide⟩ q
   ·exact absurd rfl q
  rw [ha,hb]
theorem wide_lx : CallF (fun _ => Tryz.prog) 36 [] [] 0 (fun r h n => r = .agg [.p (.int .i64 (.lit 100)),.p (.int .i64 (.lit 100)),.p (.int .i64 (.lit 0))] ∧ h = [] ∧ n = 0) := by
 refine callF_of_body tok Tryz.func36 (by kernel_rfl) rfl rfl rfl ?_; conv => cbv
 refine RetF.mk [.agg [.p (.int .i64 (.lit 100)),.p (.int .i64 (.lit 100)),.p (.int .i64 (.lit 0))]] [] 0 (Re.at [] []) rfl ⟨rfl,rfl,rfl⟩
theorem awake21_lx (o : Unit → Obj) (ho : IsPow o) : CallF (fun _ => Tryz.prog) 13 [] [(0,.fix 0 o)] 1 (fun r h n => r = .p (.bool true) ∧ h = [(0,.fix 0 o)] ∧ n = 1) := by
 refine callF_of_body tok Tryz.func13 (by kernel_rfl) rfl rfl rfl ?_; conv => cbv
 refine callF_frame wide_lx [] rfl (by simp [hmapOk,nget,hget,renB,okB,renV,renVs,rn,okVs,okV]) rfl rfl (fun r h' n' ⟨e1,e2,e3⟩ => ?_)
 subst e1 e2 e3
 conv => cbv
 obtain ⟨z0,hz0⟩ : ∃ z0 : ByteArray,z0 = ⟨(enc []).toArray⟩ := ⟨_,rfl⟩
 obtain ⟨N,hN⟩ : ∃ N : Int,N = 100 := ⟨_,rfl⟩
 obtain ⟨W,hW⟩ : ∃ W : Int,W = 32 * N := ⟨_,rfl⟩
 obtain ⟨st,hst⟩ : ∃ N : Int,N = 100 := ⟨_,rfl⟩
 obtain ⟨as_,has⟩ : ∃ N : Int,N = 0 := ⟨_,rfl⟩
 obtain ⟨L0,hL0⟩ : ∃ L0,L0 = rpv (List.replicate N.toNat ((0,[]) : Rw)) := ⟨_,rfl⟩
 obtain ⟨D0,hD0⟩ : ∃ D0,D0 = ipv (List.replicate W.toNat (0 : Int)) := ⟨_,rfl⟩
 have hM0 := HM.new (by omega : 2 ≤ N) (by omega) hW hL0 hD0 hD0 hz0
 obtain ⟨R0,hR0⟩ : ∃ R0,R0 = List.replicate N.toNat ((0,[]) : Rw) := ⟨_,rfl⟩
 obtain ⟨ws0,hws0⟩ : ∃ ws0,ws0 = List.replicate W.toNat (0 : Int) := ⟨_,rfl⟩
 rw [← hR0,← hws0] at hM0
 have hCO : COk N st as_ := ⟨by omega,by omega,by omega,by omega⟩
 have hB0 : Bare0 N ⟨R0,ws0,ws0,[],false,0,0,0⟩ := ⟨hM0.good false 0 0 (by omega) (by omega) ⟨by omega,by omega⟩ (by omega),hR0,rfl⟩
 refine CallF.le (args0 := [.agg [i6 N,i6 st,i6 as_]]) (callF_frame (newS_lx N W st as_ hCO (by omega) (by omega) hW L0 D0 D0 z0 hL0 hD0 hD0 hz0) [] rfl trivial rfl rfl (fun r h' n' ⟨e1,e2,e3⟩ => ?_)) (by simp [ales,ale,pvle,I.val,hN,hst,has])
 subst e1 e2 e3
 conv => cbv
 refine cfr (heapS_lx R0 ws0 ws0 [] N W 0 0 0 L0 D0 D0 z0 false st as_) [(0,1),(1,2),(2,3),(3,4),(4,5),(5,6),(6,7),(7,8)] (fun r h' n' ⟨e1,e2,e3⟩ => ?_)
 subst e1 e2 e3
 conv => cbv
 refine cfr (heapS_lx R0 ws0 ws0 [] N W 0 0 0 L0 D0 D0 z0 false st as_) [(0,1),(1,2),(2,3),(3,4),(4,5),(5,6),(6,7),(7,8)] (fun r h' n' ⟨e1,e2,e3⟩ => ?_)
 subst e1 e2 e3
 conv => cbv
 refine cfr (arena_lx R0 ws0 ws0 [] N W 0 0 0 L0 D0 D0 z0 false) [(0,2),(1,3),(2,4),(3,5),(4,6),(5,7),(6,8)] (fun r h' n' ⟨e1,e2,e3⟩ => ?_)
 subst e1 e2 e3
 conv => cbv
 refine CallF.re (args0 := [.ptr 1 (.lit 0),.p (.vsl (.sym 2) true [.int .i64 (.sym 5),.int .i64 (.sym 0),.int .i64 (.sym 2),.int .i64 (.sym 2)]),.p (.vsl (.sym 0) true [])]) (h' := [(1,.mix [.ptr 2 (.lit 0),i6 st,i6 as_]),hpA 2 3 7 8 3 W 0 0 0,hpB 3 4 6 3 W,hpC 4 5 137 2 N,hpP 5 L0,hpP 6 D0,hpF 7 z0 false,hpP 8 D0,(0,.fix 0 o)]) (Re.at [(0,0),(1,1),(2,2),(3,3),(4,4),(5,5),(6,6),(7,7),(8,8)] []) (cfr (alloc21_lx R0 ws0 ws0 [] N W 0 0 0 L0 D0 D0 z0 false hM0 o ho st as_ hCO hB0.g (by decide) [(5,0),(2,2)] 2 [.int .i64 (.sym 5),.int .i64 (.sym 0),.int .i64 (.sym 2),.int .i64 (.sym 2)] rfl rfl (by decide) [] 0 [] rfl rfl (by decide)) [(0,1),(1,2),(2,3),(3,4),(4,5),(5,6),(6,7),(7,8),(8,0)] (fun r h' n' hrr => ?_))
 rcases hrr with ⟨e1,⟨p,hp,v,hv⟩,e2,e3⟩ | hrr
 ·exfalso
  rcases List.mem_cons.1 hp with rfl | hp
  ·rcases hv with ⟨q,_⟩ | ⟨_,q,q2⟩
   ·exact absurd q (by decide)
   ·rw [q] at q2
    exact absurd (q2.2 (by decide)) (by decide)
  ·rw [List.mem_singleton.1 hp] at hv
   rcases hv with ⟨_,⟨_,_,_,q⟩ | ⟨q,_⟩⟩ | ⟨q,_⟩
   ·cases q
   ·exact q ⟨by decide,by decide⟩
   ·exact q rfl
 obtain ⟨X,x,out,e,mx,mg,T,cg,R1,ws1,C1,G1,ov1,ph1,sp1,cy1,L1,D1,Q1,z1,e1,hX,hh,h1,hT,hmx,hcg,hmg,hA⟩ := hrr
 have hX2 := sz_two hX
 subst hX2
 rw [has,Int.zero_mul] at hA
 obtain ⟨rfl,rfl,hAl,hnr⟩ := hB0.alloc (l := [(5,2),(2,2)]) hW hCO.1 (by simp [Val]) (by simp [hN]) hA
 rcases hh with ⟨e2,e3⟩ | ⟨_,_,hren⟩
 case inr => exact absurd hren hnr
 subst e1 e2 e3
 obtain ⟨hg1,hmo1,hxl⟩ := hAl.good hB0.g
 have hkd := hAl.kinds hB0.g
 have hxl := hxl rfl
 obtain ⟨a0,a1,rfl⟩ : ∃ a0 a1,x = [a0,a1] := by
  match x,hxl with
  | [a0,a1],_ => exact ⟨a0,a1,rfl⟩
 have hk1 : Kept R1 ws1 a1 2 2 := hkd 1 a1 (2,2) rfl rfl
 have hp1 : ph1 = 0 := hmo1.ph
 subst hp1
 subst hmg hcg hmx hT
 conv => cbv
 refine drawn_sound tok (by kernel_rfl) [(14,[18,17,16]),(15,[18,17,16]),(19,[]),(24,[]),(30,[]),(31,[])] [0,1,2,3,4,5,6,7,8,9,10,11,12,13,16,17,18,14,15,19,20,21,22,23,24,25,26,27,28,29,30,31,32,33,34] (drawnOKF_ok (by kernel_rfl)) ?_; conv => cbv
 conv => cbv
 refine Br.yes (show (0 : Int) = 0 from rfl) ?_
 conv => cbv
 refine Br.yes (show (0 : Int) = 0 from rfl) ?_
 conv => cbv
 refine Br.yes (show (2 : Int) = 2 from rfl) ?_
 conv => cbv
 refine Need.mk ⟨by decide,by decide⟩ ?_
 conv => cbv
 refine Cell.at 1 _ rfl rfl rfl ?_
 conv => cbv
 refine cfr (heapS_lx R1 ws1 C1 G1 N W 0 sp1 cy1 L1 D1 Q1 z1 ov1 st as_) [(0,1),(1,2),(2,3),(3,4),(4,5),(5,6),(6,7),(7,8)] (fun r h' n' ⟨e1,e2,e3⟩ => ?_)
 subst e1 e2 e3
 conv => cbv
 refine cfr (arena_lx R1 ws1 C1 G1 N W 0 sp1 cy1 L1 D1 Q1 z1 ov1) [(0,2),(1,3),(2,4),(3,5),(4,6),(5,7),(6,8)] (fun r h' n' ⟨e1,e2,e3⟩ => ?_)
 subst e1 e2 e3
 conv => cbv
 refine cfr (kind_lx R1 ws1 N a1 W L1 D1 h1.l h1.d h1.n h1.r h1.a h1.w) [(0,3),(1,4),(2,5),(3,6)] (fun r h' n' hrr => ?_)
 obtain ⟨v,e1,e2,e3,hv⟩ := hrr
 subst e1 e2 e3
 have hv2 : v = 2 := by
  cases hv with
  | no hno => exact absurd hk1.obj6 hno
  | is _ l hK => exact (hK.det9 hk1).1
 subst hv2
 conv => cbv
 refine Br.yes (show (2 : Int) = 2 from rfl) ?_
 conv => cbv
 refine CallF.le (args0 := [.ptr 1 (.lit 0),.p (.vsl (.sym 0) true [])]) (cfr (collectS_idle R1 ws1 C1 G1 N W 0 sp1 cy1 L1 D1 Q1 z1 ov1 h1 o ho st as_ rfl [] 0 [] rfl rfl (by decide)) [(0,1),(1,2),(2,3),(3,4),(4,5),(5,6),(6,7),(7,8),(8,0)] (fun r h' n' hrr => ?_)) (by simp [ales,ale,pvle,I.val])
 obtain ⟨C3,G3,ov3,Q3,z3,e1,e2,e3,h3,hb3⟩ := hrr
 subst e1 e2 e3
 conv => cbv
 refine cfr (heapS_lx R1 ws1 C3 G3 N W 1 sp1 cy1 L1 D1 Q3 z3 ov3 st as_) [(0,1),(1,2),(2,3),(3,4),(4,5),(5,6),(6,10),(7,8)] (fun r h' n' ⟨e1,e2,e3⟩ => ?_)
 subst e1 e2 e3
 conv => cbv
 refine cfr (phase_lx R1 ws1 C3 G3 N W 1 sp1 cy1 L1 D1 Q3 z3 ov3) [(0,2),(1,3),(2,4),(3,5),(4,6),(5,10),(6,8)] (fun r h' n' ⟨e1,e2,e3⟩ => ?_)
 subst e1 e2 e3
 conv => cbv
 refine Br.yes (show (1 : Int) = 1 from rfl) ?_
 conv => cbv
 refine RetF.mk [.p (.bool true)] [(0,.fix 0 o)] 1 (Re.at [(0,0)] []) rfl ⟨rfl,rfl,rfl⟩
end Go.Proofs.YtpbhcdbkmmjimaaGreatDoor
