/-
  The ground of the proof, part 7: the calculus and what is proved with it.
-/
import Derived.Test.YtpbhcdbkmmjimaaGreatDoorBf
import Derived.Test.YtpbhcdbkmmjimaaGreatDoorBe
namespace Go.Proofs.YtpbhcdbkmmjimaaGreatDoor
open Go Go.LX
set_option maxRecDepth 100000
set_option linter.unusedVariables false
set_option linter.unusedSimpArgs false
set_option maxHeartbeats 32000000
def Wh (R : List Rw) (C : List Int) (p : Int) : Prop := p ∈ objs R ∧ C[p.toNat]? = some 0
inductive SweptTo (ws C : List Int) (R : List Rw) (p : Int) : Nat → List Gn → List Rw → Prop
 | zero : SweptTo ws C R p 0 [] R
 | skip (i : Nat) (out : List Gn) (R1 : List Rw) (h : SweptTo ws C R p i out R1) (hn : ¬ Wh R1 C (p + i)) : SweptTo ws C R p (i + 1) out R1
 | free (i : Nat) (out : List Gn) (R1 R2 : List Rw) (k : Int) (X : List Int) (h : SweptTo ws C R p i out R1) (hw : Wh R1 C (p + i)) (hk : KindR R1 ws (p + i) k) (hX : Wrds R1 ws (p + i) X) (hf : Freet R1 (p + i) 0 R2) : SweptTo ws C R p (i + 1) (out ++ [(k,p + i,X,false)]) R2
theorem SweptTo.le {ws C : List Int} {R R' : List Rw} {p : Int} {i : Nat} {out : List Gn} (h : SweptTo ws C R p i out R') : out.length ≤ i := by
 induction h with
 | zero => exact Nat.le_refl _
 | skip i out R1 h hn ih => omega
 | free i out R1 R2 k X h hw hk hX hf ih => rw [List.length_append]; simp; omega
theorem kept_freet {R R' : List Rw} {ws : List Int} {a e : Int} (hA : AOk R ws) (h : Freet R a e R') : ∀ b k l,Kept R' ws b k l → Kept R ws b k l := by
 cases h with
 | none _ => exact fun _ _ _ hk => hk
 | ok q s e he hs hat =>
  obtain ⟨_,_,_,g4⟩ := free_objs hA.rows he hs a hat
  rintro b k l ⟨w,h1,h2,h3,h4,h5,h6⟩
  exact .mk k l w ((g4 b w).1 h1).1 h2 h3 h4 h5 h6
theorem HM.freet {R R' : List Rw} {ws C G : List Int} {N W : Int} {L L' D Q : List PV} {z : ByteArray} {a e : Int} (h : HM R ws C G N W L D Q z) (hf : Freet R a e R') (hL : L' = rpv R') : HM R' ws C G N W L' D Q z := by
 obtain ⟨h1,h2⟩ := h.a.freet hf
 exact ⟨h1,fun b k l hb => h.k b k l (kept_freet h.a hf b k l hb),by rw [h2]; exact h.n,by rw [h2]; exact h.r,h.w,hL,h.d,h.q,h.c,h.z,h.g,h.g8⟩
theorem freet_ok {R R' : List Rw} {ws : List Int} {a e : Int} (hA : AOk R ws) (ho : a ∈ objs R) (h : Freet R a e R') : e = 0 := by
 cases h with
 | none hn => exact absurd ((obj_iff hA a).1 ho) hn
 | ok _ _ _ _ _ _ => rfl
def swPh (sp W : Int) : Int := if W ≤ (sp + 1) * 32 then 0 else 2
def swCy (sp W cy : Int) : Int := if W ≤ (sp + 1) * 32 then cy + 1 else cy
theorem sweepH_lx (R : List Rw) (ws C G : List Int) (N W ph sp cy : Int) (L D Q : List PV) (z : ByteArray) (ov : Bool) (h : HM R ws C G N W L D Q z) (hph : ph = 2) (hsp : 0 ≤ sp ∧ sp ≤ 1000) (hcy : 0 ≤ cy ∧ cy ≤ 1000000000) : CallF (fun _ => Tryz.prog) 87 [.ptr 0 (.lit 0)] [hpA 0 1 5 6 3 W ph sp cy,hpB 1 2 4 3 W,hpC 2 3 137 2 N,hpP 3 L,hpP 4 D,hpF 5 z ov,hpP 6 Q] 7 (fun r h n => ∃ (out : List Gn) (k ph' sp' cy' : Int) (cells L' : List PV) (R' : List Rw),r = .p (.vsl (.sym k) true cells) ∧ h = [hpA 0 1 5 6 3 W ph' sp' cy',hpB 1 2 4 3 W,hpC 2 3 137 2 N,hpP 3 L',hpP 4 D,hpF 5 z ov,hpP 6 Q] ∧ n = 7 ∧ HM R' ws C G N W L' D Q z ∧ cells = gpv out ∧ k = out.length ∧ SweptTo ws C R (32 * sp) 32 out R' ∧ sp' = sp + 1 ∧ ph' = swPh sp W ∧ cy' = swCy sp W cy) := by
 have hWn := h.w; have hNr := h.n; have hRr := h.r
 refine callF_of_body tok Tryz.func87 (by kernel_rfl) rfl rfl rfl ?_; conv => cbv
 refine drawn_sound tok (by kernel_rfl) [] [0,1,2,3,4,5,6,7,8,9,10,11,12] (by kernel_rfl) ?_; conv => cbv
 refine Fit.mk (by show (-9223372036854775808 : Int) ≤ sp * 32; omega) (by show sp * 32 ≤ 9223372036854775807; omega) fun f hf => ?_
 have hf : f = sp * 32 := hf
 conv => cbv
 refine Fit.mk (by show (-9223372036854775808 : Int) ≤ sp + 1; omega) (by show sp + 1 ≤ 9223372036854775807; omega) fun s1 hs1 => ?_
 have hs1 : s1 = sp + 1 := hs1
 conv => cbv
 refine Fit.mk (by show (-9223372036854775808 : Int) ≤ s1 * 32; omega) (by show s1 * 32 ≤ 9223372036854775807; omega) fun be hbe => ?_
 have hbe : be = s1 * 32 := hbe
 conv => cbv
 refine LoopF.mk (fun kk s => ∃ (at_ k : Int) (i : Nat) (out : List Gn) (cells L1 : List PV) (R1 : List Rw),s = ⟨.ptr 0 (.lit 0) :: (undefs 2 ++ .sl 7 40 4 (.lit 0) (.sym k) :: .undef :: .p (.int .i64 (.sym be)) :: .p (.int .i64 (.sym at_)) :: undefs 65),[hpA 0 1 5 6 3 W ph sp cy,hpB 1 2 4 3 W,hpC 2 3 137 2 N,hpP 3 L1,hpP 4 D,hpF 5 z ov,hpP 6 Q,hpP 7 cells],8⟩ ∧ at_ = 32 * sp + i ∧ i ≤ 32 ∧ HM R1 ws C G N W L1 D Q z ∧ SweptTo ws C R (32 * sp) i out R1 ∧ cells = gpv out ∧ k = out.length ∧ kk = 32 - i) 32 _
  (Re.at [(0,0),(1,1),(2,2),(3,3),(4,4),(5,5),(6,6)] [7]) ⟨f,0,0,[],[],L,R,rfl,by omega,by omega,h,.zero,rfl,rfl,by omega⟩ ?_
 rintro kk s ⟨at_,k,i,out,cells,L1,R1,rfl,hat,hi,h1,hS,hcs,hk,hkk⟩
 have hle := hS.le
 have hcl : (cells.length : Int) = 4 * k := by rw [hcs,gpv_length]; omega
 conv => cbv
 refine Br.mk (fun gi => ?_) (fun gi => ?_)
 ·have gi : at_ < be := gi
  obtain ⟨k',rfl⟩ : ∃ k',kk = k' + 1 := ⟨kk - 1,by omega⟩
  conv => cbv
  refine CallF.le (args0 := [.ptr 0 (.lit 0),i6 at_,i6 0]) (cfr (is_lx R1 ws C G N W ph sp cy L1 D Q z ov h1 at_ 0) [(0,0),(1,1),(2,2),(3,3),(4,4),(5,5),(6,6)] (fun r h' n' hrr => ?_)) (by simp [ales,ale,pvle,I.val])
  obtain ⟨b,e1,e2,e3,hb⟩ := hrr
  subst e1 e2 e3
  cases b with
  | false =>
   have hnw : ¬ Wh R1 C (32 * sp + i) := fun hw => by have := hb.2 (hat ▸ hw); cases this
   conv => cbv
   refine Fit.mk (by show (-9223372036854775808 : Int) ≤ at_ + 1; omega) (by show at_ + 1 ≤ 9223372036854775807; omega) fun i2 hi2 => ?_
   have hi2 : i2 = at_ + 1 := hi2
   have hat2 : i2 = 32 * sp + ((i + 1 : Nat) : Int) := by omega
   conv => cbv
   refine Again.mk k' _ (Nat.lt_succ_self _) (Re.at [(0,0),(1,1),(2,2),(3,3),(4,4),(5,5),(6,6),(7,7)] []) ⟨i2,k,i + 1,out,cells,L1,R1,rfl,hat2,by omega,h1,.skip i out R1 hS hnw,hcs,hk,by omega⟩
  | true =>
   have hw : Wh R1 C (32 * sp + i) := hat ▸ hb.1 rfl
   conv => cbv
   refine cfr (kind_lx R1 ws N at_ W L1 D h1.l h1.d h1.n h1.r h1.a h1.w) [(0,1),(1,2),(2,3),(3,4)] (fun r h' n' hrr => ?_)
   obtain ⟨v,e1,e2,e3,hv⟩ := hrr
   subst e1 e2 e3
   conv => cbv
   refine cfr (wordsV_lx R1 ws C G N W ph sp cy L1 D Q z ov h1 at_) [(0,0),(1,1),(2,2),(3,3),(4,4),(5,5),(6,6)] (fun r h' n' hrr => ?_)
   obtain ⟨X,m,O,e1,e2,e3,hO,hm,hX⟩ := hrr
   subst e1 e2 e3
   conv => cbv
   refine Room.new rfl ?_
   conv => cbv
   refine Room.new ⟨?_,?_,?_⟩ ?_
   ·show (cells.length : Int) = k * 4; omega
   ·show (k + 1) * 48 ≤ 140737488355328; omega
   ·show k + 1 ≤ 9223372036854775807; omega
   conv => cbv
   refine Upd.mk fun c2 hc2 => ?_
   have hc2 : c2 = cells ++ [.int .i64 (.sym v),.int .i64 (.sym at_),.vsl (.sym m) true O,.bool false] := hc2
   have hc2 : c2 = gpv (out ++ [(v,32 * sp + i,X,false)]) := by rw [hc2,hcs,gpv_app,hO,hm,hat]; rfl
   conv => cbv
   refine Sum.mk fun k2 hk2 => ?_
   have hk2 : k2 = k + 1 := hk2
   conv => cbv
   refine cfr (freeA_lx at_ R1 ws N W L1 D h1.l h1.d h1.n h1.r h1.a h1.w) [(0,1),(1,2),(2,3),(3,4)] (fun r h' n' hrr => ?_)
   obtain ⟨e,R2,L2,e1,e2,e3,hL2,hF⟩ := hrr
   subst e1 e2 e3
   have he := freet_ok h1.a (hat.symm ▸ hw.1) hF
   subst he
   have h2 := h1.freet hF hL2
   conv => cbv
   refine Fit.mk (by show (-9223372036854775808 : Int) ≤ at_ + 1; omega) (by show at_ + 1 ≤ 9223372036854775807; omega) fun i2 hi2 => ?_
   have hi2 : i2 = at_ + 1 := hi2
   have hat2 : i2 = 32 * sp + ((i + 1 : Nat) : Int) := by omega
   have hS2 := SweptTo.free i out R1 R2 v X hS hw (hat ▸ hv) (hat ▸ hX) (hat ▸ hF)
   have hk3 : k2 = ((out ++ [(v,32 * sp + (i : Int),X,false)]).length : Int) := by rw [List.length_append]; show k2 = ((out.length + 1 : Nat) : Int); omega
   conv => cbv
   refine Again.mk k' _ (Nat.lt_succ_self _) (Re.at [(0,0),(1,1),(2,2),(3,3),(4,4),(5,5),(6,6),(9,7)] []) ⟨i2,k2,i + 1,_,c2,L2,R2,rfl,hat2,by omega,h2,hS2,hc2,hk3,by omega⟩
 ·have gi : ¬ at_ < be := gi
  obtain rfl : i = 32 := by omega
  conv => cbv
  refine Fit.mk (by show (-9223372036854775808 : Int) ≤ sp + 1; omega) (by show sp + 1 ≤ 9223372036854775807; omega) fun s2 hs2 => ?_
  have hs2 : s2 = sp + 1 := hs2
  conv => cbv
  refine cfr (wordsA_lx R1 ws N W L1 D h1.l h1.d h1.n h1.r h1.a h1.w) [(0,1),(1,2),(2,3),(3,4)] (fun r h' n' ⟨e1,e2,e3⟩ => ?_)
  subst e1 e2 e3
  conv => cbv
  refine Br.mk (fun gw => ?_) (fun gw => ?_)
  ·have gw : W ≤ be := gw
   conv => cbv
   refine Fit.mk (by show (-9223372036854775808 : Int) ≤ cy + 1; omega) (by show cy + 1 ≤ 9223372036854775807; omega) fun c2 hc2 => ?_
   have hc2 : c2 = cy + 1 := hc2
   conv => cbv
   refine RetF.mk [.p (.vsl (.sym k) true cells)] [hpA 0 1 5 6 3 W 0 s2 c2,hpB 1 2 4 3 W,hpC 2 3 137 2 N,hpP 3 L1,hpP 4 D,hpF 5 z ov,hpP 6 Q] 7 (Re.at [(0,0),(1,1),(2,2),(3,3),(4,4),(5,5),(6,6)] []) rfl ⟨out,k,0,s2,c2,cells,L1,R1,rfl,rfl,rfl,h1,hcs,hk,hS,hs2,by unfold swPh; rw [if_pos (by omega)],by unfold swCy; rw [if_pos (by omega)]; exact hc2⟩
  ·have gw : ¬ W ≤ be := gw
   conv => cbv
   refine RetF.mk [.p (.vsl (.sym k) true cells)] [hpA 0 1 5 6 3 W ph s2 cy,hpB 1 2 4 3 W,hpC 2 3 137 2 N,hpP 3 L1,hpP 4 D,hpF 5 z ov,hpP 6 Q] 7 (Re.at [(0,0),(1,1),(2,2),(3,3),(4,4),(5,5),(6,6)] []) rfl ⟨out,k,ph,s2,cy,cells,L1,R1,rfl,rfl,rfl,h1,hcs,hk,hS,hs2,by unfold swPh; rw [if_neg (by omega)]; exact hph,by unfold swCy; rw [if_neg (by omega)]⟩
inductive Stepd (R : List Rw) (ws C G : List Int) (ov : Bool) (ph sp cy W : Int) : List Gn → List Rw → List Int → List Int → List Int → Bool → Int → Int → Int → Prop
 | mark (out : List Gn) (ws' C' G' : List Int) (ov' : Bool) (ph' sp' : Int) (h : ph = 1) (hm : Marked R ws C G ov sp out ph' sp' ws' C' G' ov') : Stepd R ws C G ov ph sp cy W out R ws' C' G' ov' ph' sp' cy
 | sweep (out : List Gn) (R' : List Rw) (h : ph = 2) (hs : SweptTo ws C R (32 * sp) 32 out R') : Stepd R ws C G ov ph sp cy W out R' ws C G ov (swPh sp W) (sp + 1) (swCy sp W cy)
 | idle (h : ph ≠ 1) (h2 : ph ≠ 2) : Stepd R ws C G ov ph sp cy W [] R ws C G ov ph sp cy
theorem step_lx (R : List Rw) (ws C G : List Int) (N W ph sp cy : Int) (L D Q : List PV) (z : ByteArray) (ov : Bool) (h : HM R ws C G N W L D Q z) (o : Unit → Obj) (ho : IsPow o) (hsp : 0 ≤ sp ∧ sp ≤ 1000) (hcy : 0 ≤ cy ∧ cy ≤ 1000000000) : CallF (fun _ => Tryz.prog) 47 [.ptr 0 (.lit 0)] [hpA 0 1 5 6 3 W ph sp cy,hpB 1 2 4 3 W,hpC 2 3 137 2 N,hpP 3 L,hpP 4 D,hpF 5 z ov,hpP 6 Q,(7,.fix 0 o)] 8 (fun r h n => ∃ (out : List Gn) (k ph' sp' cy' : Int) (R' : List Rw) (ws' C' G' : List Int) (ov' : Bool) (cells L' D' Q' : List PV) (z' : ByteArray),r = .p (.vsl (.sym k) true cells) ∧ h = [hpA 0 1 5 6 3 W ph' sp' cy',hpB 1 2 4 3 W,hpC 2 3 137 2 N,hpP 3 L',hpP 4 D',hpF 5 z' ov',hpP 6 Q',(7,.fix 0 o)] ∧ n = 8 ∧ HM R' ws' C' G' N W L' D' Q' z' ∧ cells = gpv out ∧ k = out.length ∧ Stepd R ws C G ov ph sp cy W out R' ws' C' G' ov' ph' sp' cy') := by
 refine callF_of_body tok Tryz.func47 (by kernel_rfl) rfl rfl rfl ?_; conv => cbv
 refine cfr (phase_lx R ws C G N W ph sp cy L D Q z ov) [(0,0),(1,1),(2,2),(3,3),(4,4),(5,5),(6,6)] (fun r h' n' ⟨e1,e2,e3⟩ => ?_)
 subst e1 e2 e3
 conv => cbv
 refine Br.mk (fun g => ?_) (fun g => ?_)
 ·have g : ph = 1 := g
  conv => cbv
  refine cfr (markH_lx R ws C G N W ph sp cy L D Q z ov h o ho g) [(0,0),(1,1),(2,2),(3,3),(4,4),(5,5),(6,6),(7,7)] (fun r h' n' hrr => ?_)
  obtain ⟨out,k,ph',sp',cells,ws',C',G',ov',D',Q',z',e1,e2,e3,h2,hcs,hk,hM⟩ := hrr
  subst e1 e2 e3
  conv => cbv
  refine RetF.mk [.p (.vsl (.sym k) true cells)] [hpA 0 1 5 6 3 W ph' sp' cy,hpB 1 2 4 3 W,hpC 2 3 137 2 N,hpP 3 L,hpP 4 D',hpF 5 z' ov',hpP 6 Q',(7,.fix 0 o)] 8 (Re.at [(0,0),(1,1),(2,2),(3,3),(4,4),(5,5),(6,6),(7,7)] []) rfl ⟨out,k,ph',sp',cy,R,ws',C',G',ov',cells,L,D',Q',z',rfl,rfl,rfl,h2,hcs,hk,.mark out ws' C' G' ov' ph' sp' g hM⟩
 ·have g : ¬ ph = 1 := g
  conv => cbv
  refine Br.mk (fun g2 => ?_) (fun g2 => ?_)
  ·have g2 : ph = 2 := g2
   conv => cbv
   refine cfr (sweepH_lx R ws C G N W ph sp cy L D Q z ov h g2 hsp hcy) [(0,0),(1,1),(2,2),(3,3),(4,4),(5,5),(6,6)] (fun r h' n' hrr => ?_)
   obtain ⟨out,k,ph',sp',cy',cells,L',R',e1,e2,e3,h2,hcs,hk,hS,q1,q2,q3⟩ := hrr
   subst e1 e2 e3
   conv => cbv
   refine RetF.mk [.p (.vsl (.sym k) true cells)] [hpA 0 1 5 6 3 W ph' sp' cy',hpB 1 2 4 3 W,hpC 2 3 137 2 N,hpP 3 L',hpP 4 D,hpF 5 z ov,hpP 6 Q,(7,.fix 0 o)] 8 (Re.at [(0,0),(1,1),(2,2),(3,3),(4,4),(5,5),(6,6),(7,7)] []) rfl ⟨out,k,ph',sp',cy',R',ws,C,G,ov,cells,L',D,Q,z,rfl,rfl,rfl,h2,hcs,hk,by rw [q1,q2,q3]; exact .sweep out R' g2 hS⟩
  ·have g2 : ¬ ph = 2 := g2
   conv => cbv
   refine RetF.mk [.p (.vsl (.sym 0) true [])] [hpA 0 1 5 6 3 W ph sp cy,hpB 1 2 4 3 W,hpC 2 3 137 2 N,hpP 3 L,hpP 4 D,hpF 5 z ov,hpP 6 Q,(7,.fix 0 o)] 8 (Re.at [(0,0),(1,1),(2,2),(3,3),(4,4),(5,5),(6,6),(7,7)] []) rfl ⟨[],0,ph,sp,cy,R,ws,C,G,ov,[],L,D,Q,z,rfl,rfl,rfl,h,rfl,rfl,.idle g g2⟩
def Dk (R : List Rw) (ws C : List Int) : Prop := ∀ (a x i : Int),a ∈ objs R → C[a.toNat]? = some 2 → Loaded R ws a i x 0 → x % 2 = 1 → (x - 1) / 2 ∈ objs R → C[((x - 1) / 2).toNat]? ≠ some 0
def CLe (C C' : List Int) : Prop := (∀ p : Nat,C'[p]? = some 0 → C[p]? = some 0) ∧ (∀ p : Nat,C'[p]? = some 2 → C[p]? = some 2)
theorem CLe.refl (C : List Int) : CLe C C := ⟨fun _ h => h,fun _ h => h⟩
theorem CLe.trans {A B C : List Int} (h : CLe A B) (k : CLe B C) : CLe A C := ⟨fun p q => h.1 p (k.1 p q),fun p q => h.2 p (k.2 p q)⟩
theorem shade_le (R : List Rw) (ph a : Int) (s : List Int × List Int × Bool) : CLe s.1 (shade R ph a s).1 := by
 unfold shade
 split
 ·rename_i hc
  have h0 := hc.2.2
  have hl := (List.getElem?_eq_some_iff.1 h0).1
  refine ⟨fun p hp => ?_,fun p hp => ?_⟩
  ·by_cases e : a.toNat = p
   ·subst e; exact h0
   ·have hp : (s.1.set a.toNat 1)[p]? = some 0 := hp
    rw [List.getElem?_set_ne e] at hp; exact hp
  ·have hp : (s.1.set a.toNat 1)[p]? = some 2 := hp
   by_cases e : a.toNat = p
   ·subst e
    rw [List.getElem?_set_self hl] at hp
    exact absurd (Option.some.inj hp) (by decide)
   ·rw [List.getElem?_set_ne e] at hp; exact hp
 ·exact CLe.refl _
theorem shade_hit (R : List Rw) (a : Int) (s : List Int × List Int × Bool) (ha : a ∈ objs R) : (shade R 1 a s).1[a.toNat]? ≠ some 0 := by
 unfold shade
 split
 ·rename_i hc
  have hl := (List.getElem?_eq_some_iff.1 hc.2.2).1
  show (s.1.set a.toNat 1)[a.toNat]? ≠ some 0
  rw [List.getElem?_set_self hl]
  exact fun h => absurd (Option.some.inj h) (by decide)
 ·rename_i hc
  exact fun h => hc ⟨rfl,ha,h⟩
theorem shadeW_le (R : List Rw) (ph w : Int) (s : List Int × List Int × Bool) : CLe s.1 (shadeW R ph w s).1 := by
 unfold shadeW
 split
 ·exact shade_le _ _ _ _
 ·exact CLe.refl _
theorem shadeW_hit (R : List Rw) (w : Int) (s : List Int × List Int × Bool) (hw : w % 2 = 1) (ha : (w - 1) / 2 ∈ objs R) : (shadeW R 1 w s).1[((w - 1) / 2).toNat]? ≠ some 0 := by
 unfold shadeW
 rw [if_pos hw]
 exact shade_hit _ _ _ ha
theorem fold_le (R : List Rw) (ph : Int) : ∀ (X : List Int) (s : List Int × List Int × Bool),CLe s.1 (X.foldl (fun s w => shadeW R ph w s) s).1
 | [],s => CLe.refl _
 | w :: X,s => (shadeW_le R ph w s).trans (fold_le R ph X _)
theorem fold_hit (R : List Rw) : ∀ (X : List Int) (s : List Int × List Int × Bool) (w : Int),w ∈ X → w % 2 = 1 → (w - 1) / 2 ∈ objs R → (X.foldl (fun s w => shadeW R 1 w s) s).1[((w - 1) / 2).toNat]? ≠ some 0
 | [],s,w,hw,_,_ => by cases hw
 | v :: X,s,w,hw,h1,h2 => by
  rcases List.mem_cons.1 hw with rfl | hw
  ·exact fun h => shadeW_hit R w s h1 h2 ((fold_le R 1 X _).1 _ h)
  ·exact fold_hit R X _ w hw h1 h2
theorem Dk.le {R : List Rw} {ws C C' : List Int} (h : Dk R ws C) (hc : CLe C C') : Dk R ws C' :=
 fun a x i ha h2 hl hx hp h0 => h a x i ha (hc.2 _ h2) hl hx hp (hc.1 _ h0)
theorem beg_le (R : List Rw) : ∀ (A : List Int) (s : List Int × List Int × Bool),CLe s.1 (A.foldl (fun s a => shade R 1 a s) s).1
 | [],s => CLe.refl _
 | a :: A,s => (shade_le R 1 a s).trans (beg_le R A _)
theorem Dk.begin {R : List Rw} {ws C G A : List Int} {ov : Bool} {W : Int} (h : (C,G,ov) = begS R W A) : Dk R ws C := by
 intro a x i ha h2 hl hx hp
 have hc : C = (begS R W A).1 := congrArg Prod.fst h
 have hle := beg_le R A (List.replicate W.toNat 0,[],false)
 rw [hc] at h2
 have h3 : (List.replicate W.toNat (0 : Int))[a.toNat]? = some 2 := hle.2 _ h2
 rw [List.getElem?_replicate] at h3
 split at h3
 ·exact absurd (Option.some.inj h3) (by decide)
 ·cases h3
theorem stored_kept {R : List Rw} {ws ws' : List Int} {a i x e : Int} (hA : AOk R ws) (h : Stored R ws a i x e ws') : ∀ b k l,Kept R ws' b k l → Kept R ws b k l := by
 cases h with
 | none _ => exact fun _ _ _ hk => hk
 | arg _ _ _ _ => exact fun _ _ _ hk => hk
 | ok k l hka hi =>
  intro b k' l' hb
  have hbn := hka.bounds hA
  obtain ⟨w,q1,q2,q3,q4,q5,q6⟩ := hb
  have hne : (a + 1 + i).toNat ≠ b.toNat := by
   obtain ⟨wa,p1,p2,p3,p4,p5,p6⟩ := hka
   have := within_not hA.rows p1 q1 (j := a + 1 + i) (by omega) (by omega)
   have := q1.facts hA.rows
   omega
  rw [List.getElem?_set_ne hne] at q2
  exact .mk k' l' w q1 q2 q3 q4 q5 q6
theorem stored_loaded {R : List Rw} {ws ws' : List Int} {a i x e b j y : Int} (hA : AOk R ws) (h : Stored R ws a i x e ws') (hl : Loaded R ws' b j y 0) : (e = 0 ∧ y = x) ∨ Loaded R ws b j y 0 := by
 have hk := stored_kept hA h
 cases h with
 | none _ => exact .inr hl
 | arg _ _ _ _ => exact .inr hl
 | ok k l hka hi =>
  cases hl with
  | ok k' l' _ hK hj hy =>
   have hbn := hka.bounds hA
   have hlen := hA.len
   rcases set_get (by omega) hy with ⟨_,e⟩ | ⟨_,e⟩
   ·exact .inl ⟨rfl,e⟩
   ·exact .inr (.ok k' l' y (hk _ _ _ hK) hj e)
theorem Dk.store {R : List Rw} {ws ws' C C' G G' : List Int} {ov ov' : Bool} {a i x e : Int} (hA : AOk R ws) (h : Dk R ws C) (hs : Stored R ws a i x e ws') (hc : (C',G',ov') = storeS R 1 e x (C,G,ov)) : Dk R ws' C' := by
 have hC : C' = (storeS R 1 e x (C,G,ov)).1 := congrArg Prod.fst hc
 have hle : CLe C C' := by
  rw [hC]; unfold storeS
  split
  ·exact shadeW_le R 1 x (C,G,ov)
  ·exact CLe.refl _
 intro b y j hb h2 hl hy hp
 rcases stored_loaded hA hs hl with ⟨he,rfl⟩ | hl
 ·rw [hC]; unfold storeS
  rw [if_pos he]
  exact shadeW_hit R y _ hy hp
 ·exact (h.le hle) b y j hb h2 hl hy hp
theorem Dk.alloc {R R' : List Rw} {ws ws' C C' : List Int} {kind n a e ph : Int} (hA : AOk R ws) (hCl : (C.length : Int) = 32 * R.length) (h : Dk R ws C) (hs : Alloct R ws kind n a e R' ws') (hph : ph = 1) (hc : C' = allocC ph a e C) : Dk R' ws' C' := by
 by_cases he : e = 0
 ·obtain ⟨h1,h2,_,h4,h5,h6,h7⟩ := alloct_ok hA hs he
  obtain ⟨hA',hlR⟩ := hA.alloct hs
  have hab := h1.bounds hA'
  have hC : C' = C.set a.toNat 2 := by rw [hc,allocC,if_pos he,hph]; rfl
  have hself : C'[a.toNat]? = some 2 := by rw [hC]; exact List.getElem?_set_self (by omega)
  intro b x i hb hb2 hl hx hp
  have hpl : (x - 1) / 2 = a ∨ ((x - 1) / 2 ≠ a ∧ (x - 1) / 2 ∈ objs R) := by
   by_cases q : (x - 1) / 2 = a
   ·exact .inl q
   ·rcases h6 _ ((obj_iff hA' _).1 hp) with q2 | q2
    ·exact .inl q2
    ·exact .inr ⟨q,(obj_iff hA _).2 q2⟩
  rcases h6 b ((obj_iff hA' b).1 hb) with rfl | hbo
  ·exfalso
   cases hl with
   | ok k l _ hK hi hxw =>
    obtain ⟨_,rfl⟩ := hK.det9 h1
    rw [h4 i hi.1 hi.2] at hxw
    obtain rfl := Option.some.inj hxw
    omega
  ·have hbR := (obj_iff hA b).2 hbo
   have hbb := obj_bd hA hbR
   have hne : b ≠ a := fun q => h2 (q ▸ hbo)
   have hlR : Loaded R ws b i x 0 := by
    cases hl with
    | ok k l _ hK hi hxw =>
     obtain ⟨k',l',hK'⟩ := Kept.of hA hbo
     obtain ⟨_,rfl⟩ := (h5 b k' l' hK').det9 hK
     exact .ok k' l' x hK' hi (by rw [← h7 b k' l' i hK' hi.1 hi.2]; exact hxw)
   have hcb : C[b.toNat]? = some 2 := by rw [hC,List.getElem?_set_ne (by omega)] at hb2; exact hb2
   rcases hpl with q | ⟨q1,q2⟩
   ·rw [q,hself]; exact fun k => absurd (Option.some.inj k) (by decide)
   ·have hpb := obj_bd hA q2
    rw [hC,List.getElem?_set_ne (by omega)]
    exact h b x i hbR hcb hlR hx q2
 ·have hg := alloct_gen9 hA hs
  rcases hg with ⟨_,_,rfl,rfl⟩ | ⟨q,_⟩
  ·rw [hc,allocC,if_neg he]; exact h
  ·exact absurd q he
theorem Dk.marked {R : List Rw} {ws ws' C C' G G' : List Int} {ov ov' : Bool} {sp p s : Int} {out : List Gn} (hA : AOk R ws) (hg0 : ∀ x ∈ G,0 ≤ x) (hCl : (C.length : Int) = 32 * R.length) (h : Dk R ws C) (hm : Marked R ws C G ov sp out p s ws' C' G' ov') (hp : p = 1) : Dk R ws' C' := by
 cases hm with
 | scan v A X _ _ o1 _ hg hX hs =>
  have hC : C' = (X.foldl (fun s w => shadeW R 1 w s) (C,A,o1)).1.set v.toNat 2 := congrArg Prod.fst hs
  have hle := fold_le R 1 X (C,A,o1)
  have hhit := fold_hit R X (C,A,o1)
  generalize (X.foldl (fun s w => shadeW R 1 w s) (C,A,o1)).1 = F at hC hle hhit
  have hset : ∀ q : Nat,C'[q]? = some 0 → F[q]? = some 0 := by
   intro q hq
   rw [hC] at hq
   by_cases e : v.toNat = q
   ·subst e
    by_cases hl : v.toNat < F.length
    ·rw [List.getElem?_set_self hl] at hq; exact absurd (Option.some.inj hq) (by decide)
    ·rw [List.getElem?_eq_none (by rw [List.length_set]; omega)] at hq; cases hq
   ·rw [List.getElem?_set_ne e] at hq; exact hq
  intro b x i hb hb2 hl hx hpl h0
  by_cases e : v.toNat = b.toNat
  ·have hbb := obj_bd hA hb
   have hv : 0 ≤ v := by
    cases hg with
    | pop A' _ hG => exact hg0 v (by rw [hG]; simp)
    | found _ _ _ _ ha _ _ => exact (obj_bd hA (List.mem_of_getElem? ha)).1
   have hvb : v = b := by omega
   subst hvb
   have hxX : x ∈ X := by
    have hlen := hX.1
    cases hl with
    | ok k l _ hK hi hxw =>
     generalize hxl : (X.length : Int) = xl at hlen
     cases hlen with
     | no hn => exact absurd hK.obj6 hn
     | is k' l' hK' =>
      obtain ⟨_,rfl⟩ := hK.det9 hK'
      obtain ⟨y,hy⟩ : ∃ y,X[i.toNat]? = some y := ⟨_,List.getElem?_eq_getElem (by omega)⟩
      have hld := hX.2 _ _ hy
      rw [show ((i.toNat : Nat) : Int) = i by omega] at hld
      obtain ⟨rfl,_⟩ := loaded_det hld (.ok k l x hK hi hxw)
      exact List.mem_of_getElem? hy
   exact hhit x hxX hx hpl (hset _ h0)
  ·rw [hC,List.getElem?_set_ne e] at hb2
   exact h b x i hb (hle.2 _ hb2) hl hx hpl (hle.1 _ (hset _ h0))
 | keep a A X _ _ _ o1 _ hg hf hX hst hs =>
  have hC : C' = (shade R 1 a (C,A,o1)).1 := congrArg Prod.fst hs
  have h2 : Dk R ws' C := by
   intro b y j hb hb2 hl hy hpl
   rcases stored_loaded hA hst hl with ⟨_,rfl⟩ | hl
   ·exact absurd hy (by decide)
   ·exact h b y j hb hb2 hl hy hpl
  rw [hC]
  exact h2.le (shade_le R 1 a (C,A,o1))
 | sweep _ _ _ _ => exact absurd hp (by decide)
theorem Dk.stepd {R R' : List Rw} {ws ws' C C' G G' : List Int} {ov ov' : Bool} {ph sp cy W p s y : Int} {out : List Gn} (hA : AOk R ws) (hg0 : ∀ x ∈ G,0 ≤ x) (hCl : (C.length : Int) = 32 * R.length) (h : ph = 1 → Dk R ws C) (hs : Stepd R ws C G ov ph sp cy W out R' ws' C' G' ov' p s y) (hp : p = 1) : Dk R' ws' C' := by
 cases hs with
 | mark _ _ _ _ _ _ _ hph hm => exact (h hph).marked hA hg0 hCl hm hp
 | sweep _ _ _ _ =>
  unfold swPh at hp
  split at hp <;> exact absurd hp (by decide)
 | idle h1 _ => exact absurd hp h1
end Go.Proofs.YtpbhcdbkmmjimaaGreatDoor
namespace Go.Proofs.YtpbhcdbkmmjimaaGreatDoor
open Go Go.LX
set_option maxRecDepth 100000
set_option linter.unusedVariables false
set_option maxHeartbeats 32000000
theorem enc_small (A : List Int) (hA : ∀ a ∈ A,i64 a) (h8 : A.length ≤ 8) : (enc A).length < 1000000 := by
 have := enc_len A hA; omega
theorem five : ∀ x ∈ ([5] : List Int),i64 x := by
 intro x hx; rw [List.mem_singleton.1 hx]; exact ⟨by decide,by decide⟩
def row (t : Int) : Nat → List Int
 | 0 => []
 | k + 1 => row t k ++ [t + k]
theorem row_length (t : Int) : ∀ k,(row t k).length = k
 | 0 => rfl
 | k + 1 => by rw [row,List.length_append,row_length t k]; rfl
theorem row_i64 (t : Int) (h0 : -1099511627776 ≤ t) (h1 : t ≤ 1099511627776) : ∀ k,k ≤ 1000 → ∀ x ∈ row t k,i64 x
 | 0,_,x,h => by cases h
 | k + 1,hk,x,h => by
  rw [row] at h
  rcases List.mem_append.1 h with h | h
  ·exact row_i64 t h0 h1 k (by omega) x h
  ·rw [List.mem_singleton.1 h]; constructor <;> omega
def i64s : List Int → List PV
 | [] => []
 | x :: l => .int .i64 (.sym x) :: i64s l
theorem i64s_length : ∀ l,(i64s l).length = l.length
 | [] => rfl
 | x :: l => by simp [i64s,i64s_length l]
theorem i64s_app : ∀ a b,i64s (a ++ b) = i64s a ++ i64s b
 | [],b => rfl
 | x :: a,b => by simp [i64s,i64s_app a b]
theorem i64s_take : ∀ (l : List Int) (k : Nat),i64s (l.take k) = (i64s l).take k
 | [],k => by simp [i64s]
 | x :: l,0 => rfl
 | x :: l,k + 1 => by simp [i64s,i64s_take l k]
theorem i64s_get : ∀ (l : List Int) (i : Nat) (x : Int),l[i]? = some x → (i64s l)[i]? = some (.int .i64 (.sym x))
 | [],i,x,h => by simp at h
 | y :: l,0,x,h => by simp at h; subst h; rfl
 | y :: l,i + 1,x,h => by simpa [i64s] using i64s_get l i x (by simpa using h)
theorem refPush_lx (A : List Int) (a m : Int) (la : List PV) (ov : Bool) (hm : m = A.length) (hla : la = i64s A) (hA8 : A.length ≤ 8) :
  CallF (fun _ => Tryz.prog) 94 [.ptr 0 (.lit 0),i6 a] [(0,.mix [.p (.vsl (.sym m) true la),.p (.bool ov)])] 1 (fun r h n => ∃ (b ov' : Bool) (m' : Int) (la' : List PV) (A' : List Int),r = .p (.bool b) ∧ h = [(0,.mix [.p (.vsl (.sym m') true la'),.p (.bool ov')])] ∧ n = 1 ∧ m' = A'.length ∧ la' = i64s A' ∧ (A.length < 8 → b = true ∧ A' = A ++ [a] ∧ ov' = ov) ∧ (8 ≤ A.length → b = false ∧ A' = A ∧ ov' = true)) := by
 refine callF_of_body tok Tryz.func94 (by kernel_rfl) rfl rfl rfl ?_; conv => cbv
 refine Br.mk (fun g => ?_) (fun g => ?_)
 ·have g : 8 ≤ m := g
  conv => cbv
  refine RetF.mk [.p (.bool false)] [(0,.mix [.p (.vsl (.sym m) true la),.p (.bool true)])] 1 (Re.at [(0,0)] []) rfl ⟨false,true,m,la,A,rfl,rfl,rfl,hm,hla,fun h => by omega,fun _ => ⟨rfl,rfl,rfl⟩⟩
 ·have g : ¬ 8 ≤ m := g
  have hlal : (la.length : Int) = m := by rw [hla,i64s_length]; omega
  conv => cbv
  refine Need.mk (by show (la.length : Int) = m * 1; omega) ?_
  conv => cbv
  refine Need.mk ⟨by show m * 8 ≤ 140737488355328; omega,by show m ≤ 9223372036854775807; omega⟩ ?_
  conv => cbv
  refine Room.new rfl ?_
  conv => cbv
  refine Room.new ⟨by show (la.length : Int) = m * 1; omega,by show (m + 1) * 8 ≤ 140737488355328; omega,by show m + 1 ≤ 9223372036854775807; omega⟩ ?_
  conv => cbv
  refine Upd.mk fun L2 hL2 => ?_
  have hL3 : L2 = i64s (A ++ [a]) := by rw [hL2,hla,i64s_app]; rfl
  conv => cbv
  refine Sum.mk fun m2 hm2 => ?_
  have hm2 : m2 = m + 1 := hm2
  conv => cbv
  refine RetF.mk [.p (.bool true)] [(0,.mix [.p (.vsl (.sym m2) true L2),.p (.bool ov)])] 1 (Re.at [(0,0)] []) rfl ⟨true,ov,m2,L2,A ++ [a],rfl,rfl,rfl,by simp; omega,hL3,fun _ => ⟨rfl,rfl,rfl⟩,fun h => by omega⟩
theorem refPop_lx (A : List Int) (m : Int) (la : List PV) (ov : Bool) (hm : m = A.length) (hla : la = i64s A) (hA8 : A.length ≤ 8) :
  CallF (fun _ => Tryz.prog) 135 [.ptr 0 (.lit 0)] [(0,.mix [.p (.vsl (.sym m) true la),.p (.bool ov)])] 1 (fun r h n => ∃ (v : Int) (b : Bool) (m' : Int) (la' : List PV) (A' : List Int),r = .tup [i6 v,.p (.bool b)] ∧ h = [(0,.mix [.p (.vsl (.sym m') true la'),.p (.bool ov)])] ∧ n = 1 ∧ m' = A'.length ∧ la' = i64s A' ∧ (A = [] ∧ v = 0 ∧ b = false ∧ A' = [] ∨ A = A' ++ [v] ∧ b = true)) := by
 refine callF_of_body tok Tryz.func135 (by kernel_rfl) rfl rfl rfl ?_; conv => cbv
 refine Fit.mk (by show (-9223372036854775808 : Int) ≤ m - 1; omega) (by show m - 1 ≤ 9223372036854775807; omega) ?_
 intro q hq
 have hq : q = m - 1 := hq
 have hlal : (la.length : Int) = m := by rw [hla,i64s_length]; omega
 conv => cbv
 refine Br.mk (fun g => ?_) (fun g => ?_)
 ·have g : q < 0 := g
  have hA0 : A = [] := List.eq_nil_of_length_eq_zero (by omega)
  conv => cbv
  refine RetF.mk [i6 0,.p (.bool false)] [(0,.mix [.p (.vsl (.sym m) true la),.p (.bool ov)])] 1 (Re.at [(0,0)] []) rfl ⟨0,false,m,la,A,rfl,rfl,rfl,hm,hla,.inl ⟨hA0,rfl,rfl,hA0⟩⟩
 ·have g : ¬ q < 0 := g
  obtain ⟨B,a,hB⟩ : ∃ B a,A = B ++ [a] := ⟨_,_,(List.dropLast_concat_getLast (by rintro rfl; simp at hm; omega)).symm⟩
  have hBl : A.length = B.length + 1 := by rw [hB]; simp
  have hAq : A[q.toNat]? = some a := by rw [hB,List.getElem?_append_right (by omega),show q.toNat - B.length = 0 by omega]; rfl
  have hcq := i64s_get A q.toNat a hAq
  rw [← hla] at hcq
  conv => cbv
  refine Need.mk ⟨by simp only [I.val]; omega,by simp only [I.val]; omega⟩ ?_
  conv => cbv
  refine Cell.at q _ hcq (by simp [I.val]) rfl ?_
  conv => cbv
  refine Need.mk ⟨by simp only [I.val]; omega,by simp only [I.val]; omega,by simp only [I.val]; omega⟩ ?_
  conv => cbv
  refine Upd.mk fun L1 hL1 => ?_
  have hL1 : L1 = i64s B := by
   rw [hL1,show ((I.lit 0).val.toNat * 1) = 0 from rfl,List.drop_zero,show ((I.sym q).val - (I.lit 0).val).toNat * 1 = B.length by simp only [I.val]; omega,hla,← i64s_take,hB,List.take_left]
  conv => cbv
  refine Sum.mk fun q2 hq2 => ?_
  have hq2 : q2 = q := by have : q2 = q - 0 := hq2; omega
  have hL1l : (L1.length : Int) = q2 := by rw [hL1,i64s_length]; omega
  conv => cbv
  refine Need.mk (by show (L1.length : Int) = q2 * 1; omega) ?_
  conv => cbv
  refine Need.mk ⟨by show q2 * 8 ≤ 140737488355328; omega,by show q2 ≤ 9223372036854775807; omega⟩ ?_
  conv => cbv
  have f1 : q2 = (B.length : Int) := by omega
  refine RetF.mk [i6 a,.p (.bool true)] [(0,.mix [.p (.vsl (.sym q2) true L1),.p (.bool ov)])] 1 (Re.at [(0,0)] []) rfl ⟨a,true,q2,L1,B,rfl,rfl,rfl,f1,hL1,.inr ⟨hB,rfl⟩⟩
end Go.Proofs.YtpbhcdbkmmjimaaGreatDoor
namespace Go.Proofs.YtpbhcdbkmmjimaaGreatDoor
open Go Go.LX
set_option maxRecDepth 100000
set_option linter.unusedVariables false
set_option linter.unusedSimpArgs false
set_option maxHeartbeats 32000000
theorem rok_of {R : List Rw} (h : RowsOk R) : ROk R := fun e he => ⟨(h e he).1,fun hne => by
 obtain ⟨h1,h2,_⟩ := (h e he).2 hne
 refine ⟨?_,h2⟩
 intro h0
 rw [h0] at h2
 exact hne (List.length_eq_zero_iff.1 h2)⟩
theorem slot_spec {R : List Rw} {a w : Int} {e : Rw} (h0 : 0 ≤ a) (h1 : a < 32 * R.length) (he : R[(a / 32).toNat]? = some e) (hw : w = wordsOf (clsOf e)) :
  ((w = 0 ∨ (a % 32) % w ≠ 0) → SlotAt R a 0 0 false) ∧ (w ≠ 0 → (a % 32) % w = 0 → SlotAt R a (a / 32) ((a % 32) / w) true) := by
 have hw5 := wordsOf_cases (clsOf e)
 rw [← hw] at hw5
 constructor
 ·intro hno
  refine .no (fun q' s' e' he' hs' hlt' hat' => ?_)
  have hs0 : 0 ≤ (s' : Int) * wordsOf (clsOf e') := Int.mul_nonneg (by omega) (wordsOf_bd _).1
  have : q' = (a / 32).toNat := by omega
  subst this
  rw [he] at he'
  cases he'
  rw [← hw] at hat' hs0 hlt' hs'
  rcases hno with h | h
  ·exact hs' h
  ·have : a % 32 = s' * w := by omega
   rw [this,Int.mul_emod_left] at h
   exact h rfl
 ·intro hw0 hz
  have hwz : w * ((a % 32) / w) + (a % 32) % w = a % 32 := Int.mul_ediv_add_emod (a % 32) w
  have hd0 : 0 ≤ (a % 32) / w := Int.ediv_nonneg (by omega) (by omega)
  obtain ⟨sn,hsn⟩ : ∃ sn : Nat,(sn : Int) = (a % 32) / w := ⟨((a % 32) / w).toNat,by omega⟩
  rw [← hsn] at hwz
  have hmul : (sn : Int) * w = a % 32 := by rw [Int.mul_comm]; omega
  rw [← hsn,show a / 32 = ((a / 32).toNat : Int) by omega]
  refine .is (a / 32).toNat sn e he ?_ ?_ ?_
  ·rw [← hw]; exact hw0
  ·rw [← hw,hmul]; omega
  ·rw [← hw,hmul]; omega
theorem obj_in {R : List Rw} (hR : RowsOk R) {a : Int} (h : IsObj R a) : 0 ≤ a ∧ a < 32 * R.length := by
 obtain ⟨w,h⟩ := isObj_iff.1 h
 obtain ⟨h1,h2,h3,_⟩ := h.facts hR
 omega
theorem ris_lx (R : List Rw) (vs : List Int) (n at_ W : Int) (C B V : List PV) (hC : C = cpv R) (hB : B = bpv R) (hV : V = ipv vs) (hn : n = R.length) (hR : R.length ≤ 1000) (hA : AOk R vs) (hW : W = 32 * n) : CallF (fun _ => Tryz.prog) 90 [.ptr 0 (.lit 0),i6 at_] [hpB 0 1 4 3 W,hpD 1 2 3 1 n 3 131 8 n,hpP 2 C,hpP 3 B,hpP 4 V] 5
  (fun r h n' => ∃ b : Bool,r = .p (.bool b) ∧ h = [hpB 0 1 4 3 W,hpD 1 2 3 1 n 3 131 8 n,hpP 2 C,hpP 3 B,hpP 4 V] ∧ n' = 5 ∧ (b = true ↔ IsObj R at_)) := by
 refine callF_of_body tok Tryz.func90 (by kernel_rfl) rfl rfl rfl ?_; conv => cbv
 refine Br.mk (fun g => ?_) (fun g => ?_)
 ·have g : at_ < 0 := g
  have hno : ¬ IsObj R at_ := fun h => by have := obj_in hA.rows h; omega
  conv => cbv
  refine RetF.mk [.p (.bool false)] [hpB 0 1 4 3 W,hpD 1 2 3 1 n 3 131 8 n,hpP 2 C,hpP 3 B,hpP 4 V] 5 (Re.at [(0,0),(1,1),(2,2),(3,3),(4,4)] []) rfl ⟨false,rfl,rfl,rfl,iff_of_false (by decide) hno⟩
 have g : ¬ at_ < 0 := g
 conv => cbv
 refine Br.mk (fun g2 => ?_) (fun g2 => ?_)
 ·have g2 : W ≤ at_ := g2
  have hno : ¬ IsObj R at_ := fun h => by have := obj_in hA.rows h; omega
  conv => cbv
  refine RetF.mk [.p (.bool false)] [hpB 0 1 4 3 W,hpD 1 2 3 1 n 3 131 8 n,hpP 2 C,hpP 3 B,hpP 4 V] 5 (Re.at [(0,0),(1,1),(2,2),(3,3),(4,4)] []) rfl ⟨false,rfl,rfl,rfl,iff_of_false (by decide) hno⟩
 have g2 : ¬ W ≤ at_ := g2
 conv => cbv
 have ht : Int.tdiv at_ 32 = at_ / 32 := Int.tdiv_eq_ediv_of_nonneg (by omega)
 refine Fit.mk (by show (-9223372036854775808 : Int) ≤ Int.tdiv at_ 32; omega) (by show Int.tdiv at_ 32 ≤ 9223372036854775807; omega) fun q hq => ?_
 have hq : q = at_ / 32 := (show q = Int.tdiv at_ 32 from hq).trans ht
 clear ht
 obtain ⟨e,he⟩ : ∃ e,R[q.toNat]? = some e := ⟨_,List.getElem?_eq_getElem (by omega)⟩
 obtain ⟨cv,hcv⟩ : ∃ cv,cv = clsOf e := ⟨_,rfl⟩
 obtain ⟨w,hw⟩ : ∃ w,w = wordsOf cv := ⟨_,rfl⟩
 have hcc := cpv_get he
 rw [← hC,← hcv] at hcc
 have hw5 := wordsOf_cases cv
 rw [← hw] at hw5
 obtain ⟨sp1,sp2⟩ := slot_spec (R := R) (a := at_) (w := w) (by omega) (by omega) (hq ▸ he) (by rw [hw,hcv])
 conv => cbv
 refine Need.mk ⟨by show 0 ≤ q; omega,by show q < n; omega⟩ ?_
 conv => cbv
 refine Cell.at q _ hcc (by simp [I.val]) rfl ?_
 conv => cbv
 refine callF_frame (refWordsA_lx cv w hw) [] rfl trivial rfl rfl (fun r h' n' ⟨e1,e2,e3⟩ => ?_)
 subst e1 e2 e3
 conv => cbv
 refine drawn_sound tok (by kernel_rfl) [(19,[])] [0,1,2,3,4,5,6,7,8,9,10,11,12,13,14,15,16,17,18,19,20,21] (by kernel_rfl) ?_; conv => cbv
 refine Br.mk (fun g3 => ?_) (fun g3 => ?_)
 case refine_2 =>
  have g3 : ¬ 0 < w := g3
  have hno : ¬ IsObj R at_ := by
   rcases obj_slot hA.rows (sp1 (.inl (by omega))) with ⟨h,_⟩ | ⟨_,h⟩
   ·cases h
   ·exact h
  conv => cbv
  refine RetF.mk [.p (.bool false)] [hpB 0 1 4 3 W,hpD 1 2 3 1 n 3 131 8 n,hpP 2 C,hpP 3 B,hpP 4 V] 5 (Re.at [(0,0),(1,1),(2,2),(3,3),(4,4)] []) rfl ⟨false,rfl,rfl,rfl,iff_of_false (by decide) hno⟩
 have g3 : 0 < w := g3
 conv => cbv
 refine Sum.mk fun z hz => ?_
 have hz : z = at_ % 32 := (show z = Int.tmod at_ 32 from hz).trans (Int.tmod_eq_emod_of_nonneg (by omega))
 conv => cbv
 refine Need.mk (show w ≠ 0 by omega) ?_
 conv => cbv
 refine Sum.mk fun y hy => ?_
 have hy : y = z % w := (show y = Int.tmod z w from hy).trans (Int.tmod_eq_emod_of_nonneg (by omega))
 conv => cbv
 refine Br.mk (fun g4 => ?_) (fun g4 => ?_)
 case refine_2 =>
  have g4 : ¬ y = 0 := g4
  have hno : ¬ IsObj R at_ := by
   rcases obj_slot hA.rows (sp1 (.inr (by rw [← hz,← hy]; exact g4))) with ⟨h,_⟩ | ⟨_,h⟩
   ·cases h
   ·exact h
  conv => cbv
  refine RetF.mk [.p (.bool false)] [hpB 0 1 4 3 W,hpD 1 2 3 1 n 3 131 8 n,hpP 2 C,hpP 3 B,hpP 4 V] 5 (Re.at [(0,0),(1,1),(2,2),(3,3),(4,4)] []) rfl ⟨false,rfl,rfl,rfl,iff_of_false (by decide) hno⟩
 have g4 : y = 0 := g4
 have hsl := sp2 (by omega) (by rw [← hz,← hy]; exact g4)
 rw [← hz,← hq] at hsl
 have hd0 : 0 ≤ z / w := Int.ediv_nonneg (by omega) (by omega)
 have hdz : z / w ≤ z := Int.ediv_le_self _ (by omega)
 have ht2 : Int.tdiv z w = z / w := Int.tdiv_eq_ediv_of_nonneg (by omega)
 have hiff : UsedAt R q (z / w) ↔ IsObj R at_ := by
  rcases obj_slot hA.rows hsl with ⟨_,h1,h2,h3,h4,h5,e',h6,h7,h8⟩ | ⟨h,_⟩
  ·rw [h8]
   constructor
   ·rintro ⟨e2,_,he2,_,hs2⟩
    rw [h6] at he2; cases he2; exact hs2
   ·intro hs2; exact ⟨e',h1,h6,h2,hs2⟩
  ·cases h
 conv => cbv
 refine Sum.mk fun z2 hz2 => ?_
 have hz2 : z2 = z := (show z2 = Int.tmod at_ 32 from hz2).trans ((Int.tmod_eq_emod_of_nonneg (by omega)).trans hz.symm)
 conv => cbv
 refine Need.mk (show w ≠ 0 by omega) ?_
 conv => cbv
 have ht3 : Int.tdiv z2 w = z / w := by rw [hz2]; exact ht2
 refine Fit.mk (by show (-9223372036854775808 : Int) ≤ Int.tdiv z2 w; omega) (by show Int.tdiv z2 w ≤ 9223372036854775807; omega) fun s0 hs0 => ?_
 have hs0 : s0 = z / w := (show s0 = Int.tdiv z2 w from hs0).trans ht3
 rw [← hs0] at hiff
 conv => cbv
 refine cfr (rused_lx q s0 R n C B hC hB hn hR (rok_of hA.rows)) [(0,1),(1,2),(2,3)] (fun r h' n' hrr => ?_)
 obtain ⟨b,e1,e2,e3,hb⟩ := hrr
 subst e1 e2 e3
 have hbi := hb.trans hiff
 clear hb
 cases b with
 | true =>
  conv => cbv
  refine RetF.mk [.p (.bool true)] [hpB 0 1 4 3 W,hpD 1 2 3 1 n 3 131 8 n,hpP 2 C,hpP 3 B,hpP 4 V] 5 (Re.at [(0,0),(1,1),(2,2),(3,3),(4,4)] []) rfl ⟨true,rfl,rfl,rfl,hbi⟩
 | false =>
  conv => cbv
  refine RetF.mk [.p (.bool false)] [hpB 0 1 4 3 W,hpD 1 2 3 1 n 3 131 8 n,hpP 2 C,hpP 3 B,hpP 4 V] 5 (Re.at [(0,0),(1,1),(2,2),(3,3),(4,4)] []) rfl ⟨false,rfl,rfl,rfl,hbi⟩
end Go.Proofs.YtpbhcdbkmmjimaaGreatDoor
namespace Go.Proofs.YtpbhcdbkmmjimaaGreatDoor
open Go Go.LX
set_option maxRecDepth 100000
set_option linter.unusedVariables false
set_option maxHeartbeats 32000000
theorem ipv_getx (A : List Int) (i : Nat) : (ipv A)[i]? = A[i]?.map (fun z => PV.int .i64 (.sym z)) := by rw [ipv,List.getElem?_map]
def PreI (k : IntKind) (l : List PV) (A : List Int) : Prop := ∀ (i : Nat) (x : Int),A[i]? = some x → l[i]? = some (.int k (.sym x))
theorem preI_ints (A : List Int) : PreI .i64 (ipv A) A := fun i x h => by rw [ipv_getx,h]; rfl
theorem eqi64_lx (x y : Int) :
  CallF (fun _ => Tryz.prog) 68 [i6 x,i6 y] [] 0 (fun r h n => (∃ b : Bool,r = .p (.bool b) ∧ (b = true ↔ x = y)) ∧ h = [] ∧ n = 0) := by
 refine callF_of_body tok Tryz.func68 (by kernel_rfl) rfl rfl rfl ?_; conv => cbv
 refine Br.mk (fun e => ?_) (fun e => ?_)
 ·have e : x = y := e
  conv => cbv
  refine RetF.mk [.p (.bool true)] [] 0 (Re.at [] []) rfl ⟨⟨true,rfl,by simp [e]⟩,rfl,rfl⟩
 ·have e : ¬ x = y := e
  conv => cbv
  refine RetF.mk [.p (.bool false)] [] 0 (Re.at [] []) rfl ⟨⟨false,rfl,by simp [e]⟩,rfl,rfl⟩
theorem samei64_lx (A B : List Int) (m n : Int) (la lb : List PV) (hm : m = A.length) (hn : n = B.length) (ha : PreI .i64 la A) (hb : PreI .i64 lb B) (hA : (A.length : Int) < 1000000) :
  CallF (fun _ => Tryz.prog) 67 [.p (.vsl (.sym m) true la),.p (.vsl (.sym n) true lb),.p (.fn 68)] [] 0 (fun r h n => (∃ b : Bool,r = .p (.bool b) ∧ (b = true ↔ A = B)) ∧ h = [] ∧ n = 0) := by
 refine callF_of_body tok Tryz.func67 (by kernel_rfl) rfl rfl rfl ?_; conv => cbv
 refine Br.mk (fun e1 => ?_) (fun e1 => ?_)
 ·simp only [I.val] at e1
  conv => cbv
  refine RetF.mk [.p (.bool false)] [] 0 (Re.at [] []) rfl ⟨⟨false,rfl,by simp; intro h; subst h; omega⟩,rfl,rfl⟩
 ·simp only [I.val] at e1
  conv => cbv
  have hmn : m = n := by omega
  refine LoopF.mk (fun k s => ∃ i : Int,s = ⟨.p (.vsl (.sym m) true la) :: .p (.vsl (.sym n) true lb) :: .p (.fn 68) :: .undef :: .undef :: .undef :: .undef :: .p (.int .i64 (.sym i)) :: undefs 22,[],0⟩ ∧ 0 ≤ i ∧ i ≤ m ∧ A.take i.toNat = B.take i.toNat ∧ k = (m - i).toNat) m.toNat _
   (Re.at [] []) ⟨0,rfl,by omega,by omega,rfl,by omega⟩ ?_
  rintro k s ⟨i,rfl,hi0,him,ht,hk⟩
  conv => cbv
  refine Br.mk (fun e2 => ?_) (fun e2 => ?_)
  ·simp only [I.val] at e2
   conv => cbv
   refine draw_sound tok (by kernel_rfl) rfl (by kernel_rfl) ?_
   conv => cbv
   obtain ⟨x1,hea⟩ : ∃ e,A[i.toNat]? = some e := ⟨_,List.getElem?_eq_getElem (by omega)⟩
   obtain ⟨x2,heb⟩ : ∃ e,B[i.toNat]? = some e := ⟨_,List.getElem?_eq_getElem (by omega)⟩
   have a1 := ha _ _ hea
   have b1 := hb _ _ heb
   refine Need.mk ⟨hi0,by simpa [I.val] using e2⟩ ?_
   conv => cbv
   refine Cell.at i _ a1 (by simp [I.val]) (by omega) ?_
   conv => cbv
   refine Need.mk ⟨hi0,by simp only [I.val]; omega⟩ ?_
   conv => cbv
   refine Cell.at i _ b1 (by simp [I.val]) (by omega) ?_
   conv => cbv
   refine callF_val (eqi64_lx x1 x2) (by simp [ales,ale,renVs,renV,pvle]) rfl (fun r ⟨b,hr,_⟩ => by subst hr; rfl) (fun r ⟨b,hr,he⟩ => ?_)
   subst hr
   have iff1 : b = true ↔ A[i.toNat]? = B[i.toNat]? := by rw [he,hea,heb]; simp
   cases b with
   | false =>
    conv => cbv
    refine RetF.mk [.p (.bool false)] [] 0 (Re.at [] []) rfl ⟨⟨false,rfl,by simp only [Bool.false_eq_true,false_iff]; intro h; subst h; simp at iff1⟩,rfl,rfl⟩
   | true =>
    obtain ⟨k',rfl⟩ : ∃ k',k = k' + 1 := ⟨k - 1,by omega⟩
    conv => cbv
    refine Fit.mk (by show (-9223372036854775808 : Int) ≤ i + 1; omega) (by show i + 1 ≤ 9223372036854775807; omega) ?_
    intro i2 hi2
    have hi3 : i2 = i + 1 := hi2
    clear hi2
    conv => cbv
    refine Again.mk k' _ (Nat.lt_succ_self _) (Re.at [] []) ⟨i2,rfl,by omega,by omega,?_,by omega⟩
    rw [show i2.toNat = i.toNat + 1 by omega,List.take_add_one,List.take_add_one,ht,iff1.1 rfl]
  ·simp only [I.val] at e2
   conv => cbv
   refine RetF.mk [.p (.bool true)] [] 0 (Re.at [] []) rfl ⟨⟨true,rfl,?_⟩,rfl,rfl⟩
   have : i.toNat = A.length := by omega
   rw [this,List.take_length] at ht
   rw [List.take_of_length_le (by omega)] at ht
   simp [ht]
theorem plaini64_lx (A B : List Int) (m n : Int) (la lb : List PV) (hm : m = A.length) (hn : n = B.length) (ha : PreI .i64 la A) (hb : PreI .i64 lb B) (hA : (A.length : Int) < 1000000) :
  CallF (fun _ => Tryz.prog) 26 [.p (.vsl (.sym m) true la),.p (.vsl (.sym n) true lb)] [] 0 (fun r h n => (∃ b : Bool,r = .p (.bool b) ∧ (b = true ↔ A = B)) ∧ h = [] ∧ n = 0) := by
 refine callF_of_body tok Tryz.func26 (by kernel_rfl) rfl rfl rfl ?_; conv => cbv
 refine callF_val (samei64_lx A B m n la lb hm hn ha hb hA) (by simp [ales,ale,renVs,renV,pvle,I.val]) rfl (fun r ⟨b,hr,_⟩ => by subst hr; rfl) (fun r ⟨b,hr,hb⟩ => ?_)
 subst hr
 conv => cbv
 refine RetF.mk [.p (.bool b)] [] 0 (Re.at [] []) rfl ⟨⟨b,rfl,hb⟩,rfl,rfl⟩
end Go.Proofs.YtpbhcdbkmmjimaaGreatDoor
namespace Go.Proofs.YtpbhcdbkmmjimaaGreatDoor
open Go Go.LX
set_option maxRecDepth 100000
set_option linter.unusedVariables false
set_option linter.unusedSimpArgs false
set_option maxHeartbeats 32000000
structure RM (R : List Rw) (vs C G : List Int) (N W : Int) (P B V Q la : List PV) (m : Int) : Prop where
 a : AOk R vs
 n : N = R.length
 r : R.length ≤ 1000
 w : W = 32 * N
 p : P = cpv R
 b : B = bpv R
 v : V = ipv vs
 q : Q = ipv C
 c : (C.length : Int) = W
 l : la = i64s G
 m : m = G.length
 g : ∀ x ∈ G,0 ≤ x ∧ x < W
 g8 : G.length ≤ 8
theorem RM.shade {R : List Rw} {vs C G C' G' : List Int} {N W m m' : Int} {P B V Q Q' la la' : List PV} {ph a : Int} {ov ov' : Bool} (h : RM R vs C G N W P B V Q la m) (hs : (C',G',ov') = Go.Proofs.YtpbhcdbkmmjimaaGreatDoor.shade R ph a (C,G,ov)) (hQ : Q' = ipv C') (hl : la' = i64s G') (hm : m' = G'.length) : RM R vs C' G' N W P B V Q' la' m' := by
 unfold Go.Proofs.YtpbhcdbkmmjimaaGreatDoor.shade at hs
 split at hs
 ·rename_i hc
  have hb := obj_bd h.a hc.2.1
  have hn := h.n; have hw := h.w
  split at hs
  ·rename_i h8
   have h8 : G.length < 8 := h8
   have hl8 : (G ++ [a]).length ≤ 8 := by rw [List.length_append]; show G.length + 1 ≤ 8; omega
   cases hs
   refine ⟨h.a,h.n,h.r,h.w,h.p,h.b,h.v,hQ,by rw [List.length_set]; exact h.c,hl,hm,fun x hx => ?_,hl8⟩
   rcases List.mem_append.1 hx with hx | hx
   ·exact h.g x hx
   ·rw [List.mem_singleton.1 hx]; omega
  ·cases hs
   exact ⟨h.a,h.n,h.r,h.w,h.p,h.b,h.v,hQ,by rw [List.length_set]; exact h.c,hl,hm,h.g,h.g8⟩
 ·cases hs
  exact ⟨h.a,h.n,h.r,h.w,h.p,h.b,h.v,hQ,h.c,hl,hm,h.g,h.g8⟩
theorem RM.stored {R : List Rw} {vs vs' C G : List Int} {N W m : Int} {P B V V' Q la : List PV} {a i x e : Int} (h : RM R vs C G N W P B V Q la m) (hx : -9223372036854775808 ≤ x ∧ x ≤ 9223372036854775807) (hs : Stored R vs a i x e vs') (hV : V' = ipv vs') : RM R vs' C G N W P B V' Q la m :=
 ⟨h.a.stored hx hs,h.n,h.r,h.w,h.p,h.b,hV,h.q,h.c,h.l,h.m,h.g,h.g8⟩
theorem alloctV_gen9 {R R' : List Rw} {vs vs' : List Int} {kind n a e : Int} (hA : AOk R vs) (h : AlloctV R vs kind n a e R' vs') :
  AOk R' vs' ∧ R'.length = R.length ∧ ((e ≠ 0 ∧ a = 0 ∧ R' = R ∧ vs' = vs) ∨ (e = 0 ∧ (0 ≤ n ∧ n ≤ 31 ∧ 1 ≤ kind ∧ kind ≤ 6) ∧ Kept R' vs' a kind n ∧ (∀ b k l,Kept R vs b k l → Kept R' vs' b k l ∧ b ≠ a ∧ ∀ i,0 ≤ i → i < l → vs'[(b + 1 + i).toNat]? = vs[(b + 1 + i).toNat]?) ∧ (∀ b,IsObj R' b → b = a ∨ IsObj R b))) := by
 cases h with
 | arg h => exact ⟨hA,rfl,.inl ⟨by decide,rfl,rfl,rfl⟩⟩
 | room i s R' hc ha =>
  obtain ⟨rfl,_⟩ := full_count hA.rows (ofN_slots n) ha
  exact ⟨hA,rfl,.inl ⟨by decide,rfl,rfl,rfl⟩⟩
 | ok i s _ R' hc ha hat =>
  obtain ⟨w,hw⟩ : ∃ w,w = wordsOf (ofN n) := ⟨_,rfl⟩
  obtain ⟨q1,q2,q3,q4,q5⟩ := alloc_objs hA.rows ha a w hat hw
  have hobj : ObjAt R' a w := (q5 _ _).2 (.inr ⟨rfl,rfl⟩)
  obtain ⟨f1,f2,f3,_⟩ := hobj.facts q1
  have hnw : n < w := by rw [hw]; exact (ofN_words ⟨hc.1,hc.2.1⟩).1
  have hlv := hA.len
  have gv : ∀ j : Nat,j < vs.length → j ≠ a.toNat → ((zer vs a.toNat (wordsOf (ofN n)).toNat).set a.toNat (kind + 16 * n))[j]? = if a.toNat ≤ j ∧ j < a.toNat + (wordsOf (ofN n)).toNat then some 0 else vs[j]? := fun j hj hne => by
   rw [List.getElem?_set_ne (fun e => hne e.symm),zer_get _ _ _ _ hj]
  rw [← hw] at gv ⊢
  have farv : ∀ j : Nat,(j : Int) < a ∨ a + w ≤ j → ((zer vs a.toNat w.toNat).set a.toNat (kind + 16 * n))[j]? = vs[j]? := fun j hj => by
   by_cases hjl : j < vs.length
   ·rw [gv j hjl (by omega),if_neg (by omega)]
   ·rw [List.getElem?_eq_none (by rw [List.length_set,zer_length]; omega),List.getElem?_eq_none (by omega)]
  have hbdv : ∀ x ∈ (zer vs a.toNat w.toNat).set a.toNat (kind + 16 * n),-9223372036854775808 ≤ x ∧ x ≤ 9223372036854775807 := by
   intro x hx
   rcases List.mem_or_eq_of_mem_set hx with hx | rfl
   ·obtain ⟨j,hj⟩ := List.getElem?_of_mem hx
    have hjl : j < vs.length := by have := (List.getElem?_eq_some_iff.1 hj).1; rw [zer_length] at this; exact this
    rw [zer_get _ _ _ _ hjl] at hj
    split at hj
    ·cases hj; omega
    ·exact hA.bd x (List.mem_of_getElem? hj)
   ·omega
  obtain ⟨r1,r2,r3,r4⟩ := alloc_gen hA hc ha hat hw (by rw [List.length_set,zer_length]) (by rw [List.getElem?_set_self (by rw [zer_length]; omega)]) farv hbdv
  exact ⟨r1,q2,.inr ⟨rfl,hc,r2,r3,r4⟩⟩
theorem RM.alloct {R R' : List Rw} {vs vs' C C' G : List Int} {N W m : Int} {P P' B B' V V' Q Q' la : List PV} {kind n a e : Int} (h : RM R vs C G N W P B V Q la m) (hs : AlloctV R vs kind n a e R' vs') (hP : P' = cpv R') (hB : B' = bpv R') (hV : V' = ipv vs') (hC : C'.length = C.length) (hQ : Q' = ipv C') : RM R' vs' C' G N W P' B' V' Q' la m := by
 obtain ⟨h1,h2,_⟩ := alloctV_gen9 h.a hs
 exact ⟨h1,by rw [h2]; exact h.n,by rw [h2]; exact h.r,h.w,hP,hB,hV,hQ,by rw [hC]; exact h.c,h.l,h.m,h.g,h.g8⟩
theorem RM.over {R : List Rw} {vs C G G' : List Int} {N W m m' : Int} {P B V Q la la' : List PV} (h : RM R vs C G N W P B V Q la m) (hl : la' = i64s G') (hm : m' = G'.length) (hG : ∀ x ∈ G',x ∈ G) (h8 : G'.length ≤ G.length) : RM R vs C G' N W P B V Q la' m' :=
 ⟨h.a,h.n,h.r,h.w,h.p,h.b,h.v,h.q,h.c,hl,hm,fun x hx => h.g x (hG x hx),Nat.le_trans h8 h.g8⟩
theorem Wrds.le {R : List Rw} {ws X : List Int} {a : Int} (hA : AOk R ws) (h : Wrds R ws a X) : X.length ≤ 31 := by
 have hle := h.1
 generalize hxl : (X.length : Int) = xl at hle
 cases hle with
 | no _ => omega
 | is k l hk => have := hk.bounds hA; omega
inductive RG (R : List Rw) (vs C : List Int) (sp : Int) : Nat → List Gn → Prop
 | zero : RG R vs C sp 0 []
 | skip (i : Nat) (a : Int) (out : List Gn) (h : RG R vs C sp i out) (ha : (objs R)[i]? = some a) (hn : ¬ (a / 32 = sp ∧ C[a.toNat]? = some 0)) : RG R vs C sp (i + 1) out
 | add (i : Nat) (a k : Int) (X : List Int) (out : List Gn) (h : RG R vs C sp i out) (ha : (objs R)[i]? = some a) (hw : a / 32 = sp ∧ C[a.toNat]? = some 0) (hk : KindR R vs a k) (hX : Wrds R vs a X) : RG R vs C sp (i + 1) (out ++ [(k,a,X,false)])
theorem RG.le {R : List Rw} {vs C : List Int} {sp : Int} {i : Nat} {out : List Gn} (h : RG R vs C sp i out) : out.length ≤ i := by
 induction h with
 | zero => exact Nat.le_refl _
 | skip i a out h ha hn ih => omega
 | add i a k X out h ha hw hk hX ih => rw [List.length_append]; simp; omega
inductive Frees : List Rw → List Int → List Rw → Prop
 | nil (R : List Rw) : Frees R [] R
 | snoc (R R1 R2 : List Rw) (l : List Int) (a e : Int) (h : Frees R l R1) (hf : Freet R1 a e R2) : Frees R (l ++ [a]) R2
theorem RM.freet {R R' : List Rw} {vs C G : List Int} {N W m : Int} {P P' B B' V Q la : List PV} {a e : Int} (h : RM R vs C G N W P B V Q la m) (hf : Freet R a e R') (hP : P' = cpv R') (hB : B' = bpv R') : RM R' vs C G N W P' B' V Q la m := by
 obtain ⟨h1,h2⟩ := h.a.freet hf
 exact ⟨h1,by rw [h2]; exact h.n,by rw [h2]; exact h.r,h.w,hP,hB,h.v,h.q,h.c,h.l,h.m,h.g,h.g8⟩
theorem Sim.due {R : List Rw} {ws vs C : List Int} {a : Int} (h : Sim R ws vs) (hd : Due R ws C a) : Due R vs C a := by
 obtain ⟨⟨l,hK⟩,hc,x,hx,hx0⟩ := hd
 obtain ⟨k',l',hK'⟩ := Kept.of h.b hK.obj6
 obtain rfl := h.kind (.is 5 l hK) (.is k' l' hK')
 obtain ⟨y,f,hy⟩ : ∃ y f,Loaded R vs a 1 y f := by
  by_cases hi : (0 : Int) ≤ 1 ∧ 1 < l'
  ·have hb := hK'.bounds h.b
   have hlen := h.b.len
   obtain ⟨y,hy⟩ : ∃ y,vs[(a + 1 + 1).toNat]? = some y := ⟨_,List.getElem?_eq_getElem (by omega)⟩
   exact ⟨y,0,.ok 5 l' y hK' hi hy⟩
  ·exact ⟨0,1,.arg 5 l' hK' hi⟩
 obtain ⟨rfl,rfl⟩ := h.load hx hy
 exact ⟨⟨l',hK'⟩,hc,x,hy,hx0⟩
theorem freet_objs {R R' : List Rw} {ws : List Int} {a e : Int} (hA : AOk R ws) (ha : a ∈ objs R) (h : Freet R a e R') : AOk R' ws ∧ ∀ b,b ∈ objs R' ↔ b ∈ objs R ∧ b ≠ a := by
 have hA' := (hA.freet h).1
 refine ⟨hA',fun b => ?_⟩
 rw [obj_iff hA',obj_iff hA]
 cases h with
 | none hn => exact absurd ((obj_iff hA a).1 ha) hn
 | ok q s e he hs hat =>
  obtain ⟨_,_,_,g4⟩ := free_objs hA.rows he hs a hat
  rw [isObj_iff,isObj_iff]
  constructor
  ·rintro ⟨w,hw⟩; exact ⟨⟨w,((g4 b w).1 hw).1⟩,((g4 b w).1 hw).2⟩
  ·rintro ⟨⟨w,hw⟩,hne⟩; exact ⟨w,(g4 b w).2 ⟨hw,hne⟩⟩
structure SwF (R R1 : List Rw) (ws C : List Int) (p : Int) (i : Nat) (out : List Gn) : Prop where
 each : ∀ g ∈ out,KindR R ws g.2.1 g.1 ∧ Wrds R ws g.2.1 g.2.2.1 ∧ g.2.2.2 = false
 asc : (out.map fun g => g.2.1).Pairwise (· < ·)
 mem : ∀ x,x ∈ (out.map fun g => g.2.1) ↔ p ≤ x ∧ x < p + i ∧ Wh R C x
 frees : Frees R (out.map fun g => g.2.1) R1
 ok : AOk R1 ws
 left : ∀ b,b ∈ objs R1 ↔ b ∈ objs R ∧ b ∉ (out.map fun g => g.2.1)
 kept : ∀ b k l,Kept R1 ws b k l → Kept R ws b k l
theorem gmap_app (out : List Gn) (g : Gn) : (out ++ [g]).map (fun g => g.2.1) = out.map (fun g => g.2.1) ++ [g.2.1] := by
 rw [List.map_append]; rfl
theorem SweptTo.facts {ws C : List Int} {R R1 : List Rw} {p : Int} {i : Nat} {out : List Gn} (hA : AOk R ws) (h : SweptTo ws C R p i out R1) : SwF R R1 ws C p i out := by
 induction h with
 | zero =>
  refine ⟨fun g hg => (by cases hg),List.Pairwise.nil,fun x => ⟨fun hx => (by cases hx),fun hx => (by have := hx.1; have := hx.2.1; omega)⟩,.nil R,hA,fun b => ⟨fun hb => ⟨hb,fun hk => (by cases hk)⟩,fun hb => hb.1⟩,fun _ _ _ hk => hk⟩
 | skip i out R1 h hn ih =>
  refine ⟨ih.each,ih.asc,fun x => ?_,ih.frees,ih.ok,ih.left,ih.kept⟩
  rw [ih.mem x]
  constructor
  ·rintro ⟨h1,h2,h3⟩; exact ⟨h1,by omega,h3⟩
  ·rintro ⟨h1,h2,h3⟩
   refine ⟨h1,?_,h3⟩
   by_cases e : x = p + i
   ·subst e
    exfalso
    refine hn ⟨(ih.left _).2 ⟨h3.1,fun hk => ?_⟩,h3.2⟩
    have := ((ih.mem _).1 hk).2.1
    omega
   ·omega
 | free i out R1 R2 k X h hw hk hX hf ih =>
  obtain ⟨hA2,hob⟩ := freet_objs ih.ok hw.1 hf
  have hnew := (ih.left (p + i)).1 hw.1
  have hK1 : ∃ l,Kept R1 ws (p + i) k l := by
   cases hk with
   | no hn => exact absurd ((obj_iff ih.ok _).1 hw.1) hn
   | is _ l hK => exact ⟨l,hK⟩
  obtain ⟨l,hK⟩ := hK1
  have hKR := ih.kept _ _ _ hK
  refine ⟨fun g hg => ?_,?_,fun x => ?_,?_,hA2,fun b => ?_,fun b k l hb => ih.kept b k l (kept_freet ih.ok hf b k l hb)⟩
  ·rcases List.mem_append.1 hg with hg | hg
   ·exact ih.each g hg
   ·rw [List.mem_singleton.1 hg]
    refine ⟨.is k l hKR,⟨?_,fun j x hx => ?_⟩,rfl⟩
    ·have hl := hX.1
     generalize hxl : (X.length : Int) = xl at hl
     cases hl with
     | no hn => exact absurd hK.obj6 hn
     | is k2 l2 hK2 => exact .is k2 _ (ih.kept _ _ _ hK2)
    ·cases hX.2 j x hx with
     | ok k2 l2 _ hK2 hi hx => exact .ok k2 l2 x (ih.kept _ _ _ hK2) hi hx
  ·rw [gmap_app,List.pairwise_append]
   refine ⟨ih.asc,List.pairwise_singleton _ _,fun x hx y hy => ?_⟩
   rw [List.mem_singleton.1 hy]
   exact ((ih.mem x).1 hx).2.1
  ·rw [gmap_app,List.mem_append,List.mem_singleton,ih.mem x]
   constructor
   ·rintro (⟨h1,h2,h3⟩ | h1)
    ·exact ⟨h1,by omega,h3⟩
    ·have h1 : x = p + i := h1
     subst h1
     exact ⟨by omega,by omega,hnew.1,hw.2⟩
   ·rintro ⟨h1,h2,h3⟩
    by_cases e : x = p + i
    ·exact .inr e
    ·exact .inl ⟨h1,by omega,h3⟩
  ·rw [gmap_app]; exact .snoc R R1 R2 _ _ 0 ih.frees hf
  ·rw [hob b,ih.left b,gmap_app,List.mem_append,List.mem_singleton]
   constructor
   ·rintro ⟨⟨h1,h2⟩,h3⟩; exact ⟨h1,fun hk => hk.elim h2 h3⟩
   ·rintro ⟨h1,h2⟩; exact ⟨⟨h1,fun hk => h2 (.inl hk)⟩,fun hk => h2 (.inr hk)⟩
structure RgF (R : List Rw) (vs C : List Int) (sp : Int) (i : Nat) (out : List Gn) : Prop where
 each : ∀ g ∈ out,KindR R vs g.2.1 g.1 ∧ Wrds R vs g.2.1 g.2.2.1 ∧ g.2.2.2 = false
 asc : (out.map fun g => g.2.1).Pairwise (· < ·)
 mem : ∀ x,x ∈ (out.map fun g => g.2.1) ↔ (∃ j : Nat,j < i ∧ (objs R)[j]? = some x) ∧ x / 32 = sp ∧ C[x.toNat]? = some 0
theorem objs_lt {R : List Rw} (hR : RowsOk R) {i j : Nat} {a b : Int} (hij : i < j) (ha : (objs R)[i]? = some a) (hb : (objs R)[j]? = some b) : a < b := by
 obtain ⟨h1,h2⟩ := List.getElem?_eq_some_iff.1 ha
 obtain ⟨h3,h4⟩ := List.getElem?_eq_some_iff.1 hb
 have := (List.pairwise_iff_getElem.1 (objsTo_asc hR R.length)) i j h1 h3 hij
 rw [← h2,← h4]; exact this
theorem RG.facts {R : List Rw} {vs C : List Int} {sp : Int} {i : Nat} {out : List Gn} (hR : RowsOk R) (h : RG R vs C sp i out) : RgF R vs C sp i out := by
 induction h with
 | zero => exact ⟨fun g hg => (by cases hg),List.Pairwise.nil,fun x => ⟨fun hx => (by cases hx),fun ⟨⟨j,hj,_⟩,_⟩ => (by omega)⟩⟩
 | skip i a out h ha hn ih =>
  refine ⟨ih.each,ih.asc,fun x => ?_⟩
  rw [ih.mem x]
  constructor
  ·rintro ⟨⟨j,h1,h2⟩,h3⟩; exact ⟨⟨j,by omega,h2⟩,h3⟩
  ·rintro ⟨⟨j,h1,h2⟩,h3⟩
   refine ⟨⟨j,?_,h2⟩,h3⟩
   by_cases e : j = i
   ·subst e
    rw [ha] at h2
    obtain rfl := Option.some.inj h2
    exact absurd h3 hn
   ·omega
 | add i a k X out h ha hw hk hX ih =>
  refine ⟨fun g hg => ?_,?_,fun x => ?_⟩
  ·rcases List.mem_append.1 hg with hg | hg
   ·exact ih.each g hg
   ·rw [List.mem_singleton.1 hg]; exact ⟨hk,hX,rfl⟩
  ·rw [gmap_app,List.pairwise_append]
   refine ⟨ih.asc,List.pairwise_singleton _ _,fun x hx y hy => ?_⟩
   rw [List.mem_singleton.1 hy]
   obtain ⟨⟨j,h1,h2⟩,_⟩ := (ih.mem x).1 hx
   exact objs_lt hR h1 h2 ha
  ·rw [gmap_app,List.mem_append,List.mem_singleton,ih.mem x]
   constructor
   ·rintro (⟨⟨j,h1,h2⟩,h3⟩ | h1)
    ·exact ⟨⟨j,by omega,h2⟩,h3⟩
    ·have h1 : x = a := h1
     subst h1
     exact ⟨⟨i,by omega,ha⟩,hw⟩
   ·rintro ⟨⟨j,h1,h2⟩,h3⟩
    by_cases e : j = i
    ·subst e
     rw [ha] at h2
     obtain rfl := Option.some.inj h2
     exact .inr rfl
    ·exact .inl ⟨⟨j,by omega,h2⟩,h3⟩
theorem Frees.det {R R1 : List Rw} {l : List Int} {ws : List Int} (hA : AOk R ws) (h1 : Frees R l R1) : ∀ {R2},Frees R l R2 → R1 = R2 ∧ AOk R1 ws := by
 induction h1 with
 | nil =>
  intro R2 h2
  generalize hl : ([] : List Int) = l at h2
  cases h2 with
  | nil => exact ⟨rfl,hA⟩
  | snoc _ _ l a _ _ _ => exact absurd hl (by simp)
 | snoc Ra Rb l a e h hf ih =>
  intro R2 h2
  generalize hl : l ++ [a] = l' at h2
  cases h2 with
  | nil => exact absurd hl (by simp)
  | snoc Rc _ l2 a2 e2 h' hf' =>
   obtain ⟨rfl,e3⟩ := List.append_inj' hl rfl
   obtain rfl : a = a2 := by simpa using e3
   obtain ⟨rfl,hB⟩ := ih h'
   exact ⟨(hf.det hB.rows hf').2,(hB.freet hf).1⟩
def wt (c : Option Int) : Nat := if c = some 0 then 2 else if c = some 1 then 1 else 0
def mu (R : List Rw) (C : List Int) : Nat := ((objs R).map fun a => wt C[a.toNat]?).sum
theorem sum_le {l : List Int} {f g : Int → Nat} (h : ∀ a ∈ l,f a ≤ g a) : (l.map f).sum ≤ (l.map g).sum := by
 induction l with
 | nil => exact Nat.le_refl _
 | cons x l ih =>
  have h1 := h x (List.mem_cons_self ..)
  have h2 := ih fun a ha => h a (List.mem_cons_of_mem _ ha)
  simp only [List.map_cons,List.sum_cons]
  omega
theorem sum_lt {l : List Int} {f g : Int → Nat} (h : ∀ a ∈ l,f a ≤ g a) {b : Int} (hb : b ∈ l) (hlt : f b < g b) : (l.map f).sum < (l.map g).sum := by
 induction l with
 | nil => cases hb
 | cons x l ih =>
  have h1 := h x (List.mem_cons_self ..)
  have h2 := sum_le (l := l) (f := f) (g := g) fun a ha => h a (List.mem_cons_of_mem _ ha)
  simp only [List.map_cons,List.sum_cons]
  rcases List.mem_cons.1 hb with rfl | hb
  ·omega
  ·have := ih (fun a ha => h a (List.mem_cons_of_mem _ ha)) hb
   omega
theorem mu_le_len (R : List Rw) (C : List Int) : mu R C ≤ 2 * (objs R).length := by
 unfold mu
 generalize objs R = l
 induction l with
 | nil => exact Nat.le_refl _
 | cons x l ih =>
  simp only [List.map_cons,List.sum_cons,List.length_cons]
  have : wt C[x.toNat]? ≤ 2 := by
                  unfold wt; split; · omega
                  ·split <;> omega
  omega
def COn (C C' : List Int) : Prop := ∀ p : Nat,wt C'[p]? ≤ wt C[p]?
theorem COn.refl (C : List Int) : COn C C := fun _ => Nat.le_refl _
theorem COn.trans {A B C : List Int} (h : COn A B) (k : COn B C) : COn A C := fun p => Nat.le_trans (k p) (h p)
theorem COn.mu {C C' : List Int} (h : COn C C') (R : List Rw) : mu R C' ≤ mu R C := sum_le fun a _ => h a.toNat
theorem set_on {C : List Int} {q : Nat} {c : Int} (h : wt (some c) ≤ wt C[q]?) : COn C (C.set q c) := by
 intro p
 by_cases e : q = p
 ·subst e
  by_cases hl : q < C.length
  ·rw [List.getElem?_set_self hl]; exact h
  ·rw [List.getElem?_eq_none (by rw [List.length_set]; omega)]; unfold wt; simp
 ·rw [List.getElem?_set_ne e]; exact Nat.le_refl _
theorem shade_on (R : List Rw) (ph a : Int) (s : List Int × List Int × Bool) : COn s.1 (shade R ph a s).1 := by
 unfold shade
 split
 ·rename_i hc
  refine set_on (C := s.1) (q := a.toNat) (c := 1) ?_
  rw [hc.2.2]; decide
 ·exact COn.refl _
theorem shadeW_on (R : List Rw) (ph w : Int) (s : List Int × List Int × Bool) : COn s.1 (shadeW R ph w s).1 := by
 unfold shadeW
 split
 ·exact shade_on _ _ _ _
 ·exact COn.refl _
theorem shade_grey (R : List Rw) (ph a : Int) (s : List Int × List Int × Bool) (p : Nat) (h : s.1[p]? = some 1) : (shade R ph a s).1[p]? = some 1 := by
 unfold shade
 split
 ·rename_i hc
  show (s.1.set a.toNat 1)[p]? = some 1
  rw [List.getElem?_set_ne ?_]
  ·exact h
  ·intro e; rw [← e,hc.2.2] at h; exact absurd (Option.some.inj h) (by decide)
 ·exact h
theorem shadeW_grey (R : List Rw) (ph w : Int) (s : List Int × List Int × Bool) (p : Nat) (h : s.1[p]? = some 1) : (shadeW R ph w s).1[p]? = some 1 := by
 unfold shadeW
 split
 ·exact shade_grey _ _ _ _ _ h
 ·exact h
theorem fold_on (R : List Rw) (ph : Int) : ∀ (X : List Int) (s : List Int × List Int × Bool),COn s.1 (X.foldl (fun s w => shadeW R ph w s) s).1
 | [],s => COn.refl _
 | w :: X,s => (shadeW_on R ph w s).trans (fold_on R ph X _)
theorem fold_grey (R : List Rw) (ph : Int) : ∀ (X : List Int) (s : List Int × List Int × Bool) (p : Nat),s.1[p]? = some 1 → (X.foldl (fun s w => shadeW R ph w s) s).1[p]? = some 1
 | [],s,p,h => h
 | w :: X,s,p,h => fold_grey R ph X _ p (shadeW_grey R ph w s p h)
structure GOk (R : List Rw) (C G : List Int) : Prop where
 obj : ∀ x ∈ G,x ∈ objs R
 grey : ∀ x ∈ G,C[x.toNat]? = some 1
 once : G.Nodup
theorem shade_gok {R : List Rw} {ph a : Int} {s : List Int × List Int × Bool} (h : GOk R s.1 s.2.1) : GOk R (shade R ph a s).1 (shade R ph a s).2.1 := by
 have hg := fun x hx => shade_grey R ph a s _ (h.grey x hx)
 unfold shade at hg ⊢
 split
 ·rename_i hc
  rw [if_pos hc] at hg
  have hl := (List.getElem?_eq_some_iff.1 hc.2.2).1
  dsimp only at hg ⊢
  split
  ·dsimp only
   refine ⟨fun x hx => ?_,fun x hx => ?_,?_⟩
   ·rcases List.mem_append.1 hx with hx | hx
    ·exact h.obj x hx
    ·rw [List.mem_singleton.1 hx]; exact hc.2.1
   ·rcases List.mem_append.1 hx with hx | hx
    ·exact hg x hx
    ·rw [List.mem_singleton.1 hx]; exact List.getElem?_set_self hl
   ·rw [List.nodup_append]
    refine ⟨h.once,by simp,fun x hx y hy e => ?_⟩
    rw [List.mem_singleton.1 hy] at e
    subst e
    have := h.grey x hx
    rw [hc.2.2] at this
    exact absurd (Option.some.inj this) (by decide)
  ·exact ⟨h.obj,hg,h.once⟩
 ·rename_i hc
  rw [if_neg hc] at hg
  exact h
theorem shadeW_gok {R : List Rw} {ph w : Int} {s : List Int × List Int × Bool} (h : GOk R s.1 s.2.1) : GOk R (shadeW R ph w s).1 (shadeW R ph w s).2.1 := by
 unfold shadeW
 split
 ·exact shade_gok h
 ·exact h
theorem fold_gok {R : List Rw} {ph : Int} : ∀ (X : List Int) (s : List Int × List Int × Bool),GOk R s.1 s.2.1 → GOk R (X.foldl (fun s w => shadeW R ph w s) s).1 (X.foldl (fun s w => shadeW R ph w s) s).2.1
 | [],s,h => h
 | w :: X,s,h => fold_gok X _ (shadeW_gok h)
theorem shade_black (R : List Rw) (ph a : Int) (s : List Int × List Int × Bool) (p : Nat) (h : s.1[p]? = some 2) : (shade R ph a s).1[p]? = some 2 := by
 unfold shade
 split
 ·rename_i hc
  show (s.1.set a.toNat 1)[p]? = some 2
  rw [List.getElem?_set_ne ?_]
  ·exact h
  ·intro e; rw [← e,hc.2.2] at h; exact absurd (Option.some.inj h) (by decide)
 ·exact h
theorem shadeW_black (R : List Rw) (ph w : Int) (s : List Int × List Int × Bool) (p : Nat) (h : s.1[p]? = some 2) : (shadeW R ph w s).1[p]? = some 2 := by
 unfold shadeW
 split
 ·exact shade_black _ _ _ _ _ h
 ·exact h
theorem fold_black (R : List Rw) (ph : Int) : ∀ (X : List Int) (s : List Int × List Int × Bool) (p : Nat),s.1[p]? = some 2 → (X.foldl (fun s w => shadeW R ph w s) s).1[p]? = some 2
 | [],s,p,h => h
 | w :: X,s,p,h => fold_black R ph X _ p (shadeW_black R ph w s p h)
theorem shade_new {R : List Rw} {ph a : Int} {s : List Int × List Int × Bool} {x : Int} (h : x ∈ (shade R ph a s).2.1) : x ∈ s.2.1 ∨ s.1[x.toNat]? = some 0 := by
 unfold shade at h
 split at h
 ·rename_i hc
  dsimp only at h
  split at h
  ·rcases List.mem_append.1 h with h | h
   ·exact .inl h
   ·rw [List.mem_singleton.1 h]; exact .inr hc.2.2
  ·exact .inl h
 ·exact .inl h
theorem shadeW_new {R : List Rw} {ph w : Int} {s : List Int × List Int × Bool} {x : Int} (h : x ∈ (shadeW R ph w s).2.1) : x ∈ s.2.1 ∨ s.1[x.toNat]? = some 0 := by
 unfold shadeW at h
 split at h
 ·exact shade_new h
 ·exact .inl h
theorem fold_new {R : List Rw} {ph : Int} : ∀ (X : List Int) (s : List Int × List Int × Bool) (x : Int),x ∈ (X.foldl (fun s w => shadeW R ph w s) s).2.1 → x ∈ s.2.1 ∨ s.1[x.toNat]? = some 0
 | [],s,x,h => .inl h
 | w :: X,s,x,h => by
  rcases fold_new X _ x h with h | h
  ·exact shadeW_new h
  ·exact .inr ((shadeW_le R ph w s).1 _ h)
def CyI (R : List Rw) (C G : List Int) (ph sp cy N : Int) : Prop := (ph = 1 ∧ GOk R C G ∧ cy = 0) ∨ (ph = 2 ∧ cy = 0 ∧ 0 ≤ sp ∧ sp < N) ∨ (ph = 0 ∧ cy = 1)
def left_ (R : List Rw) (C : List Int) (ph sp N : Int) : Int := if ph = 1 then (mu R C : Int) + 1 + N else if ph = 2 then N - sp else 0
theorem marked_cy {R : List Rw} {ws ws' C C' G G' : List Int} {ov ov' : Bool} {sp p s N : Int} {out : List Gn} (hA : AOk R ws) (hCl : (C.length : Int) = 32 * R.length) (hN : 1 ≤ N) (h : GOk R C G) (hm : Marked R ws C G ov sp out p s ws' C' G' ov') :
  CyI R C' G' p s 0 N ∧ left_ R C' p s N < left_ R C 1 sp N ∧ ∀ q : Nat,C[q]? = some 2 → C'[q]? = some 2 := by
 cases hm with
 | scan v A X _ _ o1 _ hg hX hs =>
  have hC : C' = (X.foldl (fun s w => shadeW R 1 w s) (C,A,o1)).1.set v.toNat 2 := congrArg Prod.fst hs
  have hG : G' = (X.foldl (fun s w => shadeW R 1 w s) (C,A,o1)).2.1 := congrArg (fun x => x.2.1) hs
  obtain ⟨hv,hv1,hA',hvA⟩ : v ∈ objs R ∧ C[v.toNat]? = some 1 ∧ GOk R C A ∧ v ∉ A := by
   cases hg with
   | pop _ _ hGA =>
    have hn := h.once
    rw [hGA,List.nodup_append] at hn
    exact ⟨h.obj v (by rw [hGA]; simp),h.grey v (by rw [hGA]; simp),⟨fun x hx => h.obj x (by rw [hGA]; exact List.mem_append_left _ hx),fun x hx => h.grey x (by rw [hGA]; exact List.mem_append_left _ hx),hn.1⟩,fun hk => hn.2.2 v hk v (by simp) rfl⟩
   | found _ _ _ _ ha hc _ => exact ⟨List.mem_of_getElem? ha,hc,⟨fun x hx => (by cases hx),fun x hx => (by cases hx),List.nodup_nil⟩,fun hk => by cases hk⟩
  have hon := fold_on R 1 X (C,A,o1)
  have hgr := fold_grey R 1 X (C,A,o1)
  have hbl := fold_black R 1 X (C,A,o1)
  have hok := fold_gok (R := R) (ph := 1) X (C,A,o1) hA'
  have hnew := fold_new (R := R) (ph := 1) X (C,A,o1)
  generalize (X.foldl (fun s w => shadeW R 1 w s) (C,A,o1)) = F at hC hG hon hgr hbl hok hnew
  have hFv := hgr _ hv1
  have hFl := (List.getElem?_eq_some_iff.1 hFv).1
  have hself : C'[v.toNat]? = some 2 := by rw [hC]; exact List.getElem?_set_self hFl
  have hset : COn F.1 C' := by rw [hC]; exact set_on (by rw [show wt (some (2 : Int)) = 0 by decide]; exact Nat.zero_le _)
  have hlt : mu R C' < mu R C := by
   refine sum_lt (fun a _ => (hon.trans hset) a.toNat) hv ?_
   rw [hself,hv1]; decide
  refine ⟨.inl ⟨rfl,⟨fun x hx => hok.obj x (hG ▸ hx),fun x hx => ?_,by rw [hG]; exact hok.once⟩,rfl⟩,?_,fun q hq => ?_⟩
  ·have hx : x ∈ F.2.1 := hG ▸ hx
   have hxv : x ≠ v := by
    rintro rfl
    rcases hnew x hx with q | q
    ·exact hvA q
    ·have q : C[x.toNat]? = some 0 := q
     rw [hv1] at q; exact absurd (Option.some.inj q) (by decide)
   have b1 := obj_bd hA (hok.obj x hx)
   have b2 := obj_bd hA hv
   rw [hC,List.getElem?_set_ne (by omega)]
   exact hok.grey x hx
  ·unfold left_
   rw [if_pos rfl,if_pos rfl]
   omega
  ·by_cases e : v.toNat = q
   ·rw [← e]; exact hself
   ·rw [hC,List.getElem?_set_ne e]; exact hbl q hq
 | keep a A X _ _ _ o1 _ hg hf hX hst hs =>
  have hC : C' = (shade R 1 a (C,A,o1)).1 := congrArg Prod.fst hs
  have hG : G' = (shade R 1 a (C,A,o1)).2.1 := congrArg (fun x => x.2.1) hs
  have hA0 : A = [] := by cases hg <;> rfl
  obtain ⟨hao,ha0⟩ : a ∈ objs R ∧ C[a.toNat]? = some 0 := by
   cases hf with
   | found _ _ ha hd _ => exact ⟨List.mem_of_getElem? ha,hd.2.1⟩
  have hA' : GOk R C A := by rw [hA0]; exact ⟨fun x hx => (by cases hx),fun x hx => (by cases hx),List.nodup_nil⟩
  have hok := shade_gok (R := R) (ph := 1) (a := a) (s := (C,A,o1)) hA'
  have hl := (List.getElem?_eq_some_iff.1 ha0).1
  have hself : C'[a.toNat]? = some 1 := by
   rw [hC]; unfold shade
   rw [if_pos ⟨rfl,hao,ha0⟩]
   exact List.getElem?_set_self hl
  have hlt : mu R C' < mu R C := by
   refine sum_lt (fun b _ => by rw [hC]; exact shade_on R 1 a (C,A,o1) b.toNat) hao ?_
   rw [hself,ha0]; decide
  refine ⟨.inl ⟨rfl,by rw [hC,hG]; exact hok,rfl⟩,?_,fun q hq => by rw [hC]; exact shade_black R 1 a (C,A,o1) q hq⟩
  unfold left_
  rw [if_pos rfl,if_pos rfl]
  omega
 | sweep A o1 hg hf =>
  refine ⟨.inr (.inl ⟨rfl,rfl,Int.le_refl _,by omega⟩),?_,fun q hq => hq⟩
  unfold left_
  rw [if_neg (by decide),if_pos rfl,if_pos rfl]
  omega
theorem stepd_cy {R R' : List Rw} {ws ws' C C' G G' at_ : List Int} {ov ov' : Bool} {ph sp cy W N p s y : Int} {out : List Gn} (hA : AOk R ws) (hCl : (C.length : Int) = 32 * R.length) (hN : 1 ≤ N) (hW : W = 32 * N) (h : CyI R C G ph sp cy N) (hat : ∀ x ∈ at_,x ∈ objs R ∧ (ph ≠ 0 → C[x.toNat]? = some 2)) (hs : Stepd R ws C G ov ph sp cy W out R' ws' C' G' ov' p s y) :
  CyI R' C' G' p s y N ∧ (ph ≠ 0 → left_ R' C' p s N < left_ R C ph sp N) ∧ (∀ x ∈ at_,x ∈ objs R' ∧ (p ≠ 0 → C'[x.toNat]? = some 2)) := by
 cases hs with
 | mark _ _ _ _ _ _ _ hp hm =>
  subst hp
  rcases h with ⟨_,hg,rfl⟩ | ⟨q,_⟩ | ⟨q,_⟩
  ·obtain ⟨h1,h2,h3⟩ := marked_cy hA hCl hN hg hm
   exact ⟨h1,fun _ => h2,fun x hx => ⟨(hat x hx).1,fun _ => h3 _ ((hat x hx).2 (by decide))⟩⟩
  ·exact absurd q (by decide)
  ·exact absurd q (by decide)
 | sweep _ _ hp hs =>
  subst hp
  rcases h with ⟨q,_⟩ | ⟨_,rfl,h0,h1⟩ | ⟨q,_⟩
  ·exact absurd q (by decide)
  ·have f := hs.facts hA
   refine ⟨?_,fun _ => ?_,fun x hx => ⟨(f.left x).2 ⟨(hat x hx).1,fun hk => ?_⟩,fun _ => (hat x hx).2 (by decide)⟩⟩
   ·unfold swPh swCy
    split
    ·exact .inr (.inr ⟨rfl,by omega⟩)
    ·exact .inr (.inl ⟨rfl,rfl,by omega,by omega⟩)
   ·unfold left_ swPh
    split
    ·(repeat (first | rw [if_neg (by decide)] | rw [if_pos rfl])); omega
    ·(repeat (first | rw [if_neg (by decide)] | rw [if_pos rfl])); omega
   ·have := ((f.mem x).1 hk).2.2.2
    rw [(hat x hx).2 (by decide)] at this
    exact absurd (Option.some.inj this) (by decide)
  ·exact absurd q (by decide)
 | idle h1 h2 =>
  rcases h with ⟨q,_⟩ | ⟨q,_⟩ | ⟨q,hc⟩
  ·exact absurd q h1
  ·exact absurd q h2
  ·exact ⟨.inr (.inr ⟨q,hc⟩),fun k => absurd q k,fun x hx => ⟨(hat x hx).1,fun k => absurd q k⟩⟩
theorem left_le {R : List Rw} {C : List Int} {ph sp N : Int} (hsp : 0 ≤ sp) (hN : 0 ≤ N) : left_ R C ph sp N ≤ 2 * (objs R).length + 1 + N := by
 have := mu_le_len R C
 unfold left_
 split
 ·omega
 ·split <;> omega
def Bare (R : List Rw) (ws C G : List Int) (ov : Bool) (ph sp : Int) : Prop := (ph = 1 ∧ G = [] ∧ ov = false ∧ (∀ a ∈ objs R,C[a.toNat]? = some 0) ∧ ∀ a,¬ Due R ws C a) ∨ (ph = 2 ∧ 0 ≤ sp ∧ ∀ a ∈ objs R,C[a.toNat]? = some 0 ∧ 32 * sp ≤ a) ∨ (ph = 0 ∧ objs R = [])
theorem stepd_bare {R R' : List Rw} {ws ws' C C' G G' : List Int} {ov ov' : Bool} {ph sp cy W p s y : Int} {out : List Gn} (hA : AOk R ws) (hW : W = 32 * R.length) (h : Bare R ws C G ov ph sp) (hs : Stepd R ws C G ov ph sp cy W out R' ws' C' G' ov' p s y) : Bare R' ws' C' G' ov' p s := by
 cases hs with
 | mark _ _ _ _ _ _ _ hp hm =>
  subst hp
  rcases h with ⟨_,rfl,rfl,h1,h2⟩ | ⟨q,_⟩ | ⟨q,_⟩
  ·cases hm with
   | scan _ _ _ _ _ _ _ hg _ _ =>
    generalize hG0 : ([] : List Int) = G0 at hg
    generalize ho0 : false = o0 at hg
    cases hg with
    | pop _ _ hG => rw [← hG0] at hG; exact absurd hG.symm (by simp)
    | found _ _ _ ho _ _ _ => rw [← ho0] at ho; cases ho
   | keep _ _ _ _ _ _ _ _ _ hf _ _ _ =>
    cases hf with
    | found _ _ ha hd _ => exact absurd hd (h2 _)
   | sweep _ _ _ _ => exact .inr (.inl ⟨rfl,Int.le_refl _,fun a ha => ⟨h1 a ha,by have := (obj_bd hA ha).1; omega⟩⟩)
  ·exact absurd q (by decide)
  ·exact absurd q (by decide)
 | sweep _ _ hp hs =>
  subst hp
  rcases h with ⟨q,_⟩ | ⟨_,h0,h1⟩ | ⟨q,_⟩
  ·exact absurd q (by decide)
  ·have f := hs.facts hA
   have hrest : ∀ a ∈ objs R',C[a.toNat]? = some 0 ∧ 32 * (sp + 1) ≤ a := by
    intro a ha
    obtain ⟨q1,q2⟩ := (f.left a).1 ha
    obtain ⟨q3,q4⟩ := h1 a q1
    refine ⟨q3,?_⟩
    by_cases e : a < 32 * sp + 32
    ·exact absurd ((f.mem a).2 ⟨q4,e,q1,q3⟩) q2
    ·omega
   unfold swPh
   split
   ·refine .inr (.inr ⟨rfl,List.eq_nil_iff_forall_not_mem.2 fun a ha => ?_⟩)
    have q1 := ((f.left a).1 ha).1
    have q2 := obj_bd hA q1
    have q3 := (hrest a ha).2
    omega
   ·exact .inr (.inl ⟨rfl,by omega,hrest⟩)
  ·exact absurd q (by decide)
 | idle h1 h2 =>
  rcases h with ⟨q,_⟩ | ⟨q,_⟩ | ⟨q,h3⟩
  ·exact absurd q h1
  ·exact absurd q h2
  ·exact .inr (.inr ⟨q,h3⟩)
def Leads (R : List Rw) (ws : List Int) (a b : Int) : Prop := ∃ i x,Loaded R ws a i x 0 ∧ x % 2 = 1 ∧ (x - 1) / 2 = b ∧ b ∈ objs R
inductive Rb (R : List Rw) (ws C A : List Int) : Int → Prop
 | root (a : Int) (h : a ∈ A) (ho : a ∈ objs R) : Rb R ws C A a
 | next (a b : Int) (h : Rb R ws C A a) (hc : C[a.toNat]? ≠ some 0) (hl : Leads R ws a b) : Rb R ws C A b
inductive Rch (R : List Rw) (ws A : List Int) : Int → Prop
 | root (a : Int) (h : a ∈ A) (ho : a ∈ objs R) : Rch R ws A a
 | next (a b : Int) (h : Rch R ws A a) (hl : Leads R ws a b) : Rch R ws A b
theorem Rb.mono {R : List Rw} {ws C C' A A' : List Int} (hc : ∀ p : Nat,C'[p]? = some 0 → C[p]? = some 0) (hA : ∀ a ∈ A,a ∈ A') {a : Int} (h : Rb R ws C A a) : Rb R ws C' A' a := by
 induction h with
 | root a h ho => exact .root a (hA a h) ho
 | next a b _ hn hl ih => exact .next a b ih (fun k => hn (hc _ k)) hl
theorem Rb.to {R : List Rw} {ws C A : List Int} {a : Int} (h : Rb R ws C A a) : Rch R ws A a := by
 induction h with
 | root a h ho => exact .root a h ho
 | next a b _ hn hl ih => exact .next a b ih hl
theorem Rch.obj {R : List Rw} {ws A : List Int} {a : Int} (h : Rch R ws A a) : a ∈ objs R := by
 cases h with
 | root a h ho => exact ho
 | next a b _ hl => obtain ⟨_,_,_,_,_,h⟩ := hl; exact h
theorem stored_to {R : List Rw} {ws ws' : List Int} {a i x e : Int} (hA : AOk R ws) (h : Stored R ws a i x e ws') : (∀ b k l,Kept R ws b k l → Kept R ws' b k l) ∧ ∀ b j y,b ≠ a → Loaded R ws b j y 0 → Loaded R ws' b j y 0 := by
 cases h with
 | none _ => exact ⟨fun _ _ _ hk => hk,fun _ _ _ _ hk => hk⟩
 | arg _ _ _ _ => exact ⟨fun _ _ _ hk => hk,fun _ _ _ _ hk => hk⟩
 | ok k l hka hi =>
  have hbn := hka.bounds hA
  have hkeep : ∀ b k' l',Kept R ws b k' l' → Kept R (ws.set (a + 1 + i).toNat x) b k' l' := by
   intro b k' l' hb
   obtain ⟨w,q1,q2,q3,q4,q5,q6⟩ := hb
   have hne : (a + 1 + i).toNat ≠ b.toNat := by
    obtain ⟨wa,p1,p2,p3,p4,p5,p6⟩ := hka
    have := within_not hA.rows p1 q1 (j := a + 1 + i) (by omega) (by omega)
    have := q1.facts hA.rows
    omega
   exact .mk k' l' w q1 (by rw [List.getElem?_set_ne hne]; exact q2) q3 q4 q5 q6
  refine ⟨hkeep,fun b j y hne hl => ?_⟩
  cases hl with
  | ok k' l' _ hK hj hy =>
   have hb2 := hK.bounds hA
   refine .ok k' l' y (hkeep _ _ _ hK) hj ?_
   rw [List.getElem?_set_ne ?_]
   ·exact hy
   ·intro e
    have e : a + 1 + i = b + 1 + j := by omega
    obtain ⟨wa,p1,p2,p3,p4,p5,p6⟩ := hka
    obtain ⟨wb,q1,q2,q3,q4,q5,q6⟩ := hK
    rcases Int.lt_trichotomy a b with q | q | q
    ·exact within_not hA.rows p1 q1 (j := b) (by omega) (by omega) rfl
    ·exact hne q.symm
    ·exact within_not hA.rows q1 p1 (j := a) (by omega) (by omega) rfl
structure Cm (R : List Rw) (ws C G : List Int) (ov : Bool) (A : List Int) (v : Int) : Prop where
 all : ov = false → ∀ a ∈ objs R,a ≠ v → C[a.toNat]? = some 1 → a ∈ G
 rb : ∀ a ∈ objs R,C[a.toNat]? ≠ some 0 → Rb R ws C A a
 c3 : ∀ a ∈ objs R,C[a.toNat]? = some 0 ∨ C[a.toNat]? = some 1 ∨ C[a.toNat]? = some 2
theorem Cm.more {R : List Rw} {ws C G : List Int} {ov : Bool} {A B : List Int} {v : Int} (h : Cm R ws C G ov A v) (hA : ∀ a ∈ A,a ∈ B) : Cm R ws C G ov B v :=
 ⟨h.all,fun a ha hn => (h.rb a ha hn).mono (fun _ k => k) hA,h.c3⟩
theorem Cm.shade {R : List Rw} {ws A : List Int} {v a : Int} {s : List Int × List Int × Bool} (hA : AOk R ws) (h : Cm R ws s.1 s.2.1 s.2.2 A v) (hR : a ∈ objs R → Rb R ws s.1 A a) : Cm R ws (shade R 1 a s).1 (shade R 1 a s).2.1 (shade R 1 a s).2.2 A v := by
 have hle := shade_le R 1 a s
 by_cases hc : (1 : Int) = 1 ∧ a ∈ objs R ∧ s.1[a.toNat]? = some 0
 ·have e : Go.Proofs.YtpbhcdbkmmjimaaGreatDoor.shade R 1 a s = (s.1.set a.toNat 1,if s.2.1.length < 8 then (s.2.1 ++ [a],s.2.2) else (s.2.1,true)) := by
   unfold Go.Proofs.YtpbhcdbkmmjimaaGreatDoor.shade
   rw [if_pos hc]
  rw [e] at hle ⊢
  have hab := obj_bd hA hc.2.1
  have hl := (List.getElem?_eq_some_iff.1 hc.2.2).1
  have hself : (s.1.set a.toNat 1)[a.toNat]? = some 1 := List.getElem?_set_self hl
  have hne : ∀ b ∈ objs R,b ≠ a → (s.1.set a.toNat 1)[b.toNat]? = s.1[b.toNat]? := fun b hb n => List.getElem?_set_ne (by have := obj_bd hA hb; omega)
  refine ⟨?_,fun b hb hn => ?_,fun b hb => ?_⟩
  ·intro ho b hb hbv hb1
   by_cases h8 : s.2.1.length < 8
   ·rw [if_pos h8] at ho ⊢
    by_cases eb : b = a
    ·exact List.mem_append_right _ (by rw [eb]; exact List.mem_singleton.2 rfl)
    ·exact List.mem_append_left _ (h.all ho b hb hbv (by rw [← hne b hb eb]; exact hb1))
   ·rw [if_neg h8] at ho
    exact absurd (show true = false from ho) (by decide)
  ·by_cases eb : b = a
   ·rw [eb]; exact (hR hc.2.1).mono hle.1 (fun _ k => k)
   ·exact (h.rb b hb (by rw [← hne b hb eb]; exact hn)).mono hle.1 (fun _ k => k)
  ·by_cases eb : b = a
   ·rw [eb]; exact .inr (.inl hself)
   ·have := h.c3 b hb
    rw [← hne b hb eb] at this
    exact this
 ·have e : Go.Proofs.YtpbhcdbkmmjimaaGreatDoor.shade R 1 a s = s := by
   unfold Go.Proofs.YtpbhcdbkmmjimaaGreatDoor.shade
   rw [if_neg hc]
  rw [e]; exact h
theorem Cm.shadeW {R : List Rw} {ws A : List Int} {v w : Int} {s : List Int × List Int × Bool} (hA : AOk R ws) (h : Cm R ws s.1 s.2.1 s.2.2 A v) (hR : w % 2 = 1 → (w - 1) / 2 ∈ objs R → Rb R ws s.1 A ((w - 1) / 2)) : Cm R ws (shadeW R 1 w s).1 (shadeW R 1 w s).2.1 (shadeW R 1 w s).2.2 A v := by
 unfold Go.Proofs.YtpbhcdbkmmjimaaGreatDoor.shadeW
 split
 ·rename_i hw
  exact h.shade hA (hR hw)
 ·exact h
theorem Cm.fold {R : List Rw} {ws A : List Int} {v : Int} (hA : AOk R ws) : ∀ (X : List Int) (s : List Int × List Int × Bool),Cm R ws s.1 s.2.1 s.2.2 A v → (∀ w ∈ X,w % 2 = 1 → (w - 1) / 2 ∈ objs R → Rb R ws s.1 A ((w - 1) / 2)) → Cm R ws (X.foldl (fun s w => Go.Proofs.YtpbhcdbkmmjimaaGreatDoor.shadeW R 1 w s) s).1 (X.foldl (fun s w => Go.Proofs.YtpbhcdbkmmjimaaGreatDoor.shadeW R 1 w s) s).2.1 (X.foldl (fun s w => Go.Proofs.YtpbhcdbkmmjimaaGreatDoor.shadeW R 1 w s) s).2.2 A v
 | [],s,h,_ => h
 | w :: X,s,h,hX => Cm.fold hA X _ (h.shadeW hA (hX w (List.mem_cons_self ..))) fun w' hw' h1 h2 => (hX w' (List.mem_cons_of_mem _ hw') h1 h2).mono (shadeW_le R 1 w s).1 (fun _ k => k)
def Rt (R : List Rw) (C A : List Int) : Prop := ∀ a ∈ A,a ∈ objs R → C[a.toNat]? ≠ some 0
theorem Rt.le {R : List Rw} {C C' A : List Int} (h : Rt R C A) (hc : ∀ p : Nat,C'[p]? = some 0 → C[p]? = some 0) : Rt R C' A := fun a ha ho k => h a ha ho (hc _ k)
structure Cy1 (R : List Rw) (ws C G : List Int) (ov : Bool) (A : List Int) : Prop where
 dk : Dk R ws C
 g : GOk R C G
 cm : Cm R ws C G ov A (-1)
 rt : Rt R C A
theorem beg_all {R : List Rw} {ws : List Int} (hA : AOk R ws) : ∀ (A B : List Int) (s : List Int × List Int × Bool),Cm R ws s.1 s.2.1 s.2.2 B (-1) → GOk R s.1 s.2.1 → Rt R s.1 B → Cm R ws (A.foldl (fun s a => shade R 1 a s) s).1 (A.foldl (fun s a => shade R 1 a s) s).2.1 (A.foldl (fun s a => shade R 1 a s) s).2.2 (B ++ A) (-1) ∧ GOk R (A.foldl (fun s a => shade R 1 a s) s).1 (A.foldl (fun s a => shade R 1 a s) s).2.1 ∧ Rt R (A.foldl (fun s a => shade R 1 a s) s).1 (B ++ A)
 | [],B,s,h1,h2,h3 => by rw [List.append_nil]; exact ⟨h1,h2,h3⟩
 | a :: A,B,s,h1,h2,h3 => by
  have k := beg_all hA A (B ++ [a]) (shade R 1 a s) ((h1.more (fun x hx => List.mem_append_left _ hx)).shade hA (fun ho => .root a (List.mem_append_right _ (List.mem_singleton.2 rfl)) ho)) (shade_gok h2) (fun x hx ho => by
   rcases List.mem_append.1 hx with hx | hx
   ·exact h3.le (shade_le R 1 a s).1 x hx ho
   ·rw [List.mem_singleton.1 hx] at ho ⊢; exact shade_hit R a s ho)
  rw [List.append_assoc] at k
  exact k
theorem Cy1.begin {R : List Rw} {ws C G A : List Int} {ov : Bool} {W : Int} (hA : AOk R ws) (hW : W = 32 * R.length) (h : (C,G,ov) = begS R W A) : Cy1 R ws C G ov A := by
 have hrep : ∀ a ∈ objs R,(List.replicate W.toNat (0 : Int))[a.toNat]? = some 0 := by
  intro a ha
  have := obj_bd hA ha
  rw [List.getElem?_replicate,if_pos (by omega)]
 have k := beg_all hA A [] (List.replicate W.toNat 0,[],false) ⟨fun _ a ha _ h1 => by rw [hrep a ha] at h1; exact absurd (Option.some.inj h1) (by decide),fun a ha hn => absurd (hrep a ha) hn,fun a ha => .inl (hrep a ha)⟩ ⟨fun x hx => (by cases hx),fun x hx => (by cases hx),List.nodup_nil⟩ (fun a ha => by cases ha)
 have h1 : C = (begS R W A).1 := congrArg Prod.fst h
 have h2 : G = (begS R W A).2.1 := congrArg (fun x => x.2.1) h
 have h3 : ov = (begS R W A).2.2 := congrArg (fun x => x.2.2) h
 have hdk := Dk.begin (ws := ws) h
 rw [h1,h2,h3] at *
 exact ⟨hdk,k.2.1,k.1,k.2.2⟩
structure Done (R : List Rw) (ws C A : List Int) : Prop where
 two : ∀ a ∈ objs R,C[a.toNat]? = some 0 ∨ C[a.toNat]? = some 2
 iff : ∀ a ∈ objs R,C[a.toNat]? = some 0 ↔ ¬ Rch R ws A a
 due : ∀ a,¬ Due R ws C a
theorem Cy1.done {R : List Rw} {ws C G A : List Int} {ov : Bool} (h : Cy1 R ws C G ov A) (hg : ∀ a ∈ objs R,C[a.toNat]? ≠ some 1) (hd : ∀ a,¬ Due R ws C a) : Done R ws C A := by
 have htwo : ∀ a ∈ objs R,C[a.toNat]? = some 0 ∨ C[a.toNat]? = some 2 := by
  intro a ha
  rcases h.cm.c3 a ha with q | q | q
  ·exact .inl q
  ·exact absurd q (hg a ha)
  ·exact .inr q
 refine ⟨htwo,fun a ha => ⟨fun h0 hr => ?_,fun hn => Classical.byContradiction fun k => hn (h.cm.rb a ha k).to⟩,hd⟩
 have : ∀ a,Rch R ws A a → C[a.toNat]? ≠ some 0 := by
  intro a hr
  induction hr with
  | root a hm ho => exact h.rt a hm ho
  | next a b hr hl ih =>
   obtain ⟨i,x,hx,hx1,hb,ho⟩ := hl
   rw [← hb] at ho ⊢
   exact h.dk a x i hr.obj ((htwo a hr.obj).resolve_left ih) hx hx1 ho
 exact this a hr h0
abbrev spots (out : List Gn) : List Int := out.map fun g => g.2.1
theorem Cy1.marked {R : List Rw} {ws ws' C C' G G' A : List Int} {ov ov' : Bool} {sp p s : Int} {out : List Gn} (hA : AOk R ws) (hCl : (C.length : Int) = 32 * R.length) (h : Cy1 R ws C G ov A) (hm : Marked R ws C G ov sp out p s ws' C' G' ov') :
  (p = 1 ∧ Cy1 R ws' C' G' ov' (A ++ spots out) ∧ (out = [] ∧ ws' = ws ∨ ∃ a X,out = [(5,a,X,true)] ∧ Wrds R ws a X ∧ Stored R ws a 1 0 0 ws' ∧ Due R ws C a)) ∨ (p = 2 ∧ s = 0 ∧ out = [] ∧ ws' = ws ∧ C' = C ∧ Done R ws C A) := by
 have hg0 : ∀ x ∈ G,0 ≤ x := fun x hx => (obj_bd hA (h.g.obj x hx)).1
 have hgo : p = 1 → GOk R C' G' := by
  intro hp
  rcases (marked_cy (N := 1) hA hCl (by omega) h.g hm).1 with ⟨_,k,_⟩ | ⟨k,_⟩ | ⟨k,_⟩
  ·exact k
  ·omega
  ·omega
 have hdk := Dk.marked hA hg0 hCl h.dk hm
 cases hm with
 | scan v A0 X _ _ o1 _ hg hX hs =>
  have hC : C' = (X.foldl (fun s w => shadeW R 1 w s) (C,A0,o1)).1.set v.toNat 2 := congrArg Prod.fst hs
  have hG : G' = (X.foldl (fun s w => shadeW R 1 w s) (C,A0,o1)).2.1 := congrArg (fun x => x.2.1) hs
  have hO : ov' = (X.foldl (fun s w => shadeW R 1 w s) (C,A0,o1)).2.2 := congrArg (fun x => x.2.2) hs
  obtain ⟨hv,hv1,hall⟩ : v ∈ objs R ∧ C[v.toNat]? = some 1 ∧ (o1 = false → ∀ a ∈ objs R,a ≠ v → C[a.toNat]? = some 1 → a ∈ A0) := by
   cases hg with
   | pop _ _ hGA =>
    refine ⟨h.g.obj v (by rw [hGA]; simp),h.g.grey v (by rw [hGA]; simp),fun ho a ha hav h1 => ?_⟩
    have := h.cm.all ho a ha (by have := obj_bd hA ha; omega) h1
    rw [hGA] at this
    rcases List.mem_append.1 this with q | q
    ·exact q
    ·exact absurd (List.mem_singleton.1 q) hav
   | found _ _ _ _ ha hc _ => exact ⟨List.mem_of_getElem? ha,hc,fun ho => absurd ho (by decide)⟩
  have hvn : C[v.toNat]? ≠ some 0 := by rw [hv1]; exact fun q => absurd (Option.some.inj q) (by decide)
  have hF := Cm.fold (v := v) (A := A) hA X (C,A0,o1) ⟨hall,h.cm.rb,h.cm.c3⟩ (fun w hw h1 h2 => by
   obtain ⟨i,hi⟩ := List.getElem?_of_mem hw
   exact .next v _ (h.cm.rb v hv hvn) hvn ⟨i,w,hX.2 i w hi,h1,rfl,h2⟩)
  have hle := fold_le R 1 X (C,A0,o1)
  have hgr := fold_grey R 1 X (C,A0,o1) _ hv1
  generalize (X.foldl (fun s w => shadeW R 1 w s) (C,A0,o1)) = F at hC hG hO hF hle hgr
  have hl := (List.getElem?_eq_some_iff.1 hgr).1
  have hself : C'[v.toNat]? = some 2 := by rw [hC]; exact List.getElem?_set_self hl
  have hne : ∀ q : Nat,v.toNat ≠ q → C'[q]? = F.1[q]? := fun q e => by rw [hC,List.getElem?_set_ne e]
  have hw : ∀ q : Nat,C'[q]? = some 0 → F.1[q]? = some 0 := by
   intro q h0
   by_cases e : v.toNat = q
   ·rw [← e,hself] at h0; exact absurd (Option.some.inj h0) (by decide)
   ·rw [← hne q e]; exact h0
  have hnv : ∀ a ∈ objs R,a ≠ v → v.toNat ≠ a.toNat := fun a ha n => by have := obj_bd hA ha; have := obj_bd hA hv; omega
  refine .inl ⟨rfl,⟨hdk rfl,hgo rfl,⟨fun ho a ha _ h1 => ?_,fun a ha hn => ?_,fun a ha => ?_⟩,?_⟩,.inl ⟨rfl,rfl⟩⟩
  ·by_cases e : a = v
   ·rw [e,hself] at h1; exact absurd (Option.some.inj h1) (by decide)
   ·rw [hG]
    exact hF.all (by rw [← hO]; exact ho) a ha e (by rw [← hne _ (hnv a ha e)]; exact h1)
  ·rw [show A ++ spots [] = A from List.append_nil A]
   by_cases e : a = v
   ·rw [e]; exact (h.cm.rb v hv hvn).mono (fun q k => hle.1 q (hw q k)) (fun _ k => k)
   ·exact (hF.rb a ha (by rw [← hne _ (hnv a ha e)]; exact hn)).mono hw (fun _ k => k)
  ·by_cases e : a = v
   ·rw [e]; exact .inr (.inr hself)
   ·rw [hne _ (hnv a ha e)]; exact hF.c3 a ha
  ·rw [show A ++ spots [] = A from List.append_nil A]
   exact h.rt.le fun q k => hle.1 q (hw q k)
 | keep a A0 X _ _ _ o1 _ hg hf hX hst hs =>
  have hC : C' = (shade R 1 a (C,A0,o1)).1 := congrArg Prod.fst hs
  have hG : G' = (shade R 1 a (C,A0,o1)).2.1 := congrArg (fun x => x.2.1) hs
  have hO : ov' = (shade R 1 a (C,A0,o1)).2.2 := congrArg (fun x => x.2.2) hs
  have hall : o1 = false → ∀ b ∈ objs R,b ≠ -1 → C[b.toNat]? = some 1 → b ∈ A0 := by
   cases hg with
   | none hG0 ho => intro _ b hb hb1 h1; have := h.cm.all ho b hb hb1 h1; rw [hG0] at this; cases this
   | settle hG0 ho hn => intro _ b hb _ h1; obtain ⟨i,hi⟩ := List.getElem?_of_mem hb; exact absurd h1 (hn i b hi)
  have hfd : a ∈ objs R ∧ Due R ws C a := by
   cases hf with
   | found _ _ ha hd _ => exact ⟨List.mem_of_getElem? ha,hd⟩
  have hao := hfd.1
  have ha0 := hfd.2.2.1
  have hsh := Cm.shade (R := R) (ws := ws) (v := -1) (a := a) (s := (C,A0,o1)) (A := A ++ [a]) hA (Cm.more ⟨hall,h.cm.rb,h.cm.c3⟩ (fun x hx => List.mem_append_left _ hx)) (fun ho => .root a (List.mem_append_right _ (List.mem_singleton.2 rfl)) ho)
  have hle := shade_le R 1 a (C,A0,o1)
  have hhit := shade_hit R a (C,A0,o1) hao
  have hto := (stored_to hA hst).2
  rw [← hC,← hG,← hO] at hsh
  rw [← hC] at hle hhit
  have hrb : ∀ b,Rb R ws C A b → Rb R ws' C' (A ++ [a]) b := by
   intro b hb
   induction hb with
   | root b hm ho => exact .root b (List.mem_append_left _ hm) ho
   | next b c _ hn hl ih =>
    obtain ⟨i,x,hx,hx1,hc,ho⟩ := hl
    exact .next b c ih (fun k => hn (hle.1 _ k)) ⟨i,x,hto b i x (fun e => hn (by rw [e]; exact ha0)) hx,hx1,hc,ho⟩
  refine .inl ⟨rfl,⟨hdk rfl,hgo rfl,⟨hsh.all,fun b hb hn => ?_,hsh.c3⟩,?_⟩,.inr ⟨a,X,rfl,hX,hst,hfd.2⟩⟩
  ·show Rb R ws' C' (A ++ [a]) b
   by_cases e : b = a
   ·rw [e]; exact .root a (List.mem_append_right _ (List.mem_singleton.2 rfl)) hao
   ·refine hrb b (h.cm.rb b hb ?_)
    have hab := obj_bd hA hao
    have hbb := obj_bd hA hb
    intro k
    refine hn ?_
    rw [hC]
    unfold shade
    rw [if_pos ⟨rfl,hao,ha0⟩]
    show (C.set a.toNat 1)[b.toNat]? = some 0
    rw [List.getElem?_set_ne (by omega)]
    exact k
  ·intro b hb ho
   have hb : b ∈ A ++ [a] := hb
   rcases List.mem_append.1 hb with hb | hb
   ·exact h.rt.le hle.1 b hb ho
   ·rw [List.mem_singleton.1 hb]; exact hhit
 | sweep A0 o1 hg hf =>
  refine .inr ⟨rfl,rfl,rfl,rfl,rfl,h.done (fun a ha h1 => ?_) (fun a hd => ?_)⟩
  ·cases hg with
   | none hG ho => have := h.cm.all ho a ha (by have := obj_bd hA ha; omega) h1; rw [hG] at this; cases this
   | settle _ _ hn => obtain ⟨i,hi⟩ := List.getElem?_of_mem ha; exact hn i a hi h1
  ·cases hf with
   | none hn =>
    obtain ⟨l,hk⟩ := hd.1
    obtain ⟨i,hi⟩ := List.getElem?_of_mem ((obj_iff hA a).2 hk.obj6)
    exact hn i a hi hd
structure Cy2 (R0 R : List Rw) (ws C A : List Int) (lim : Int) (X : List Int) : Prop where
 done : Done R0 ws C A
 go : ∀ x,x ∈ X ↔ x ∈ objs R0 ∧ C[x.toNat]? = some 0 ∧ x < lim
 rest : ∀ x,x ∈ objs R ↔ x ∈ objs R0 ∧ x ∉ X
 kept : ∀ x k l,Kept R ws x k l → Kept R0 ws x k l
theorem Cy2.swept {R0 R R' : List Rw} {ws C A X : List Int} {sp : Int} {out : List Gn} (hA : AOk R ws) (h : Cy2 R0 R ws C A (32 * sp) X) (hs : SweptTo ws C R (32 * sp) 32 out R') : Cy2 R0 R' ws C A (32 * (sp + 1)) (X ++ spots out) := by
 have f := hs.facts hA
 have hgo : ∀ x,x ∈ X ++ spots out ↔ x ∈ objs R0 ∧ C[x.toNat]? = some 0 ∧ x < 32 * (sp + 1) := by
  intro x
  rw [List.mem_append,h.go x,f.mem x]
  constructor
  ·rintro (⟨h1,h2,h3⟩ | ⟨h1,h2,h3,h4⟩)
   ·exact ⟨h1,h2,by omega⟩
   ·exact ⟨((h.rest x).1 h3).1,h4,by omega⟩
  ·rintro ⟨h1,h2,h3⟩
   by_cases e : x < 32 * sp
   ·exact .inl ⟨h1,h2,e⟩
   ·exact .inr ⟨by omega,by omega,(h.rest x).2 ⟨h1,fun k => e ((h.go x).1 k).2.2⟩,h2⟩
 refine ⟨h.done,hgo,fun x => ?_,fun x k l hk => h.kept x k l (f.kept x k l hk)⟩
 rw [f.left x,h.rest x,List.mem_append]
 constructor
 ·rintro ⟨⟨h1,h2⟩,h3⟩; exact ⟨h1,fun k => k.elim h2 h3⟩
 ·rintro ⟨h1,h2⟩; exact ⟨⟨h1,fun k => h2 (.inl k)⟩,fun k => h2 (.inr k)⟩
def Cyc (R0 R : List Rw) (ws C G : List Int) (ov : Bool) (ph sp N : Int) (A K X : List Int) : Prop :=
 (ph = 1 ∧ R = R0 ∧ X = [] ∧ Cy1 R ws C G ov (A ++ K)) ∨ (ph = 2 ∧ Cy2 R0 R ws C (A ++ K) (32 * sp) X) ∨ (ph = 0 ∧ Cy2 R0 R ws C (A ++ K) (32 * N) X)
def keptOf (out : List Gn) : List Int := (out.filter fun g => g.2.2.2).map fun g => g.2.1
def goneOf (out : List Gn) : List Int := (out.filter fun g => !g.2.2.2).map fun g => g.2.1
theorem Cyc.stepd {R0 R R' : List Rw} {ws ws' C C' G G' A K X : List Int} {ov ov' : Bool} {ph sp cy W N p s y : Int} {out : List Gn} (hA : AOk R ws) (hN : N = R.length) (hW : W = 32 * N) (hCl : (C.length : Int) = W) (hsp : 0 ≤ sp ∧ sp ≤ N) (h : Cyc R0 R ws C G ov ph sp N A K X) (hsN : ph = 2 → sp < N) (hs : Stepd R ws C G ov ph sp cy W out R' ws' C' G' ov' p s y) :
  Cyc R0 R' ws' C' G' ov' p s N A (K ++ keptOf out) (X ++ goneOf out) ∧ (ph ≠ 1 → keptOf out = []) ∧ (ws' = ws ∧ keptOf out = [] ∨ ph = 1 ∧ ∃ a Y,out = [(5,a,Y,true)] ∧ Wrds R ws a Y ∧ Stored R ws a 1 0 0 ws' ∧ Due R ws C a) := by
 cases hs with
 | mark _ _ _ _ _ _ _ hp hm =>
  subst hp
  rcases h with ⟨_,rfl,rfl,h⟩ | ⟨q,_⟩ | ⟨q,_⟩
  ·rcases h.marked hA (by omega) hm with ⟨rfl,h1,⟨rfl,rfl⟩ | ⟨a,Y,rfl,hY,hst,hd⟩⟩ | ⟨rfl,rfl,rfl,rfl,rfl,hd⟩
   ·have h1 : Cy1 R ws' C' G' ov' (A ++ K) := by rw [show A ++ K ++ spots [] = A ++ K from List.append_nil _] at h1; exact h1
    exact ⟨.inl ⟨rfl,rfl,rfl,by rw [show K ++ keptOf [] = K from List.append_nil _]; exact h1⟩,fun _ => rfl,.inl ⟨rfl,rfl⟩⟩
   ·exact ⟨.inl ⟨rfl,rfl,rfl,by rw [← List.append_assoc]; exact h1⟩,fun k => absurd rfl k,.inr ⟨rfl,a,Y,rfl,hY,hst,hd⟩⟩
   ·refine ⟨.inr (.inl ⟨rfl,?_⟩),fun _ => rfl,.inl ⟨rfl,rfl⟩⟩
    rw [show K ++ keptOf [] = K from List.append_nil _]
    exact ⟨hd,fun x => ⟨fun k => (by cases k),fun ⟨k1,_,k2⟩ => (by have := obj_bd hA k1; omega)⟩,fun x => ⟨fun k => ⟨k,fun q => (by cases q)⟩,fun k => k.1⟩,fun _ _ _ k => k⟩
  ·exact absurd q (by decide)
  ·exact absurd q (by decide)
 | sweep _ _ hp hs =>
  subst hp
  rcases h with ⟨q,_⟩ | ⟨_,h⟩ | ⟨q,_⟩
  ·exact absurd q (by decide)
  ·have f := hs.facts hA
   have hfl : ∀ g ∈ out,g.2.2.2 = false := fun g hg => (f.each g hg).2.2
   have hk : keptOf out = [] := by
    unfold keptOf
    rw [List.filter_eq_nil_iff.2 (fun g hg => by rw [hfl g hg]; decide)]
    rfl
   have hg : goneOf out = spots out := by
    unfold goneOf
    rw [List.filter_eq_self.2 (fun g hg => by rw [hfl g hg]; decide)]
   rw [hk,hg,List.append_nil]
   have h2 := h.swept hA hs
   refine ⟨?_,fun _ => rfl,.inl ⟨rfl,rfl⟩⟩
   unfold swPh
   split
   ·have e : sp + 1 = N := by have := hsN rfl; omega
    rw [e] at h2
    exact .inr (.inr ⟨rfl,h2⟩)
   ·exact .inr (.inl ⟨rfl,h2⟩)
  ·exact absurd q (by decide)
 | idle h1 h2 =>
  refine ⟨?_,fun _ => rfl,.inl ⟨rfl,rfl⟩⟩
  rw [show K ++ keptOf [] = K from List.append_nil _,show X ++ goneOf [] = X from List.append_nil _]
  exact h
theorem marked_white {R : List Rw} {ws ws' C C' G G' : List Int} {ov ov' : Bool} {sp p s : Int} {out : List Gn} (hm : Marked R ws C G ov sp out p s ws' C' G' ov') : ∀ q : Nat,C'[q]? = some 0 → C[q]? = some 0 := by
 cases hm with
 | scan v A0 X _ _ o1 _ hg hX hs =>
  have hC : C' = (X.foldl (fun s w => shadeW R 1 w s) (C,A0,o1)).1.set v.toNat 2 := congrArg Prod.fst hs
  have hle := fold_le R 1 X (C,A0,o1)
  generalize (X.foldl (fun s w => shadeW R 1 w s) (C,A0,o1)) = F at hC hle
  intro q hq
  refine hle.1 q ?_
  rw [hC] at hq
  by_cases e : v.toNat = q
  ·subst e
   by_cases hl : v.toNat < F.1.length
   ·rw [List.getElem?_set_self hl] at hq; exact absurd (Option.some.inj hq) (by decide)
   ·rw [List.getElem?_eq_none (by rw [List.length_set]; omega)] at hq; cases hq
  ·rw [List.getElem?_set_ne e] at hq; exact hq
 | keep a A0 X _ _ _ o1 _ hg hf hX hst hs =>
  have hC : C' = (shade R 1 a (C,A0,o1)).1 := congrArg Prod.fst hs
  rw [hC]
  exact (shade_le R 1 a (C,A0,o1)).1
 | sweep A0 o1 hg hf => exact fun q h => h
theorem stepd_keep {R R' : List Rw} {ws ws' C C' G G' : List Int} {ov ov' : Bool} {ph sp cy W p s y x : Int} {out : List Gn} (hA : AOk R ws) (hx : x ∈ objs R ∧ (ph ≠ 0 → C[x.toNat]? ≠ some 0)) (hs : Stepd R ws C G ov ph sp cy W out R' ws' C' G' ov' p s y) : x ∈ objs R' ∧ (p ≠ 0 → C'[x.toNat]? ≠ some 0) := by
 cases hs with
 | mark _ _ _ _ _ _ _ hp hm => exact ⟨hx.1,fun _ k => hx.2 (by omega) (marked_white hm _ k)⟩
 | sweep _ _ hp hs =>
  have f := hs.facts hA
  refine ⟨(f.left x).2 ⟨hx.1,fun k => hx.2 (by omega) ((f.mem x).1 k).2.2.2⟩,fun _ => hx.2 (by omega)⟩
 | idle h1 h2 => exact hx
theorem stepd_kept {R R' : List Rw} {ws ws' C C' G G' : List Int} {ov ov' : Bool} {ph sp cy W p s y : Int} {out : List Gn} (hA : AOk R ws) (hs : Stepd R ws C G ov ph sp cy W out R' ws' C' G' ov' p s y) : ∀ b k l,Kept R' ws' b k l → Kept R ws b k l := by
 cases hs with
 | mark _ _ _ _ _ _ _ hp hm =>
  cases hm with
  | scan _ _ _ _ _ _ _ _ _ _ => exact fun _ _ _ k => k
  | keep _ _ _ _ _ _ _ _ _ _ _ hst _ => exact stored_kept hA hst
  | sweep _ _ _ _ => exact fun _ _ _ k => k
 | sweep _ _ hp hs => exact (hs.facts hA).kept
 | idle h1 h2 => exact fun _ _ _ k => k
theorem stored_own {R : List Rw} {ws ws' : List Int} {a i x e k l : Int} (hA : AOk R ws) (hK : Kept R ws a k l) (hi : 0 ≤ i ∧ i < l) (h : Stored R ws a i x e ws') : e = 0 ∧ Loaded R ws' a i x 0 ∧ ∀ j y,j ≠ i → Loaded R ws a j y 0 → Loaded R ws' a j y 0 := by
 obtain ⟨he,hw⟩ := stored_of hK hi h
 have hk2 := (stored_to hA h).1
 have hb := hK.bounds hA
 have hlen := hA.len
 refine ⟨he,.ok k l x (hk2 _ _ _ hK) hi (by rw [hw]; exact List.getElem?_set_self (by omega)),fun j y hj hl => ?_⟩
 cases hl with
 | ok k' l' _ hK' hj2 hy =>
  refine .ok k' l' y (hk2 _ _ _ hK') hj2 ?_
  rw [hw,List.getElem?_set_ne (by omega)]
  exact hy
structure Chn (R : List Rw) (ws y : List Int) (P : Nat → Prop) : Prop where
 box : ∀ b ∈ y,Kept R ws b 5 2
 nd : y.Nodup
 fin : ∀ a ∈ y,Loaded R ws a 1 0 0
 nxt : ∀ (k : Nat) a b,P k → y[k]? = some a → y[k + 1]? = some b → Loaded R ws a 0 (b * 2 + 1) 0
theorem Chn.store {R : List Rw} {ws ws' y : List Int} {P : Nat → Prop} {k : Nat} {a b e : Int} (hA : AOk R ws) (h : Chn R ws y P) (ha : y[k]? = some a) (hb : y[k + 1]? = some b) (hs : Stored R ws a 0 (b * 2 + 1) e ws') : e = 0 ∧ Chn R ws' y (fun j => j = k ∨ P j) := by
 obtain ⟨h1,h2,h3⟩ := stored_own hA (h.box a (List.mem_of_getElem? ha)) (by omega) hs
 obtain ⟨h4,h5⟩ := stored_to hA hs
 have hl : ∀ c j v,(c = a → j ≠ 0) → Loaded R ws c j v 0 → Loaded R ws' c j v 0 := by
  intro c j v hc hv
  by_cases e : c = a
  ·subst e; exact h3 j v (hc rfl) hv
  ·exact h5 c j v e hv
 refine ⟨h1,fun c hc => h4 _ _ _ (h.box c hc),h.nd,fun c hc => hl c 1 0 (fun _ => by decide) (h.fin c hc),fun j c d hj hc hd => ?_⟩
 by_cases e : j = k
 ·subst e
  rw [ha] at hc; rw [hb] at hd
  obtain rfl := Option.some.inj hc
  obtain rfl := Option.some.inj hd
  exact h2
 ·refine hl c 0 _ (fun ec => ?_) (h.nxt j c d (hj.resolve_left e) hc hd)
  subst ec
  have hjl := (List.getElem?_eq_some_iff.1 hc).1
  exact absurd ((List.getElem?_inj hjl h.nd).1 (hc.trans ha.symm)) e
structure At (C G : List Int) (ov : Bool) (y : List Int) (k : Nat) : Prop where
 g : ∃ a,y[k]? = some a ∧ G = [a]
 ov : ov = false
 wh : ∀ (j : Nat) b,k < j → y[j]? = some b → C[b.toNat]? = some 0
theorem loaded_one {R : List Rw} {ws : List Int} {a i x y : Int} (h1 : Loaded R ws a i x 0) (h2 : Loaded R ws a i y 0) : x = y := by
 cases h1 with
 | ok _ _ _ _ _ q1 => cases h2 with
  | ok _ _ _ _ _ q2 => rw [q1] at q2; exact Option.some.inj q2
theorem At.step {R R' : List Rw} {ws ws' C C' G G' y : List Int} {ov ov' : Bool} {ph sp cy W p s yy : Int} {out : List Gn} {k : Nat} {P : Nat → Prop} (hA : AOk R ws) (hc : Chn R ws y P) (hP : P k) (h : At C G ov y k) (hk : k + 1 < y.length) (hph : ph = 1) (hs : Stepd R ws C G ov ph sp cy W out R' ws' C' G' ov' p s yy) : p = 1 ∧ s = sp ∧ yy = cy ∧ R' = R ∧ ws' = ws ∧ At C' G' ov' y (k + 1) := by
 obtain ⟨a,ha,hG⟩ := h.g
 obtain ⟨b,hb⟩ : ∃ b,y[k + 1]? = some b := ⟨_,List.getElem?_eq_getElem hk⟩
 have ham := List.mem_of_getElem? ha
 have hbm := List.mem_of_getElem? hb
 have hKa := hc.box a ham
 cases hs with
 | mark _ _ _ _ _ _ _ hp hm =>
  cases hm with
  | scan v A0 X _ _ o1 _ hg hX hs =>
   have hvA : v = a ∧ A0 = [] ∧ o1 = false := by
    cases hg with
    | pop _ _ hGA =>
     rw [hG] at hGA
     have hl : A0.length = 0 := by have := congrArg List.length hGA; simp at this; exact this ▸ rfl
     have hA0 : A0 = [] := List.eq_nil_of_length_eq_zero hl
     subst hA0
     exact ⟨(by simpa using hGA.symm),rfl,h.ov⟩
    | found _ _ hG0 _ _ _ _ => rw [hG] at hG0; cases hG0
   obtain ⟨rfl,rfl,rfl⟩ := hvA
   have hX2 : X = [b * 2 + 1,0] := by
    have hl2 : X.length = 2 := by
     have hl := hX.1
     generalize hxl : (X.length : Int) = xl at hl
     cases hl with
     | no hn => exact absurd hKa.obj6 hn
     | is k2 l2 hK2 => have := (hKa.det9 hK2).2; omega
    match X,hl2,hX with
    | [x0,x1],_,hX =>
     have e0 := loaded_one (hX.2 0 x0 rfl) (hc.nxt k _ b hP ha hb)
     have e1 := loaded_one (hX.2 1 x1 rfl) (hc.fin _ ham)
     rw [e0,e1]
   have hbo : b ∈ objs R := (obj_iff hA b).2 (hc.box b hbm).obj6
   have hb0 := h.wh (k + 1) b (by omega) hb
   have hsh : ∀ s : List Int × List Int × Bool,shadeW R 1 0 s = s := fun s => by unfold shadeW; rw [if_neg (by decide)]
   have hs1 : shadeW R 1 (b * 2 + 1) (C,[],false) = (C.set b.toNat 1,[b],false) := by
    unfold shadeW
    rw [if_pos (by omega),show (b * 2 + 1 - 1) / 2 = b by omega]
    unfold shade
    rw [if_pos ⟨rfl,hbo,hb0⟩]
    rfl
   have hF : scanS R 1 v X (C,[],false) = ((C.set b.toNat 1).set v.toNat 2,[b],false) := by
    unfold scanS
    rw [hX2]
    simp only [List.foldl_cons,List.foldl_nil,hs1,hsh]
   rw [hF] at hs
   cases hs
   refine ⟨rfl,rfl,rfl,rfl,rfl,⟨b,hb,rfl⟩,rfl,fun j c hj hcy => ?_⟩
   have hcm := List.mem_of_getElem? hcy
   have hne : ∀ (i : Nat) d,i < j → y[i]? = some d → d.toNat ≠ c.toNat := by
    intro i d hi hd e
    have b1 := (hc.box d (List.mem_of_getElem? hd)).bounds hA
    have b2 := (hc.box c hcm).bounds hA
    have e : d = c := by omega
    subst e
    have := (List.getElem?_inj (List.getElem?_eq_some_iff.1 hd).1 hc.nd).1 (hd.trans hcy.symm)
    omega
   rw [List.getElem?_set_ne (hne k _ (by omega) ha),List.getElem?_set_ne (hne (k + 1) _ (by omega) hb)]
   exact h.wh j c (by omega) hcy
  | keep a2 A0 X _ _ _ o1 _ hg hf hX hst hs =>
   exfalso
   cases hg with
   | none h1 _ => rw [hG] at h1; cases h1
   | settle h1 _ _ => rw [hG] at h1; cases h1
  | sweep A0 o1 hg hf =>
   exfalso
   cases hg with
   | none h1 _ => rw [hG] at h1; cases h1
   | settle h1 _ _ => rw [hG] at h1; cases h1
 | sweep _ _ hp _ => omega
 | idle h1 _ => exact absurd hph h1
theorem At.begin {R : List Rw} {ws C G y : List Int} {ov : Bool} {W N a : Int} {P : Nat → Prop} (hA : AOk R ws) (hW : W = 32 * R.length) (hc : Chn R ws y P) (ha : y[0]? = some a) (h : (C,G,ov) = begS R W [a]) : At C G ov y 0 ∧ CyI R C G 1 0 0 N ∧ C[a.toNat]? ≠ some 0 := by
 have ham := List.mem_of_getElem? ha
 have hrep : ∀ b ∈ y,(List.replicate W.toNat (0 : Int))[b.toNat]? = some 0 := by
  intro b hb
  have := (hc.box b hb).bounds hA
  rw [List.getElem?_replicate,if_pos (by omega)]
 have hao : a ∈ objs R := (obj_iff hA a).2 (hc.box a ham).obj6
 have h : (C,G,ov) = ((List.replicate W.toNat 0).set a.toNat 1,[a],false) := by
  rw [h]
  show shade R 1 a (List.replicate W.toNat 0,[],false) = _
  unfold shade
  rw [if_pos ⟨rfl,hao,hrep a ham⟩]
  rfl
 cases h
 have hl := (List.getElem?_eq_some_iff.1 (hrep a ham)).1
 have hself : ((List.replicate W.toNat (0 : Int)).set a.toNat 1)[a.toNat]? = some 1 := List.getElem?_set_self hl
 refine ⟨⟨⟨a,ha,rfl⟩,rfl,fun j b hj hb => ?_⟩,.inl ⟨rfl,⟨fun x hx => ?_,fun x hx => ?_,by simp⟩,rfl⟩,by rw [hself]; decide⟩
 ·have hbm := List.mem_of_getElem? hb
  rw [List.getElem?_set_ne]
  ·exact hrep b hbm
  ·intro e
   have b1 := (hc.box a ham).bounds hA
   have b2 := (hc.box b hbm).bounds hA
   have e : a = b := by omega
   subst e
   have := (List.getElem?_inj (List.getElem?_eq_some_iff.1 ha).1 hc.nd).1 (ha.trans hb.symm)
   omega
 ·rw [List.mem_singleton.1 hx]; exact hao
 ·rw [List.mem_singleton.1 hx]; exact hself
structure Grown (R : List Rw) (ws l : List Int) : Prop where
 box : ∀ b ∈ l,Kept R ws b 5 2
 nd : l.Nodup
 zero : ∀ a ∈ l,∀ j,0 ≤ j → j < 2 → ws[(a + 1 + j).toNat]? = some 0
 cnt : objCount R = l.length
theorem Grown.alloc {R R' : List Rw} {ws ws' l : List Int} {a e : Int} (hA : AOk R ws) (h : Grown R ws l) (hr : l.length < R.length) (hs : Alloct R ws 5 2 a e R' ws') : e = 0 ∧ Grown R' ws' (l ++ [a]) := by
 have he : e = 0 := by have := alloct_err hA hs (by rw [h.cnt]; omega); rw [if_pos (by decide)] at this; exact this
 obtain ⟨h1,h2,h3,h4,h5,_,h7⟩ := alloct_ok hA hs he
 refine ⟨he,fun b hb => ?_,?_,fun b hb j hj0 hj1 => ?_,?_⟩
 ·rcases List.mem_append.1 hb with hb | hb
  ·exact h5 b 5 2 (h.box b hb)
  ·rw [List.mem_singleton.1 hb]; exact h1
 ·rw [List.nodup_append]
  refine ⟨h.nd,by simp,fun x hx y hy e => ?_⟩
  rw [List.mem_singleton.1 hy] at e
  subst e
  exact h2 (h.box x hx).obj6
 ·rcases List.mem_append.1 hb with hb | hb
  ·rw [h7 b 5 2 j (h.box b hb) hj0 hj1]; exact h.zero b hb j hj0 hj1
  ·rw [List.mem_singleton.1 hb]; exact h4 j hj0 hj1
 ·rw [h3,h.cnt,List.length_append]; rfl
theorem Grown.chn {R : List Rw} {ws l : List Int} (h : Grown R ws l) : Chn R ws l (fun _ => False) :=
 ⟨h.box,h.nd,fun a ha => .ok 5 2 0 (h.box a ha) (by omega) (h.zero a ha 1 (by omega) (by omega)),fun _ _ _ k => k.elim⟩
def uu (e : Rw) : Nat := if e.2 = [] then 0 else 1
def ff (c : Int) (e : Rw) : Nat := if e.1 = c ∧ e.2 ≠ [] then 1 else 0
def sl_ (c : Int) (e : Rw) : Nat := if e.1 = c then e.2.count true else 0
def cnt (f : Rw → Nat) (R : List Rw) : Nat := (R.map f).sum
theorem cnt_set {f : Rw → Nat} {R : List Rw} {i : Nat} {e e' : Rw} (h : R[i]? = some e) : cnt f (R.set i e') + f e = cnt f R + f e' := by
 unfold cnt
 rw [List.map_set]
 exact sum_set _ _ _ _ (by rw [List.getElem?_map,h]; rfl)
theorem cnt_mul {f g : Rw → Nat} {k : Nat} : ∀ {R : List Rw},(∀ e ∈ R,f e = k * g e) → cnt f R = k * cnt g R
 | [],_ => rfl
 | e :: R,h => by
  have h1 := h e (List.mem_cons_self ..)
  have h2 := cnt_mul (R := R) fun x hx => h x (List.mem_cons_of_mem _ hx)
  unfold cnt at h2 ⊢
  simp only [List.map_cons,List.sum_cons]
  rw [h1,h2,Nat.mul_add]
theorem cnt_le2 {f g h : Rw → Nat} : ∀ {R : List Rw},(∀ e ∈ R,f e + g e ≤ h e) → cnt f R + cnt g R ≤ cnt h R
 | [],_ => Nat.le_refl _
 | e :: R,H => by
  have h1 := H e (List.mem_cons_self ..)
  have h2 := cnt_le2 (R := R) fun x hx => H x (List.mem_cons_of_mem _ hx)
  unfold cnt at h2 ⊢
  simp only [List.map_cons,List.sum_cons]
  omega
theorem cnt_uu : ∀ {R : List Rw},(∀ e ∈ R,e.2 ≠ []) → cnt uu R = R.length
 | [],_ => rfl
 | e :: R,h => by
  have h1 := h e (List.mem_cons_self ..)
  have h2 := cnt_uu (R := R) fun x hx => h x (List.mem_cons_of_mem _ hx)
  unfold cnt at h2 ⊢
  simp only [List.map_cons,List.sum_cons,List.length_cons]
  rw [h2]
  unfold uu
  rw [if_neg h1]
  omega
theorem slots_in (R : List Rw) : cnt (sl_ 0) R + cnt (sl_ 2) R ≤ objCount R := by
 have := cnt_le2 (f := sl_ 0) (g := sl_ 2) (h := fun e => e.2.count true) (R := R) (fun e _ => by
  unfold sl_
  by_cases h0 : e.1 = 0
  ·rw [if_pos h0,if_neg (by omega)]; exact Nat.le_refl _
  ·rw [if_neg h0]
   by_cases h2 : e.1 = 2
   ·rw [if_pos h2]; omega
   ·rw [if_neg h2]; omega)
 exact this
structure Rm (R : List Rw) : Prop where
 u : cnt uu R ≤ cnt (ff 0) R + cnt (ff 2) R
 a : 8 * cnt (ff 0) R ≤ cnt (sl_ 0) R + 7
 b : 2 * cnt (ff 2) R ≤ cnt (sl_ 2) R + 1
theorem Rm.new (n : Nat) : Rm (List.replicate n ((0,[]) : Rw)) := by
 have h : ∀ f : Rw → Nat,f (0,[]) = 0 → cnt f (List.replicate n ((0,[]) : Rw)) = 0 := by
  intro f hf
  unfold cnt
  rw [List.map_replicate,hf]
  induction n with
  | zero => rfl
  | succ n ih => rw [List.replicate_succ,List.sum_cons,ih]
 have e1 := h uu (by decide)
 have e2 := h (ff 0) (by decide)
 have e3 := h (ff 2) (by decide)
 exact ⟨by omega,by omega,by omega⟩
theorem count_full {m : List Bool} (h : false ∉ m) : m.count true = m.length := by
 rw [List.count_eq_length]
 intro b hb
 cases b with
 | true => rfl
 | false => exact absurd hb h
theorem Rm.alloced {R R' : List Rw} {c i s : Int} (hR : RowsOk R) (h : Rm R) (hc : c = 0 ∨ c = 2) (ha : Alloced R c i s true R') : Rm R' := by
 cases ha with
 | old i s l h0 hi hs h1 h2 =>
  have hne : l ≠ [] := by intro e; subst e; simp at hs
  have hne2 : l.set s true ≠ [] := by intro e; exact hne (by have := congrArg List.length e; rw [List.length_set] at this; exact List.eq_nil_of_length_eq_zero this)
  have hct := count_set hs
  have q1 := cnt_set (f := uu) (e' := (c,l.set s true)) hi
  have q2 := cnt_set (f := ff 0) (e' := (c,l.set s true)) hi
  have q3 := cnt_set (f := ff 2) (e' := (c,l.set s true)) hi
  have q4 := cnt_set (f := sl_ 0) (e' := (c,l.set s true)) hi
  have q5 := cnt_set (f := sl_ 2) (e' := (c,l.set s true)) hi
  have ha := h.a; have hb := h.b; have hu := h.u
  rcases hc with rfl | rfl
  ·simp [uu,ff,sl_,hne,hne2] at q1 q2 q3 q4 q5
   exact ⟨by omega,by omega,by omega⟩
  ·simp [uu,ff,sl_,hne,hne2] at q1 q2 q3 q4 q5
   exact ⟨by omega,by omega,by omega⟩
 | fresh i d h0 h2 hi h3 =>
  have hfull : ∀ k : Nat,slotsOf c = k → cnt (sl_ c) R = k * cnt (ff c) R := by
   intro k hk
   refine cnt_mul fun e he => ?_
   unfold sl_ ff
   by_cases h1 : e.1 = c
   ·rw [if_pos h1]
    by_cases h4 : e.2 = []
    ·rw [if_neg (fun q => q.2 h4),h4]; rfl
    ·rw [if_pos ⟨h1,h4⟩]
     obtain ⟨j,hj⟩ := List.getElem?_of_mem he
     have h5 := h2 j e.2 (by rw [hj,← h1])
     have h6 := (hR e he).2 h4
     rw [count_full h5,h6.2.1,h1,hk]; omega
   ·rw [if_neg h1,if_neg (fun q => h1 q.1)]; omega
  have ha := h.a; have hb := h.b; have hu := h.u
  rcases hc with rfl | rfl
  ·have q0 := hfull 8 rfl
   have q1 := cnt_set (f := uu) (e' := ((0 : Int),(List.replicate (slotsOf 0) false).set 0 true)) hi
   have q2 := cnt_set (f := ff 0) (e' := ((0 : Int),(List.replicate (slotsOf 0) false).set 0 true)) hi
   have q3 := cnt_set (f := ff 2) (e' := ((0 : Int),(List.replicate (slotsOf 0) false).set 0 true)) hi
   have q4 := cnt_set (f := sl_ 0) (e' := ((0 : Int),(List.replicate (slotsOf 0) false).set 0 true)) hi
   have q5 := cnt_set (f := sl_ 2) (e' := ((0 : Int),(List.replicate (slotsOf 0) false).set 0 true)) hi
   have k1 : uu ((0 : Int),(List.replicate (slotsOf 0) false).set 0 true) = 1 := by decide
   have k2 : ff 0 ((0 : Int),(List.replicate (slotsOf 0) false).set 0 true) = 1 := by decide
   have k3 : ff 2 ((0 : Int),(List.replicate (slotsOf 0) false).set 0 true) = 0 := by decide
   have k4 : sl_ 0 ((0 : Int),(List.replicate (slotsOf 0) false).set 0 true) = 1 := by decide
   have k5 : sl_ 2 ((0 : Int),(List.replicate (slotsOf 0) false).set 0 true) = 0 := by decide
   have k6 : ∀ c,ff c (d,[]) = 0 := fun c => by simp [ff]
   have k7 : ∀ c,sl_ c (d,[]) = 0 := fun c => by simp [sl_]
   have k8 : uu (d,[]) = 0 := by simp [uu]
   rw [k1,k8] at q1; rw [k2,k6] at q2; rw [k3,k6] at q3; rw [k4,k7] at q4; rw [k5,k7] at q5
   exact ⟨by omega,by omega,by omega⟩
  ·have q0 := hfull 2 rfl
   have q1 := cnt_set (f := uu) (e' := ((2 : Int),(List.replicate (slotsOf 2) false).set 0 true)) hi
   have q2 := cnt_set (f := ff 0) (e' := ((2 : Int),(List.replicate (slotsOf 2) false).set 0 true)) hi
   have q3 := cnt_set (f := ff 2) (e' := ((2 : Int),(List.replicate (slotsOf 2) false).set 0 true)) hi
   have q4 := cnt_set (f := sl_ 0) (e' := ((2 : Int),(List.replicate (slotsOf 2) false).set 0 true)) hi
   have q5 := cnt_set (f := sl_ 2) (e' := ((2 : Int),(List.replicate (slotsOf 2) false).set 0 true)) hi
   have k1 : uu ((2 : Int),(List.replicate (slotsOf 2) false).set 0 true) = 1 := by decide
   have k2 : ff 0 ((2 : Int),(List.replicate (slotsOf 2) false).set 0 true) = 0 := by decide
   have k3 : ff 2 ((2 : Int),(List.replicate (slotsOf 2) false).set 0 true) = 1 := by decide
   have k4 : sl_ 0 ((2 : Int),(List.replicate (slotsOf 2) false).set 0 true) = 0 := by decide
   have k5 : sl_ 2 ((2 : Int),(List.replicate (slotsOf 2) false).set 0 true) = 1 := by decide
   have k6 : ∀ c,ff c (d,[]) = 0 := fun c => by simp [ff]
   have k7 : ∀ c,sl_ c (d,[]) = 0 := fun c => by simp [sl_]
   have k8 : uu (d,[]) = 0 := by simp [uu]
   rw [k1,k8] at q1; rw [k2,k6] at q2; rw [k3,k6] at q3; rw [k4,k7] at q4; rw [k5,k7] at q5
   exact ⟨by omega,by omega,by omega⟩
theorem Rm.alloc {R R' : List Rw} {ws ws' : List Int} {kind n a e : Int} (hA : AOk R ws) (h : Rm R) (hn : ofN n = 0 ∨ ofN n = 2) (hk : 0 ≤ n ∧ n ≤ 31 ∧ 1 ≤ kind ∧ kind ≤ 6) (hr : objCount R ≤ 53) (hl : 29 ≤ R.length) (hs : Alloct R ws kind n a e R' ws') : e = 0 ∧ Rm R' := by
 cases hs with
 | arg h1 => exact absurd hk h1
 | room i s _ h1 ha =>
  exfalso
  cases ha with
  | no h0 => exact absurd h0 (ofN_slots n)
  | full h0 h2 h3 =>
   have hu := cnt_uu (R := R) (fun e he hE => by
    obtain ⟨j,hj⟩ := List.getElem?_of_mem he
    exact h3 j e.1 (by rw [hj,← hE]))
   have := slots_in R
   have := h.u; have := h.a; have := h.b
   omega
 | ok i s _ _ h1 ha hi hat => exact ⟨rfl,h.alloced hA.rows hn ha⟩
theorem nodup_le {l m : List Int} (h : l.Nodup) (hs : ∀ x ∈ l,x ∈ m) : l.length ≤ m.length := by
 induction l generalizing m with
 | nil => exact Nat.zero_le _
 | cons x l ih =>
  have hx := hs x (List.mem_cons_self ..)
  have hn := List.nodup_cons.1 h
  have := ih (m := m.erase x) hn.2 (fun y hy => (List.mem_erase_of_ne (show y ≠ x from fun e => hn.1 (e ▸ hy))).2 (hs y (List.mem_cons_of_mem _ hy)))
  have hl := List.length_erase_of_mem hx
  have hp : 0 < m.length := List.length_pos_of_mem hx
  simp only [List.length_cons]
  omega
theorem objs_nodup {R : List Rw} (hR : RowsOk R) : (objs R).Nodup := by
 rw [List.nodup_iff_pairwise_ne,List.pairwise_iff_getElem]
 intro i j hi hj hij
 have := objs_lt hR hij (List.getElem?_eq_getElem hi) (List.getElem?_eq_getElem hj)
 omega
theorem Cyc.left0 {R0 R : List Rw} {ws C G A K X : List Int} {ov : Bool} {ph sp N : Int} (hA : AOk R0 ws) (hN : N = R0.length) (h : Cyc R0 R ws C G ov ph sp N A K X) (hp : ph = 0) : ∀ x,x ∈ objs R ↔ Rch R0 ws (A ++ K) x := by
 rcases h with ⟨q,_⟩ | ⟨q,_⟩ | ⟨_,h⟩
 ·omega
 ·omega
 ·intro x
  rw [h.rest x,h.go x]
  constructor
  ·rintro ⟨h1,h2⟩
   refine Classical.byContradiction fun k => h2 ⟨h1,(h.done.iff x h1).2 k,by have := obj_bd hA h1; omega⟩
  ·intro hr
   exact ⟨hr.obj,fun k => (h.done.iff x hr.obj).1 k.2.1 hr⟩
structure Ov (R : List Rw) (ws g kp : List Int) : Prop where
 ob : ∀ b ∈ kp,b ∈ objs R
 nd : kp.Nodup
 wd : ∀ a i x,Loaded R ws a i x 0 → x = 0 ∨ ∃ b ∈ kp,x = b * 2 + 1
 bx : ∀ a l x,Kept R ws a 5 l → Loaded R ws a 1 x 0 → x = 0
 gk : ∀ b ∈ g,b ∈ kp ∧ Kept R ws b 4 10
 kr : ∀ b ∈ kp,b ∈ g ∨ ∃ r ∈ g,∃ i,Loaded R ws r i (b * 2 + 1) 0
theorem Ov.rch {R : List Rw} {ws g kp : List Int} (h : Ov R ws g kp) : ∀ x,Rch R ws g x ↔ x ∈ kp := by
 intro x
 constructor
 ·intro hr
  cases hr with
  | root a hg _ => exact (h.gk _ hg).1
  | next a b _ hl =>
   obtain ⟨i,w,hw,h1,hb,ho⟩ := hl
   rcases h.wd a i w hw with q | ⟨c,hc,q⟩
   ·omega
   ·have : c = x := by omega
    rw [← this]; exact hc
 ·intro hx
  rcases h.kr x hx with hg | ⟨r,hr,i,hl⟩
  ·exact .root x hg (h.ob x hx)
  ·exact .next r x (.root r hr (h.ob r (h.gk r hr).1)) ⟨i,_,hl,by omega,by omega,h.ob x hx⟩
theorem Ov.nodue {R : List Rw} {ws g kp C : List Int} (h : Ov R ws g kp) (a : Int) : ¬ Due R ws C a := by
 rintro ⟨⟨l,hK⟩,_,x,hx,hx0⟩
 exact hx0 (h.bx a l x hK hx)
theorem alloct_load {R R' : List Rw} {ws ws' : List Int} {kind n a e : Int} (hA : AOk R ws) (hs : Alloct R ws kind n a e R' ws') (he : e = 0) :
  (∀ b i x,Loaded R' ws' b i x 0 → (b = a ∧ x = 0) ∨ Loaded R ws b i x 0) ∧ (∀ b i x,Loaded R ws b i x 0 → Loaded R' ws' b i x 0) ∧ (∀ b k l,Kept R' ws' b k l → (b = a ∧ k = kind) ∨ Kept R ws b k l) := by
 obtain ⟨h1,h2,_,h4,h5,h6,h7⟩ := alloct_ok hA hs he
 have hk : ∀ b k l,b ≠ a → Kept R' ws' b k l → Kept R ws b k l := by
  intro b k l hne hK
  rcases h6 b hK.obj6 with q | q
  ·exact absurd q hne
  ·obtain ⟨k2,l2,hK2⟩ := Kept.of hA q
   obtain ⟨e1,e2⟩ := (h5 b k2 l2 hK2).det9 hK
   rw [← e1,← e2]; exact hK2
 refine ⟨fun b i x hl => ?_,fun b i x hl => ?_,fun b k l hK => ?_⟩
 ·cases hl with
  | ok k l _ hK hi hx =>
   by_cases e : b = a
   ·subst e
    obtain ⟨_,e2⟩ := hK.det9 h1
    have := h4 i hi.1 (by omega)
    rw [hx] at this
    exact .inl ⟨rfl,Option.some.inj this⟩
   ·have hK0 := hk b k l e hK
    exact .inr (.ok k l x hK0 hi (by rw [← h7 b k l i hK0 hi.1 hi.2]; exact hx))
 ·cases hl with
  | ok k l _ hK hi hx => exact .ok k l x (h5 b k l hK) hi (by rw [h7 b k l i hK hi.1 hi.2]; exact hx)
 ·by_cases e : b = a
  ·subst e
   exact .inl ⟨rfl,(hK.det9 h1).1⟩
  ·exact .inr (hk b k l e hK)
theorem Ov.alloc {R R' : List Rw} {ws ws' g kp : List Int} {kind n a e : Int} (hA : AOk R ws) (h : Ov R ws g kp) (hs : Alloct R ws kind n a e R' ws') (he : e = 0) : Ov R' ws' g kp ∧ a ∉ kp ∧ a ∈ objs R' ∧ Kept R' ws' a kind n := by
 obtain ⟨h1,h2,_,h4,h5,h6,h7⟩ := alloct_ok hA hs he
 obtain ⟨k1,k2,k3⟩ := alloct_load hA hs he
 have hA' := (hA.alloct hs).1
 have hup : ∀ b,b ∈ objs R → b ∈ objs R' := fun b hb => by
  obtain ⟨k,l,hK⟩ := Kept.of hA ((obj_iff hA b).1 hb)
  exact (obj_iff hA' b).2 (h5 b k l hK).obj6
 refine ⟨⟨fun b hb => hup b (h.ob b hb),h.nd,fun b i x hl => ?_,fun b l x hK hl => ?_,fun b hb => ⟨(h.gk b hb).1,h5 b 4 10 (h.gk b hb).2⟩,fun b hb => ?_⟩,fun k => h2 ((obj_iff hA a).1 (h.ob a k)),(obj_iff hA' a).2 h1.obj6,h1⟩
 ·rcases k1 b i x hl with ⟨_,q⟩ | q
  ·exact .inl q
  ·exact h.wd b i x q
 ·rcases k1 b 1 x hl with ⟨_,q⟩ | q
  ·exact q
  ·rcases k3 b 5 l hK with ⟨q2,_⟩ | q2
   ·exfalso
    cases q with
    | ok k l _ hK2 _ _ => exact h2 (q2 ▸ hK2.obj6)
   ·exact h.bx b l x q2 q
 ·rcases h.kr b hb with q | ⟨r,hr,i,q⟩
  ·exact .inl q
  ·exact .inr ⟨r,hr,i,k2 r i _ q⟩
theorem Ov.root {R : List Rw} {ws g kp : List Int} {a : Int} (h : Ov R ws g kp) (hn : a ∉ kp) (ho : a ∈ objs R) (hK : Kept R ws a 4 10) : Ov R ws (g ++ [a]) (kp ++ [a]) := by
 have hin : ∀ l : List Int,a ∈ l ++ [a] := fun l => List.mem_append_right _ (List.mem_singleton.2 rfl)
 refine ⟨fun b hb => ?_,?_,fun b i x hl => ?_,h.bx,fun b hb => ?_,fun b hb => ?_⟩
 ·rcases List.mem_append.1 hb with q | q
  ·exact h.ob b q
  ·rw [List.mem_singleton.1 q]; exact ho
 ·rw [List.nodup_append]
  refine ⟨h.nd,by simp,fun x hx y hy e => ?_⟩
  rw [List.mem_singleton.1 hy] at e
  exact hn (e ▸ hx)
 ·rcases h.wd b i x hl with q | ⟨c,hc,q⟩
  ·exact .inl q
  ·exact .inr ⟨c,List.mem_append_left _ hc,q⟩
 ·rcases List.mem_append.1 hb with q | q
  ·exact ⟨List.mem_append_left _ (h.gk b q).1,(h.gk b q).2⟩
  ·rw [List.mem_singleton.1 q]; exact ⟨hin _,hK⟩
 ·rcases List.mem_append.1 hb with q | q
  ·rcases h.kr b q with q | ⟨r,hr,i,q⟩
   ·exact .inl (List.mem_append_left _ q)
   ·exact .inr ⟨r,List.mem_append_left _ hr,i,q⟩
  ·rw [List.mem_singleton.1 q]; exact .inl (hin _)
theorem Ov.store {R : List Rw} {ws ws' g kp : List Int} {r a i e : Int} (hA : AOk R ws) (h : Ov R ws g kp) (hr : r ∈ g) (hn : a ∉ kp) (ho : a ∈ objs R) (hi : 0 ≤ i ∧ i < 10) (hz : Loaded R ws r i 0 0) (hs : Stored R ws r i (a * 2 + 1) e ws') : e = 0 ∧ Ov R ws' g (kp ++ [a]) ∧ ∀ j y,j ≠ i → Loaded R ws r j y 0 → Loaded R ws' r j y 0 := by
 have hK := (h.gk r hr).2
 obtain ⟨h1,h2,h3⟩ := stored_own hA hK hi hs
 obtain ⟨h4,h5⟩ := stored_to hA hs
 have hin : a ∈ kp ++ [a] := List.mem_append_right _ (List.mem_singleton.2 rfl)
 refine ⟨h1,⟨fun b hb => ?_,?_,fun b j x hl => ?_,fun b l x hK5 hl => ?_,fun b hb => ⟨List.mem_append_left _ (h.gk b hb).1,h4 b 4 10 (h.gk b hb).2⟩,fun b hb => ?_⟩,h3⟩
 ·rcases List.mem_append.1 hb with q | q
  ·exact h.ob b q
  ·rw [List.mem_singleton.1 q]; exact ho
 ·rw [List.nodup_append]
  refine ⟨h.nd,by simp,fun x hx y hy e => ?_⟩
  rw [List.mem_singleton.1 hy] at e
  exact hn (e ▸ hx)
 ·rcases stored_loaded hA hs hl with ⟨_,q⟩ | q
  ·exact .inr ⟨a,hin,q⟩
  ·rcases h.wd b j x q with q | ⟨c,hc,q⟩
   ·exact .inl q
   ·exact .inr ⟨c,List.mem_append_left _ hc,q⟩
 ·have hK0 := stored_kept hA hs b 5 l hK5
  have hne : b ≠ r := by
   rintro rfl
   have := (hK.det9 hK0).1
   omega
  cases hl with
  | ok k l2 _ hKK hj hx =>
   have hb2 := (stored_kept hA hs b k l2 hKK).bounds hA
   have hlen := hA.len
   have hx' : Loaded R ws b 1 x 0 := by
    obtain ⟨_,hw⟩ := stored_of hK hi hs
    obtain ⟨y,hy⟩ : ∃ y,ws[(b + 1 + 1).toNat]? = some y := ⟨_,List.getElem?_eq_getElem (by omega)⟩
    have hly : Loaded R ws b 1 y 0 := .ok k l2 y (stored_kept hA hs b k l2 hKK) hj hy
    have := loaded_one (h5 b 1 y hne hly) (.ok k l2 x hKK hj hx)
    rw [← this]; exact hly
   exact h.bx b l x hK0 hx'
 ·rcases List.mem_append.1 hb with q | q
  ·rcases h.kr b q with q | ⟨r2,hr2,j,q⟩
   ·exact .inl q
   ·refine .inr ⟨r2,hr2,j,?_⟩
    by_cases e1 : r2 = r
    ·subst e1
     by_cases e2 : j = i
     ·subst e2
      have := loaded_one hz q
      omega
     ·exact h3 j _ e2 q
    ·exact h5 r2 j _ e1 q
  ·rw [List.mem_singleton.1 q]; exact .inr ⟨r,hr,i,h2⟩
structure Hst where
 R : List Rw
 ws : List Int
 C : List Int
 G : List Int
 ov : Bool
 ph : Int
 sp : Int
 cy : Int
def Stp (W : Int) (s : Hst) (out : List Gn) (t : Hst) : Prop := Stepd s.R s.ws s.C s.G s.ov s.ph s.sp s.cy W out t.R t.ws t.C t.G t.ov t.ph t.sp t.cy
inductive Many (W : Int) (s : Hst) : Nat → List Gn → Hst → Prop
 | zero : Many W s 0 [] s
 | succ (n : Nat) (out o2 : List Gn) (t u : Hst) (h : Many W s n out t) (hp : t.ph ≠ 0) (hs : Stp W t o2 u) : Many W s (n + 1) (out ++ o2) u
structure Good (N : Int) (s : Hst) : Prop where
 a : AOk s.R s.ws
 n : N = s.R.length
 n1 : 1 ≤ N
 n2 : N ≤ 128
 c : (s.C.length : Int) = 32 * N
 i : s.ph = 0 ∨ CyI s.R s.C s.G s.ph s.sp 0 N
 p : 0 ≤ s.sp ∧ s.sp ≤ N
 y : 0 ≤ s.cy
def Hst.left (N : Int) (s : Hst) : Int := left_ s.R s.C s.ph s.sp N
theorem stepd_lenV {R R' : List Rw} {ws ws' C C' G G' : List Int} {ov ov' : Bool} {ph sp cy W p s y : Int} {out : List Gn} (h : Stepd R ws C G ov ph sp cy W out R' ws' C' G' ov' p s y) : out.length ≤ 32 := by
 cases h with
 | mark _ _ _ _ _ _ _ hp hm =>
  cases hm with
  | scan _ _ _ _ _ _ _ _ _ _ => exact Nat.zero_le _
  | keep _ _ _ _ _ _ _ _ _ _ _ _ _ => show 1 ≤ 32; omega
  | sweep _ _ _ _ => exact Nat.zero_le _
 | sweep _ _ hp hs => exact hs.le
 | idle _ _ => exact Nat.zero_le _
theorem stepd_numsV {R R' : List Rw} {ws C G ws' C' G' : List Int} {ov ov' : Bool} {ph sp cy W p s y : Int} {out : List Gn} (hsp : 0 ≤ sp) (hcy : 0 ≤ cy) (h : Stepd R ws C G ov ph sp cy W out R' ws' C' G' ov' p s y) : 0 ≤ s ∧ s ≤ sp + 1 ∧ 0 ≤ y ∧ y ≤ cy + 1 := by
 cases h with
 | mark _ _ _ _ _ _ _ _ hm => cases hm with
  | scan _ _ _ _ _ _ _ _ _ _ => exact ⟨hsp,by omega,hcy,by omega⟩
  | keep _ _ _ _ _ _ _ _ _ _ _ _ _ => exact ⟨hsp,by omega,hcy,by omega⟩
  | sweep _ _ _ _ => exact ⟨by omega,by omega,hcy,by omega⟩
 | sweep _ _ _ _ =>
  unfold swCy
  split <;> exact ⟨by omega,by omega,by omega,by omega⟩
 | idle _ _ => exact ⟨hsp,by omega,hcy,by omega⟩
theorem shade_lenV (R : List Rw) (ph a : Int) (s : List Int × List Int × Bool) : (shade R ph a s).1.length = s.1.length := by
 unfold shade
 split
 ·exact List.length_set ..
 ·rfl
theorem shadeW_lenV (R : List Rw) (ph w : Int) (s : List Int × List Int × Bool) : (shadeW R ph w s).1.length = s.1.length := by
 unfold shadeW
 split
 ·exact shade_lenV ..
 ·rfl
theorem fold_lenV (R : List Rw) (ph : Int) : ∀ (X : List Int) (s : List Int × List Int × Bool),(X.foldl (fun s w => shadeW R ph w s) s).1.length = s.1.length
 | [],s => rfl
 | w :: X,s => by rw [List.foldl_cons,fold_lenV R ph X,shadeW_lenV]
theorem swept_lenV {ws C : List Int} {R : List Rw} {p : Int} {n : Nat} {out : List Gn} {R' : List Rw} (hA : AOk R ws) (h : SweptTo ws C R p n out R') : AOk R' ws ∧ R'.length = R.length := by
 induction h with
 | zero => exact ⟨hA,rfl⟩
 | skip _ _ _ _ _ ih => exact ih
 | free i out R1 R2 k X h hw hk hX hf ih =>
  obtain ⟨h1,h2⟩ := ih.1.freet hf
  exact ⟨h1,by rw [h2]; exact ih.2⟩
theorem stepd_aok {R R' : List Rw} {ws ws' C C' G G' : List Int} {ov ov' : Bool} {ph sp cy W p s y : Int} {out : List Gn} (hA : AOk R ws) (hCl : (C.length : Int) = 32 * R.length) (h : Stepd R ws C G ov ph sp cy W out R' ws' C' G' ov' p s y) : AOk R' ws' ∧ R'.length = R.length ∧ C'.length = C.length := by
 cases h with
 | mark _ _ _ _ _ _ _ hp hm =>
  cases hm with
  | scan v A X _ _ o1 _ hg hX hs =>
   refine ⟨hA,rfl,?_⟩
   have hC : C' = (X.foldl (fun s w => shadeW R 1 w s) (C,A,o1)).1.set v.toNat 2 := congrArg Prod.fst hs
   rw [hC,List.length_set,fold_lenV]
  | keep a A X _ _ _ o1 _ hg hf hX hst hs =>
   have hC : C' = (shade R 1 a (C,A,o1)).1 := congrArg Prod.fst hs
   refine ⟨hA.stored (by omega) hst,rfl,by rw [hC,shade_lenV]⟩
  | sweep _ _ _ _ => exact ⟨hA,rfl,rfl⟩
 | sweep _ _ hp hs =>
  obtain ⟨h1,h2⟩ := swept_lenV hA hs
  exact ⟨h1,h2,rfl⟩
 | idle _ _ => exact ⟨hA,rfl,rfl⟩
theorem stepd_spV {R R' : List Rw} {ws ws' C C' G G' : List Int} {ov ov' : Bool} {ph sp cy W N p s y : Int} {out : List Gn} (h : CyI R C G ph sp cy N) (hs0 : 0 ≤ sp ∧ sp ≤ N) (hs : Stepd R ws C G ov ph sp cy W out R' ws' C' G' ov' p s y) : 0 ≤ s ∧ s ≤ N := by
 cases hs with
 | mark _ _ _ _ _ _ _ _ hm => cases hm with
  | scan _ _ _ _ _ _ _ _ _ _ => exact hs0
  | keep _ _ _ _ _ _ _ _ _ _ _ _ _ => exact hs0
  | sweep _ _ _ _ => exact ⟨Int.le_refl _,by omega⟩
 | sweep _ _ hp _ =>
  rcases h with ⟨q,_⟩ | ⟨_,_,h0,h1⟩ | ⟨q,_⟩
  ·omega
  ·exact ⟨by omega,by omega⟩
  ·omega
 | idle _ _ => exact hs0
theorem Stepd.cyV {R R' : List Rw} {ws ws' C C' G G' : List Int} {ov ov' : Bool} {ph sp cy W p s y : Int} {out : List Gn} (h : Stepd R ws C G ov ph sp cy W out R' ws' C' G' ov' p s y) : ∃ y0,Stepd R ws C G ov ph sp 0 W out R' ws' C' G' ov' p s y0 := by
 cases h with
 | mark _ _ _ _ _ _ _ hp hm => exact ⟨_,.mark _ _ _ _ _ _ _ hp hm⟩
 | sweep _ _ hp hs => exact ⟨_,.sweep _ _ hp hs⟩
 | idle h1 h2 => exact ⟨_,.idle h1 h2⟩
theorem Good.left0 {N : Int} {s : Hst} (h : Good N s) : 0 ≤ s.left N ∧ (s.ph ≠ 0 → 1 ≤ s.left N) := by
 have h1 := h.n1
 have h2 := h.p
 refine ⟨?_,fun hp => ?_⟩
 ·unfold Hst.left left_
  split
  ·omega
  ·split <;> omega
 ·have hI := h.i.resolve_left hp
  unfold Hst.left left_
  rcases hI with ⟨k,_⟩ | ⟨k,_,_,k2⟩ | ⟨k,_⟩
  ·rw [if_pos k]; omega
  ·rw [if_neg (by omega),if_pos k]; omega
  ·exact absurd k hp
theorem Good.step {N W : Int} {s t : Hst} {out : List Gn} (h : Good N s) (hW : W = 32 * N) (hp : s.ph ≠ 0) (hs : Stp W s out t) : Good N t ∧ t.left N < s.left N ∧ t.cy ≤ s.cy + 1 ∧ out.length ≤ 32 := by
 obtain ⟨y0,hs0⟩ := Stepd.cyV hs
 have hI := h.i.resolve_left hp
 have hn := h.n
 have hc := h.c
 obtain ⟨g1,g2,_⟩ := stepd_cy (at_ := []) h.a (by omega) h.n1 hW hI (fun x hx => by cases hx) hs0
 obtain ⟨a1,a2,a3⟩ := stepd_aok h.a (by omega) hs
 have hm := stepd_numsV h.p.1 h.y hs
 have hsp := stepd_spV hI h.p hs0
 refine ⟨⟨a1,by rw [a2]; exact hn,h.n1,h.n2,by rw [a3]; exact hc,?_,hsp,hm.2.2.1⟩,g2 hp,hm.2.2.2,stepd_lenV hs⟩
 rcases g1 with ⟨k1,k2,_⟩ | ⟨k1,_,k2⟩ | ⟨k,_⟩
 ·exact .inr (.inl ⟨k1,k2,rfl⟩)
 ·exact .inr (.inr (.inl ⟨k1,rfl,k2⟩))
 ·exact .inl k
theorem Many.good {N W : Int} {s t : Hst} {n : Nat} {out : List Gn} (hW : W = 32 * N) (h : Good N s) (hm : Many W s n out t) : Good N t ∧ t.left N + n ≤ s.left N ∧ t.cy ≤ s.cy + n ∧ out.length ≤ 32 * n := by
 induction hm with
 | zero => exact ⟨h,by omega,by omega,Nat.zero_le _⟩
 | succ n out o2 t u _ hp hs ih =>
  obtain ⟨h1,h2,h3,h4⟩ := ih.1.step hW hp hs
  refine ⟨h1,by omega,by omega,?_⟩
  rw [List.length_append]; omega
theorem objCount_le8 {R : List Rw} (hR : RowsOk R) : objCount R ≤ 8 * R.length := by
 unfold objCount
 induction R with
 | nil => exact Nat.zero_le _
 | cons e R ih =>
  have h1 := ih fun x hx => hR x (List.mem_cons_of_mem _ hx)
  have h2 := (hR e (List.mem_cons_self ..)).1
  have h3 := List.count_le_length (a := true) (l := e.2)
  rw [List.map_cons,List.sum_cons,List.length_cons]
  omega
theorem Good.left_le {N : Int} {s : Hst} (h : Good N s) : s.left N ≤ 17 * N + 1 := by
 have h1 := Go.Proofs.YtpbhcdbkmmjimaaGreatDoor.left_le (R := s.R) (C := s.C) (ph := s.ph) (sp := s.sp) (N := N) h.p.1 (by have := h.n1; omega)
 have h2 : ((objs s.R).length : Int) = objCount s.R := by unfold objs; rw [objs_length h.a.rows]
 have h3 := objCount_le8 h.a.rows
 have h4 := h.n
 unfold Hst.left
 omega
theorem Good.begin {N W : Int} {s : Hst} {A C' G' : List Int} {ov' : Bool} (h : Good N s) (hW : W = 32 * N) (hl : (C'.length : Int) = 32 * N) (hb : (C',G',ov') = begS s.R W A) : Good N ⟨s.R,s.ws,C',G',ov',1,s.sp,s.cy⟩ := by
 have hn := h.n
 have hc := Cy1.begin (ws := s.ws) h.a (by omega) hb
 exact ⟨h.a,h.n,h.n1,h.n2,hl,.inr (.inl ⟨rfl,hc.g,rfl⟩),h.p,h.y⟩
inductive Alls (s : Hst) : List (Int × Int) → List Int → Hst → Prop
 | nil : Alls s [] [] s
 | snoc (l : List (Int × Int)) (x : List Int) (t : Hst) (k n a : Int) (R : List Rw) (ws : List Int) (h : Alls s l x t) (ha : Alloct t.R t.ws k n a 0 R ws) : Alls s (l ++ [(k,n)]) (x ++ [a]) ⟨R,ws,allocC t.ph a 0 t.C,t.G,t.ov,t.ph,t.sp,t.cy⟩
structure More (s t : Hst) (x : List Int) : Prop where
 a : AOk t.R t.ws
 obj : ∀ b,b ∈ objs t.R ↔ b ∈ objs s.R ∨ b ∈ x
 new : ∀ b ∈ x,b ∉ objs s.R
 nd : x.Nodup
 cnt : objCount t.R = objCount s.R + x.length
 kept : ∀ b k l,Kept s.R s.ws b k l → Kept t.R t.ws b k l
 ld : ∀ b i w,Loaded s.R s.ws b i w 0 → Loaded t.R t.ws b i w 0
 dl : ∀ b i w,Loaded t.R t.ws b i w 0 → (b ∈ x ∧ w = 0) ∨ Loaded s.R s.ws b i w 0
 col : ∀ b ∈ objs s.R,t.C[b.toNat]? = s.C[b.toNat]?
 coln : ∀ b ∈ x,t.C[b.toNat]? = some (if s.ph = 0 then 0 else 2)
 g : t.G = s.G
 ov : t.ov = s.ov
 ph : t.ph = s.ph
 sp : t.sp = s.sp
 cy : t.cy = s.cy
 len : t.R.length = s.R.length
 cl : t.C.length = s.C.length
theorem More.refl {s : Hst} (hA : AOk s.R s.ws) : More s s [] :=
 ⟨hA,fun b => ⟨.inl,fun h => h.elim id (fun k => by cases k)⟩,fun b hb => (by cases hb),List.nodup_nil,rfl,fun _ _ _ h => h,fun _ _ _ h => h,fun _ _ _ h => .inr h,fun _ _ => rfl,fun b hb => (by cases hb),rfl,rfl,rfl,rfl,rfl,rfl,rfl⟩
theorem More.snoc {s t : Hst} {x : List Int} {N k n a : Int} {R : List Rw} {ws : List Int} (hN : N = s.R.length) (hc : (s.C.length : Int) = 32 * N) (h : More s t x) (ha : Alloct t.R t.ws k n a 0 R ws) : More s ⟨R,ws,allocC t.ph a 0 t.C,t.G,t.ov,t.ph,t.sp,t.cy⟩ (x ++ [a]) := by
 obtain ⟨h1,h2,h3,h4,h5,h6,h7⟩ := alloct_ok h.a ha rfl
 obtain ⟨l1,l2,l3⟩ := alloct_load h.a ha rfl
 obtain ⟨a1,a2⟩ := h.a.alloct ha
 have hna : a ∉ objs t.R := fun q => h2 ((obj_iff h.a a).1 q)
 have hb := h1.bounds a1
 have hlen := h.len
 have hcl := h.cl
 have hC : allocC t.ph a 0 t.C = t.C.set a.toNat (if t.ph = 0 then 0 else 2) := by unfold allocC; rw [if_pos rfl]
 have hne : ∀ b ∈ objs t.R,(t.C.set a.toNat (if t.ph = 0 then 0 else 2))[b.toNat]? = t.C[b.toNat]? := by
  intro b hb2
  refine List.getElem?_set_ne (fun e => hna ?_)
  have := obj_bd h.a hb2
  rw [show a = b by omega]; exact hb2
 refine ⟨a1,fun b => ?_,fun b hb2 => ?_,?_,?_,fun b k l hk => h5 b k l (h.kept b k l hk),fun b i w hl => l2 b i w (h.ld b i w hl),fun b i w hl => ?_,fun b hb2 => ?_,fun b hb2 => ?_,h.g,h.ov,h.ph,h.sp,h.cy,by rw [a2]; exact hlen,(allocC_length t.ph a 0 t.C).trans hcl⟩
 ·rw [List.mem_append,List.mem_singleton]
  constructor
  ·intro hb2
   rcases h6 b ((obj_iff a1 b).1 hb2) with e | e
   ·exact .inr (.inr e)
   ·exact ((h.obj b).1 ((obj_iff h.a b).2 e)).elim .inl (fun q => .inr (.inl q))
  ·rintro (hb2 | hb2 | rfl)
   ·obtain ⟨k',l',hk⟩ := Kept.of h.a ((obj_iff h.a b).1 ((h.obj b).2 (.inl hb2)))
    exact (obj_iff a1 b).2 (h5 b k' l' hk).obj6
   ·obtain ⟨k',l',hk⟩ := Kept.of h.a ((obj_iff h.a b).1 ((h.obj b).2 (.inr hb2)))
    exact (obj_iff a1 b).2 (h5 b k' l' hk).obj6
   ·exact (obj_iff a1 b).2 h1.obj6
 ·rcases List.mem_append.1 hb2 with q | q
  ·exact h.new b q
  ·rw [List.mem_singleton.1 q]; exact fun w => hna ((h.obj a).2 (.inl w))
 ·refine List.nodup_append.2 ⟨h.nd,by simp,fun p hp q hq e => hna ?_⟩
  rw [← List.mem_singleton.1 hq,← e]
  exact (h.obj p).2 (.inr hp)
 ·rw [show objCount (Hst.R _) = objCount R from rfl,h3,h.cnt,List.length_append]; rfl
 ·rcases l1 b i w hl with ⟨e,e2⟩ | e
  ·exact .inl ⟨by rw [e]; exact List.mem_append_right _ (List.mem_singleton.2 rfl),e2⟩
  ·rcases h.dl b i w e with ⟨e1,e2⟩ | e
   ·exact .inl ⟨List.mem_append_left _ e1,e2⟩
   ·exact .inr e
 ·show (allocC t.ph a 0 t.C)[b.toNat]? = _
  rw [hC,hne b ((h.obj b).2 (.inl hb2))]
  exact h.col b hb2
 ·show (allocC t.ph a 0 t.C)[b.toNat]? = _
  rw [hC]
  rcases List.mem_append.1 hb2 with q | q
  ·rw [hne b ((h.obj b).2 (.inr q))]; exact h.coln b q
  ·rw [List.mem_singleton.1 q,← h.ph]
   exact List.getElem?_set_self (by omega)
theorem Alls.more {s t : Hst} {l : List (Int × Int)} {x : List Int} {N : Int} (hA : AOk s.R s.ws) (hN : N = s.R.length) (hc : (s.C.length : Int) = 32 * N) (h : Alls s l x t) : More s t x ∧ x.length = l.length := by
 induction h with
 | nil => exact ⟨More.refl hA,rfl⟩
 | snoc l x t k n a R ws h ha ih => exact ⟨ih.1.snoc hN hc ha,by rw [List.length_append,List.length_append,ih.2]; rfl⟩
theorem More.good {N : Int} {s t : Hst} {x : List Int} (h : Good N s) (hm : More s t x) : Good N t := by
 refine ⟨hm.a,by rw [hm.len]; exact h.n,h.n1,h.n2,by rw [hm.cl]; exact h.c,?_,by rw [hm.sp]; exact h.p,by rw [hm.cy]; exact h.y⟩
 rw [hm.ph]
 refine h.i.imp id fun hI => ?_
 rcases hI with ⟨k,hg,_⟩ | ⟨k,_,k2⟩ | ⟨k,k2⟩
 ·refine .inl ⟨k,?_,rfl⟩
  rw [hm.g]
  exact ⟨fun x hx => (hm.obj x).2 (.inl (hg.obj x hx)),fun x hx => by rw [hm.col x (hg.obj x hx)]; exact hg.grey x hx,hg.once⟩
 ·exact .inr (.inl ⟨k,rfl,by rw [hm.sp]; exact k2⟩)
 ·omega
inductive Backs (R : List Rw) (x : List Int) : Nat → List Rw → Prop
 | zero : Backs R x x.length R
 | next (i : Nat) (a e : Int) (R1 R2 : List Rw) (h : Backs R x (i + 1) R1) (ha : x[i]? = some a) (hf : Freet R1 a e R2) : Backs R x i R2
theorem Backs.facts {R R' : List Rw} {ws x : List Int} {i : Nat} (hA : AOk R ws) (hx : ∀ a ∈ x,a ∈ objs R) (hd : x.Nodup) (h : Backs R x i R') : AOk R' ws ∧ R'.length = R.length ∧ i ≤ x.length ∧ (∀ b w,ObjAt R' b w ↔ ObjAt R b w ∧ b ∉ x.drop i) ∧ objCount R' + (x.length - i) = objCount R := by
 induction h with
 | zero => exact ⟨hA,rfl,Nat.le_refl _,fun b w => ⟨fun k => ⟨k,by rw [List.drop_length]; exact fun q => by cases q⟩,fun k => k.1⟩,by omega⟩
 | next i a e R1 R2 h ha hf ih =>
  obtain ⟨i1,i2,i3,i4,i5⟩ := ih
  have hil := (List.getElem?_eq_some_iff.1 ha).1
  have hdr : x.drop i = a :: x.drop (i + 1) := by rw [List.drop_eq_getElem_cons hil,(List.getElem?_eq_some_iff.1 ha).2]
  have hnd : a ∉ x.drop (i + 1) := by
   have := hd.sublist (List.drop_sublist i x)
   rw [hdr] at this
   exact (List.nodup_cons.1 this).1
  have hao : IsObj R1 a := by
   obtain ⟨w,hw⟩ := isObj_iff.1 ((obj_iff hA a).1 (hx a (List.mem_of_getElem? ha)))
   exact isObj_iff.2 ⟨w,(i4 a w).2 ⟨hw,hnd⟩⟩
  cases hf with
  | none hno => exact absurd hao hno
  | ok q s e he hs hat =>
   obtain ⟨f1,f2,f3,f4⟩ := free_objs i1.rows he hs a hat
   refine ⟨⟨f1,by rw [f2]; exact i1.len,i1.bd,fun b v hb => i1.hdr b v ((f4 b v).1 hb).1⟩,f2.trans i2,by omega,fun b w => ?_,by omega⟩
   rw [f4 b w,i4 b w,hdr,List.mem_cons]
   constructor
   ·rintro ⟨⟨k1,k2⟩,k3⟩; exact ⟨k1,fun q => q.elim k3 k2⟩
   ·rintro ⟨k1,k2⟩; exact ⟨⟨k1,fun q => k2 (.inr q)⟩,fun q => k2 (.inl q)⟩
inductive Allot (s : Hst) (l : List (Int × Int)) : Bool → List Int → Hst → Prop
 | ok (x : List Int) (t : Hst) (h : Alls s l x t) : Allot s l true x t
 | no (i : Nat) (k n a e : Int) (x : List Int) (t : Hst) (R R' : List Rw) (ws : List Int) (hi : l[i]? = some (k,n)) (h : Alls s (l.take i) x t) (ha : Alloct t.R t.ws k n a e R ws) (he : e ≠ 0) (hb : Backs t.R x 0 R') : Allot s l false [] ⟨R',t.ws,t.C,t.G,t.ov,t.ph,t.sp,t.cy⟩
theorem alloct_no {R R' : List Rw} {ws ws' : List Int} {k n a e : Int} (h : Alloct R ws k n a e R' ws') (he : e ≠ 0) : R' = R ∧ ws' = ws ∧ a = 0 := by
 cases h with
 | arg _ => exact ⟨rfl,rfl,rfl⟩
 | room i s _ _ ha => cases ha with
  | no _ => exact ⟨rfl,rfl,rfl⟩
  | full _ _ _ => exact ⟨rfl,rfl,rfl⟩
 | ok _ _ _ _ _ _ _ _ => exact absurd rfl he
theorem Backs.more {s t : Hst} {x : List Int} {R' : List Rw} (hA : AOk s.R s.ws) (h : More s t x) (hb : Backs t.R x 0 R') : More s ⟨R',t.ws,t.C,t.G,t.ov,t.ph,t.sp,t.cy⟩ [] := by
 obtain ⟨b1,b2,b3,b4,b5⟩ := hb.facts h.a (fun a ha => (h.obj a).2 (.inr ha)) h.nd
 have hk : ∀ b k l,b ∉ x → Kept t.R t.ws b k l → Kept R' t.ws b k l := by
  rintro b k l hn ⟨w,q1,q2,q3,q4,q5,q6⟩
  exact .mk k l w ((b4 b w).2 ⟨q1,by rw [List.drop_zero]; exact hn⟩) q2 q3 q4 q5 q6
 have hk2 : ∀ b k l,Kept R' t.ws b k l → b ∉ x ∧ Kept t.R t.ws b k l := by
  rintro b k l ⟨w,q1,q2,q3,q4,q5,q6⟩
  obtain ⟨p1,p2⟩ := (b4 b w).1 q1
  rw [List.drop_zero] at p2
  exact ⟨p2,.mk k l w p1 q2 q3 q4 q5 q6⟩
 have hobj : ∀ b,b ∈ objs R' ↔ b ∈ objs s.R := by
  intro b
  constructor
  ·intro hb2
   obtain ⟨k,l,q⟩ := Kept.of b1 ((obj_iff b1 b).1 hb2)
   obtain ⟨q1,q2⟩ := hk2 _ _ _ q
   exact ((h.obj b).1 ((obj_iff h.a b).2 q2.obj6)).resolve_right q1
  ·intro hb2
   obtain ⟨k,l,q⟩ := Kept.of h.a ((obj_iff h.a b).1 ((h.obj b).2 (.inl hb2)))
   exact (obj_iff b1 b).2 (hk _ _ _ (fun w => h.new b w hb2) q).obj6
 have hso : ∀ b k l,Kept s.R s.ws b k l → b ∉ x := fun b k l hb2 w => h.new b w ((obj_iff hA b).2 hb2.obj6)
 have hcnt := h.cnt
 refine ⟨b1,fun b => ?_,fun b hb2 => (by cases hb2),List.nodup_nil,?_,fun b k l hb2 => hk b k l (hso b k l hb2) (h.kept b k l hb2),fun b i w hl => ?_,fun b i w hl => ?_,h.col,fun b hb2 => (by cases hb2),h.g,h.ov,h.ph,h.sp,h.cy,b2.trans h.len,h.cl⟩
 ·rw [show (Hst.R ⟨R',t.ws,t.C,t.G,t.ov,t.ph,t.sp,t.cy⟩) = R' from rfl,hobj b]
  exact ⟨.inl,fun q => q.elim id (fun q => by cases q)⟩
 ·show objCount R' = objCount s.R + 0
  omega
 ·have hl2 := h.ld b i w hl
  cases hl with
  | ok k l _ hK hi hx =>
   cases hl2 with
   | ok k2 l2 _ hK2 hi2 hx2 => exact .ok k2 l2 w (hk b k2 l2 (hso b k l hK) hK2) hi2 hx2
 ·have hl2 : b ∉ x ∧ Loaded t.R t.ws b i w 0 := by
   cases hl with
   | ok k l _ hK hi hx => exact ⟨(hk2 _ _ _ hK).1,.ok k l w (hk2 _ _ _ hK).2 hi hx⟩
  rcases h.dl b i w hl2.2 with ⟨q,_⟩ | q
  ·exact absurd q hl2.1
  ·exact .inr q
theorem Allot.more {s t : Hst} {l : List (Int × Int)} {x : List Int} {b : Bool} {N : Int} (hA : AOk s.R s.ws) (hN : N = s.R.length) (hc : (s.C.length : Int) = 32 * N) (h : Allot s l b x t) : More s t x ∧ (b = true → x.length = l.length) := by
 cases h with
 | ok _ _ h => obtain ⟨h1,h2⟩ := h.more hA hN hc; exact ⟨h1,fun _ => h2⟩
 | no i k n a e y u R R' ws hi h ha he hb =>
  obtain ⟨h1,h2⟩ := h.more hA hN hc
  exact ⟨Backs.more hA h1 hb,fun q => by cases q⟩
theorem toTheEnd_lx (R : List Rw) (ws C G : List Int) (N W ph sp cy : Int) (L D Q : List PV) (z : ByteArray) (ov : Bool) (h : HM R ws C G N W L D Q z) (o : Unit → Obj) (ho : IsPow o) (hg : Good N ⟨R,ws,C,G,ov,ph,sp,cy⟩) (hcy : cy ≤ 900000000) :
  CallF (fun _ => Tryz.prog) 98 [.ptr 0 (.lit 0)] [hpA 0 1 5 6 3 W ph sp cy,hpB 1 2 4 3 W,hpC 2 3 137 2 N,hpP 3 L,hpP 4 D,hpF 5 z ov,hpP 6 Q,(7,.fix 0 o)] 8 (fun r h n => ∃ (out : List Gn) (m : Int) (cells : List PV) (k : Nat) (Rh : List Rw) (wh Ch Gh : List Int) (ovh : Bool) (sp2 cy2 : Int) (Lh Dh Qh : List PV) (zh : ByteArray),r = .sl 8 40 4 (.lit 0) (.sym m) ∧ h = [hpA 0 1 5 6 3 W 0 sp2 cy2,hpB 1 2 4 3 W,hpC 2 3 137 2 N,hpP 3 Lh,hpP 4 Dh,hpF 5 zh ovh,hpP 6 Qh,(7,.fix 0 o),hpP 8 cells] ∧ n = 9 ∧ HM Rh wh Ch Gh N W Lh Dh Qh zh ∧ cells = gpv out ∧ m = out.length ∧ Many W ⟨R,ws,C,G,ov,ph,sp,cy⟩ k out ⟨Rh,wh,Ch,Gh,ovh,0,sp2,cy2⟩) := by
 have hW := h.w
 have hN2 := hg.n2
 have hl0 := hg.left_le
 refine callF_of_body tok Tryz.func98 (by kernel_rfl) rfl rfl rfl ?_; conv => cbv
 refine LoopF.mk (fun kk s => ∃ (m ph2 : Int) (out : List Gn) (cells : List PV) (k : Nat) (Rh : List Rw) (wh Ch Gh : List Int) (ovh : Bool) (sp2 cy2 : Int) (Lh Dh Qh : List PV) (zh : ByteArray),s = ⟨.ptr 0 (.lit 0) :: (undefs 1 ++ .p .nils :: .sl 8 40 4 (.lit 0) (.sym m) :: undefs 8),[hpA 0 1 5 6 3 W ph2 sp2 cy2,hpB 1 2 4 3 W,hpC 2 3 137 2 N,hpP 3 Lh,hpP 4 Dh,hpF 5 zh ovh,hpP 6 Qh,(7,.fix 0 o),hpP 8 cells],9⟩ ∧ HM Rh wh Ch Gh N W Lh Dh Qh zh ∧ cells = gpv out ∧ m = out.length ∧ Many W ⟨R,ws,C,G,ov,ph,sp,cy⟩ k out ⟨Rh,wh,Ch,Gh,ovh,ph2,sp2,cy2⟩ ∧ kk = (Hst.left N ⟨Rh,wh,Ch,Gh,ovh,ph2,sp2,cy2⟩).toNat) (Hst.left N ⟨R,ws,C,G,ov,ph,sp,cy⟩).toNat _
  (Re.at [(0,0),(1,1),(2,2),(3,3),(4,4),(5,5),(6,6),(7,7)] [8]) ⟨0,ph,[],[],0,R,ws,C,G,ov,sp,cy,L,D,Q,z,rfl,h,rfl,rfl,.zero,rfl⟩ ?_
 rintro kk s ⟨m,ph2,out,cells,k,Rh,wh,Ch,Gh,ovh,sp2,cy2,Lh,Dh,Qh,zh,rfl,hh,hcells,hml,hm,hkk⟩
 obtain ⟨hgh,hlh,hch,hoh⟩ := hm.good hW hg
 have hgs0 : 0 ≤ sp2 := hgh.p.1
 have hgs1 : sp2 ≤ N := hgh.p.2
 have hgy : 0 ≤ cy2 := hgh.y
 have hch : cy2 ≤ cy + k := hch
 have hlb := hgh.left0
 conv => cbv
 refine cfr (phase_lx Rh wh Ch Gh N W ph2 sp2 cy2 Lh Dh Qh zh ovh) [(0,0),(1,1),(2,2),(3,3),(4,4),(5,5),(6,6)] (fun r h' n' ⟨e1,e2,e3⟩ => ?_)
 subst e1 e2 e3
 conv => cbv
 refine Br.mk (fun q2 => ?_) (fun q2 => ?_)
 case refine_2 =>
  have q2 : ph2 = 0 := Classical.byContradiction q2
  subst q2
  conv => cbv
  refine RetF.mk [.sl 8 40 4 (.lit 0) (.sym m)] [hpA 0 1 5 6 3 W 0 sp2 cy2,hpB 1 2 4 3 W,hpC 2 3 137 2 N,hpP 3 Lh,hpP 4 Dh,hpF 5 zh ovh,hpP 6 Qh,(7,.fix 0 o),hpP 8 cells] 9 (Re.at [(0,0),(1,1),(2,2),(3,3),(4,4),(5,5),(6,6),(7,7),(8,8)] []) rfl ⟨out,m,cells,k,Rh,wh,Ch,Gh,ovh,sp2,cy2,Lh,Dh,Qh,zh,rfl,rfl,rfl,hh,hcells,hml,hm⟩
 have q2 : ¬ ph2 = 0 := q2
 conv => cbv
 refine cfr (step_lx Rh wh Ch Gh N W ph2 sp2 cy2 Lh Dh Qh zh ovh hh o ho ⟨hgs0,by omega⟩ ⟨hgy,by omega⟩) [(0,0),(1,1),(2,2),(3,3),(4,4),(5,5),(6,6),(7,7)] (fun r h' n' hrr => ?_)
 obtain ⟨o2,kx,ph',sp',cy',R2,w2,C2,G2,ov2,cells',Lx,Dx,Qx,z2,e1,e2,e3,h2,hcs2,hkx,hst⟩ := hrr
 subst e1 e2 e3
 have hm2 := Many.succ k out o2 ⟨Rh,wh,Ch,Gh,ovh,ph2,sp2,cy2⟩ ⟨R2,w2,C2,G2,ov2,ph',sp',cy'⟩ hm q2 hst
 obtain ⟨hgg,hlt,hcl,hol⟩ := hm2.good hW hg
 have hg2l := hgg.left0.1
 have hlt2 : Hst.left N ⟨R2,w2,C2,G2,ov2,ph',sp',cy'⟩ < Hst.left N ⟨Rh,wh,Ch,Gh,ovh,ph2,sp2,cy2⟩ := (Good.step (t := ⟨R2,w2,C2,G2,ov2,ph',sp',cy'⟩) hgh hW q2 hst).2.1
 conv => cbv
 have hcl2 : cells'.length = 4 * o2.length := by rw [hcs2,gpv_length]
 have hcl1 : cells.length = 4 * out.length := by rw [hcells,gpv_length]
 rw [List.length_append] at hol
 refine Need.mk (by show (cells'.length : Int) = kx * 4; omega) ?_
 conv => cbv
 refine Room.new ⟨by show (cells.length : Int) = m * 4; omega,by show (m + kx) * 48 ≤ 140737488355328; omega,by show m + kx ≤ 9223372036854775807; omega⟩ ?_
 conv => cbv
 refine Upd.mk fun c2 hc2 => ?_
 have hc2 : c2 = gpv (out ++ o2) := by rw [show c2 = cells ++ cells' from hc2,hcells,hcs2,gpv_app]
 conv => cbv
 refine Sum.mk fun m2 hm3 => ?_
 have hm4 : m2 = ((out ++ o2).length : Int) := by rw [show m2 = m + kx from hm3,hml,hkx,List.length_append]; rfl
 conv => cbv
 refine Again.mk (Hst.left N ⟨R2,w2,C2,G2,ov2,ph',sp',cy'⟩).toNat _ (by omega) (Re.at [(0,0),(1,1),(2,2),(3,3),(4,4),(5,5),(6,6),(7,7),(9,8)] []) ⟨m2,ph',out ++ o2,c2,k + 1,R2,w2,C2,G2,ov2,sp',cy',Lx,Dx,Qx,z2,rfl,h2,hc2,hm4,hm2,rfl⟩
theorem loadedF_det {R : List Rw} {ws : List Int} {a i x y : Int} (h : Loaded R ws a i x 0) (h' : Loaded R ws a i y 0) : x = y := by
 cases h with
 | ok _ _ _ _ _ h1 =>
  cases h' with
  | ok _ _ _ _ _ h2 => rw [h1] at h2; exact Option.some.inj h2
structure Run (R : List Rw) (ws wh K : List Int) (out : List Gn) : Prop where
 ke : ∀ a k l,Kept R ws a k l → Kept R wh a k l
 w0 : ∀ a j y,j ≠ 1 → Loaded R ws a j y 0 → Loaded R wh a j y 0
 w1 : ∀ a y,a ∉ K → Loaded R ws a 1 y 0 → Loaded R wh a 1 y 0
 wk : ∀ a ∈ K,Loaded R wh a 1 0 0 ∧ (∃ l,Kept R ws a 5 l) ∧ ∃ y,Loaded R ws a 1 y 0 ∧ y ≠ 0
 nd : K.Nodup
 ou : ∀ g ∈ out,g.2.2.2 = true → g.2.1 ∈ K ∧ ∃ l,Kept R ws g.2.1 5 l ∧ (g.2.2.1.length : Int) = l ∧ ∀ (i : Nat) (x : Int),g.2.2.1[i]? = some x → (i ≠ 1 → Loaded R ws g.2.1 i x 0) ∧ (i = 1 → x ≠ 0)
theorem Run.start (R : List Rw) (ws : List Int) : Run R ws ws [] [] :=
 ⟨fun _ _ _ h => h,fun _ _ _ _ h => h,fun _ _ _ h => h,fun a h => (by cases h),List.nodup_nil,fun g h => (by cases h)⟩
theorem Run.kb {R : List Rw} {ws wh K : List Int} {out : List Gn} (hA : AOk R ws) (h : Run R ws wh K out) {a k l : Int} (hk : Kept R wh a k l) : Kept R ws a k l := by
 obtain ⟨k',l',h2⟩ := Kept.of hA hk.obj6
 obtain ⟨e1,e2⟩ := (h.ke _ _ _ h2).det9 hk
 subst e1 e2; exact h2
theorem Run.lb {R : List Rw} {ws wh K : List Int} {out : List Gn} (hA : AOk R ws) (h : Run R ws wh K out) {a j y : Int} (hj : j ≠ 1) (hl : Loaded R wh a j y 0) : Loaded R ws a j y 0 := by
 have hl0 := hl
 cases hl with
 | ok k l _ hK hi hx =>
  have hK2 := h.kb hA hK
  have hb := hK2.bounds hA
  have hlen := hA.len
  obtain ⟨v,hv⟩ : ∃ v,ws[(a + 1 + j).toNat]? = some v := ⟨_,List.getElem?_eq_getElem (by omega)⟩
  have h2 : Loaded R ws a j v 0 := .ok k l v hK2 hi hv
  rw [loadedF_det hl0 (h.w0 a j v hj h2)]; exact h2
theorem Run.skip {R : List Rw} {ws wh K : List Int} {out o2 : List Gn} (h : Run R ws wh K out) (ho : ∀ g ∈ o2,g.2.2.2 = false) : Run R ws wh K (out ++ o2) :=
 ⟨h.ke,h.w0,h.w1,h.wk,h.nd,fun g hg ht => by
  rcases List.mem_append.1 hg with q | q
  ·exact h.ou g q ht
  ·rw [ho g q] at ht; cases ht⟩
theorem Run.keep {R : List Rw} {ws wh w2 K Y C : List Int} {out : List Gn} {a e : Int} (hA : AOk R ws) (hAh : AOk R wh) (h : Run R ws wh K out) (hY : Wrds R wh a Y) (hS : Stored R wh a 1 0 e w2) (hD : Due R wh C a) : Run R ws w2 (K ++ [a]) (out ++ [(5,a,Y,true)]) := by
 obtain ⟨⟨l,hk⟩,_,x,hx,hx0⟩ := hD
 have hnk : a ∉ K := fun q => hx0 (loadedF_det hx (h.wk a q).1)
 have hi : (0 : Int) ≤ 1 ∧ 1 < l := by
  cases hx with
  | ok k2 l2 _ hK2 hi2 _ => have := (hK2.det9 hk).2; omega
 obtain ⟨s1,s2⟩ := stored_to hAh hS
 obtain ⟨_,o1,o2⟩ := stored_own hAh hk hi hS
 have hk0 := h.kb hA hk
 have hx2 : Loaded R ws a 1 x 0 := by
  have hb := hk0.bounds hA
  have hlen := hA.len
  obtain ⟨v,hv⟩ : ∃ v,ws[(a + 1 + 1).toNat]? = some v := ⟨_,List.getElem?_eq_getElem (by omega)⟩
  have h2 : Loaded R ws a 1 v 0 := .ok 5 l v hk0 hi hv
  rw [loadedF_det hx (h.w1 a v hnk h2)]; exact h2
 refine ⟨fun b k m hb => s1 _ _ _ (h.ke b k m hb),fun b j y hj hl => ?_,fun b y hb hl => ?_,fun b hb => ?_,?_,fun g hg ht => ?_⟩
 ·by_cases e : b = a
  ·subst e; exact o2 j y hj (h.w0 _ j y hj hl)
  ·exact s2 b j y e (h.w0 b j y hj hl)
 ·rw [List.mem_append,List.mem_singleton] at hb
  exact s2 b 1 y (fun q => hb (.inr q)) (h.w1 b y (fun q => hb (.inl q)) hl)
 ·rcases List.mem_append.1 hb with q | q
  ·obtain ⟨q1,q2⟩ := h.wk b q
   refine ⟨s2 b 1 0 (fun w => hnk (by rw [← w]; exact q)) q1,q2⟩
  ·rw [List.mem_singleton.1 q]
   exact ⟨o1,⟨l,hk0⟩,x,hx2,hx0⟩
 ·exact List.nodup_append.2 ⟨h.nd,by simp,fun p hp q hq w => hnk (by rw [← List.mem_singleton.1 hq,← w]; exact hp)⟩
 ·rcases List.mem_append.1 hg with q | q
  ·obtain ⟨q1,q2⟩ := h.ou g q ht
   exact ⟨List.mem_append_left _ q1,q2⟩
  ·rw [List.mem_singleton.1 q]
   refine ⟨List.mem_append_right _ (List.mem_singleton.2 rfl),l,hk0,?_,fun i y hy => ⟨fun hne => ?_,fun he => ?_⟩⟩
   ·have h1 := hY.1
    show (Y.length : Int) = l
    generalize hq : (Y.length : Int) = m at h1
    cases h1 with
    | no hno => exact absurd hk.obj6 hno
    | is k2 _ hK2 => exact (hK2.det9 hk).2
   ·exact h.lb hA (by omega) (hY.2 i y hy)
   ·have h1 := hY.2 i y hy
    rw [he] at h1
    have := loadedF_det h1 hx
    omega
theorem swept_count {ws C : List Int} {R : List Rw} {p : Int} {n : Nat} {out : List Gn} {R' : List Rw} (hR : RowsOk R) (h : SweptTo ws C R p n out R') : RowsOk R' ∧ objCount R' + out.length = objCount R := by
 induction h with
 | zero => exact ⟨hR,rfl⟩
 | skip _ _ _ _ _ ih => exact ih
 | free i out R1 R2 k X h hw hk hX hf ih =>
  obtain ⟨i1,i2⟩ := ih
  cases hf with
  | ok q s e he hs hat =>
   obtain ⟨f1,_,f3,_⟩ := free_objs i1 he hs _ hat
   refine ⟨f1,?_⟩
   rw [List.length_append]
   show _ + (out.length + 1) = _
   omega
theorem gone_kept (out : List Gn) : out.length = (keptOf out).length + (goneOf out).length := by
 induction out with
 | nil => rfl
 | cons g out ih =>
  unfold keptOf goneOf at *
  cases hg : g.2.2.2 with
  | true => simp [hg] at *; omega
  | false => simp [hg] at *; omega
theorem Stepd.count {R R' : List Rw} {ws ws' C C' G G' : List Int} {ov ov' : Bool} {ph sp cy W p s y : Int} {out : List Gn} (hA : AOk R ws) (h : Stepd R ws C G ov ph sp cy W out R' ws' C' G' ov' p s y) : objCount R' + (goneOf out).length = objCount R := by
 cases h with
 | mark _ _ _ _ _ _ _ hp hm =>
  cases hm with
  | scan _ _ _ _ _ _ _ _ _ _ => rfl
  | keep _ _ _ _ _ _ _ _ _ _ _ _ _ => rfl
  | sweep _ _ _ _ => rfl
 | sweep _ _ hp hs =>
  have f := hs.facts hA
  have hg : goneOf out = spots out := by
   unfold goneOf
   rw [List.filter_eq_self.2 (fun g hg => by rw [(f.each g hg).2.2]; decide)]
  have h2 := (swept_count hA.rows hs).2
  rw [hg,spots,List.length_map]; exact h2
 | idle _ _ => rfl
def Prot (s : Hst) (x : Int) : Prop := x ∈ objs s.R ∧ (s.ph ≠ 0 → s.C[x.toNat]? ≠ some 0)
theorem Prot.many {N W : Int} {s t : Hst} {n : Nat} {out : List Gn} {x : Int} (hW : W = 32 * N) (hg : Good N s) (h : Prot s x) (hm : Many W s n out t) : Prot t x := by
 induction hm with
 | zero => exact h
 | succ n out o2 t u hm hp hs ih => exact stepd_keep (hm.good hW hg).1.a ih hs
theorem Prot.more {s t : Hst} {x : List Int} {b : Int} (h : Prot s b) (hm : More s t x) : Prot t b := by
 refine ⟨(hm.obj b).2 (.inl h.1),fun hp => ?_⟩
 rw [hm.col b h.1]
 exact h.2 (by rw [← hm.ph]; exact hp)
theorem Prot.new {s t : Hst} {x : List Int} {b : Int} (hm : More s t x) (hb : b ∈ x) : Prot t b := by
 refine ⟨(hm.obj b).2 (.inr hb),fun hp => ?_⟩
 rw [hm.coln b hb,if_neg (by rw [← hm.ph]; exact hp)]
 exact fun q => absurd (Option.some.inj q) (by decide)
structure Bgn (W : Int) (s : Hst) (A : List Int) (t : Hst) : Prop where
 r : t.R = s.R
 w : t.ws = s.ws
 p : t.ph = 1
 q : t.sp = s.sp
 y : t.cy = s.cy
 l : (t.C.length : Int) = W
 b : (t.C,t.G,t.ov) = begS s.R W A
theorem Bgn.good {N W : Int} {s t : Hst} {A : List Int} (hW : W = 32 * N) (hg : Good N s) (h : Bgn W s A t) : Good N t := by
 have k := hg.begin hW (by rw [← hW]; exact h.l) h.b
 obtain ⟨h1,h2,h3,h4,h5,h6,h7⟩ := h
 cases t
 dsimp only at h1 h2 h3 h4 h5
 subst h1 h2 h3 h4 h5
 exact k
theorem Bgn.cy1 {N W : Int} {s t : Hst} {A : List Int} (hW : W = 32 * N) (hg : Good N s) (h : Bgn W s A t) : Cy1 t.R t.ws t.C t.G t.ov A := by
 have hn := hg.n
 rw [h.r,h.w]
 exact Cy1.begin (W := W) hg.a (by omega) h.b
theorem Bgn.prot {N W : Int} {s t : Hst} {A : List Int} {a : Int} (hW : W = 32 * N) (hg : Good N s) (h : Bgn W s A t) (ha : a ∈ A) (ho : a ∈ objs s.R) : Prot t a :=
 ⟨by rw [h.r]; exact ho,fun _ => (h.cy1 hW hg).rt a ha (by rw [h.r]; exact ho)⟩
theorem Many.idle {W : Int} {s t : Hst} {n : Nat} {out : List Gn} (hp : s.ph = 0) (hm : Many W s n out t) : n = 0 ∧ out = [] ∧ t = s := by
 induction hm with
 | zero => exact ⟨rfl,rfl,rfl⟩
 | succ n out o2 t u _ hp2 _ ih => exact absurd (by rw [ih.2.2]; exact hp) hp2
theorem keptOf_app (a b : List Gn) : keptOf (a ++ b) = keptOf a ++ keptOf b := by unfold keptOf; rw [List.filter_append,List.map_append]
theorem goneOf_app (a b : List Gn) : goneOf (a ++ b) = goneOf a ++ goneOf b := by unfold goneOf; rw [List.filter_append,List.map_append]
theorem none_of {out : List Gn} (h1 : keptOf out = []) (h2 : goneOf out = []) : out = [] := by
 have := gone_kept out
 rw [h1,h2] at this
 exact List.eq_nil_of_length_eq_zero this
theorem Many.cyc {N W : Int} {s t : Hst} {n : Nat} {out : List Gn} {A : List Int} (hW : W = 32 * N) (hg : Good N s) (hp : s.ph = 1) (hb : Cy1 s.R s.ws s.C s.G s.ov A) (hm : Many W s n out t) : Cyc s.R t.R t.ws t.C t.G t.ov t.ph t.sp N A (keptOf out) (goneOf out) ∧ Run s.R s.ws t.ws (keptOf out) out ∧ objCount t.R + (goneOf out).length = objCount s.R := by
 induction hm with
 | zero => exact ⟨.inl ⟨hp,rfl,rfl,by rw [show A ++ keptOf [] = A from List.append_nil _]; exact hb⟩,Run.start _ _,rfl⟩
 | succ n out o2 t u hm hp2 hs ih =>
  obtain ⟨hcyc,hrun,hcnt⟩ := ih
  have hgt := (hm.good hW hg).1
  have hI := hgt.i.resolve_left hp2
  have hc := hgt.c
  have hn := hgt.n
  have hcc := hcyc.stepd hgt.a hn hW (by omega) hgt.p (fun hp => by rcases hI with ⟨k,_⟩ | ⟨_,_,_,k⟩ | ⟨k,_⟩ <;> omega) hs
  have hct := Stepd.count hgt.a hs
  obtain ⟨hcy2,_,hc3⟩ := hcc
  rw [keptOf_app,goneOf_app]
  refine ⟨hcy2,?_,by rw [List.length_append]; omega⟩
  rcases hc3 with ⟨hw,hk0⟩ | ⟨hp,a,Y,hout,hY,hSt,hD⟩
  ·rw [hw,hk0,List.append_nil]
   refine hrun.skip (fun g hg => ?_)
   cases hgb : g.2.2.2 with
   | false => rfl
   | true =>
    have : g.2.1 ∈ keptOf o2 := List.mem_map.2 ⟨g,List.mem_filter.2 ⟨hg,hgb⟩,rfl⟩
    rw [hk0] at this; cases this
  ·have hRR : t.R = s.R := by rcases hcyc with ⟨_,e,_⟩ | ⟨k,_⟩ | ⟨k,_⟩ <;> first | exact e | omega
   have hAh := hgt.a
   rw [hRR] at hY hSt hD hAh
   rw [hout]
   exact hrun.keep hg.a hAh hY hSt hD
theorem Many.count {N W : Int} {s t : Hst} {n : Nat} {out : List Gn} (hW : W = 32 * N) (hg : Good N s) (hm : Many W s n out t) : objCount t.R + (goneOf out).length = objCount s.R := by
 induction hm with
 | zero => rfl
 | succ n out o2 t u hm hp2 hs ih =>
  have hct := Stepd.count (hm.good hW hg).1.a hs
  rw [goneOf_app,List.length_append]
  omega
def Nf (R : List Rw) (ws : List Int) : Prop := ∀ a l x,Kept R ws a 5 l → Loaded R ws a 1 x 0 → x = 0
theorem loaded_to {R R' : List Rw} {ws ws' : List Int} (hk : ∀ b k l,Kept R' ws' b k l → Kept R ws b k l) (hw : ws' = ws) {b i x : Int} (h : Loaded R' ws' b i x 0) : Loaded R ws b i x 0 := by
 cases h with
 | ok k l _ hK hi hx => exact .ok k l x (hk _ _ _ hK) hi (by rw [← hw]; exact hx)
theorem kept_to {R R' : List Rw} {ws ws' : List Int} (hA : AOk R' ws') (hk : ∀ b k l,Kept R' ws' b k l → Kept R ws b k l) {b k l : Int} (hb : b ∈ objs R') (h : Kept R ws b k l) : Kept R' ws' b k l := by
 obtain ⟨k2,l2,h2⟩ := Kept.of hA ((obj_iff hA b).1 hb)
 obtain ⟨e1,e2⟩ := (hk _ _ _ h2).det9 h
 rw [← e1,← e2]; exact h2
theorem loaded_fw {R R' : List Rw} {ws ws' : List Int} (hA : AOk R' ws') (hk : ∀ b k l,Kept R' ws' b k l → Kept R ws b k l) (hw : ws' = ws) {b i x : Int} (hb : b ∈ objs R') (h : Loaded R ws b i x 0) : Loaded R' ws' b i x 0 := by
 cases h with
 | ok k l _ hK hi hx => exact .ok k l x (kept_to hA hk hb hK) hi (by rw [hw]; exact hx)
theorem stepd_nf {R R' : List Rw} {ws ws' C C' G G' : List Int} {ov ov' : Bool} {ph sp cy W p s y : Int} {out : List Gn} (hA : AOk R ws) (h : Nf R ws) (hs : Stepd R ws C G ov ph sp cy W out R' ws' C' G' ov' p s y) : ws' = ws ∧ keptOf out = [] := by
 cases hs with
 | mark _ _ _ _ _ _ _ hp hm =>
  cases hm with
  | scan _ _ _ _ _ _ _ _ _ _ => exact ⟨rfl,rfl⟩
  | keep a _ _ _ _ _ _ _ _ hf _ _ _ =>
   exfalso
   cases hf with
   | found i _ ha hd hn =>
    obtain ⟨⟨l,hk⟩,_,x,hx,hx0⟩ := hd
    exact hx0 (h a l x hk hx)
  | sweep _ _ _ _ => exact ⟨rfl,rfl⟩
 | sweep _ _ hp hs =>
  refine ⟨rfl,?_⟩
  have f := hs.facts hA
  unfold keptOf
  rw [List.filter_eq_nil_iff.2 (fun g hg => by rw [(f.each g hg).2.2]; decide)]
  rfl
 | idle _ _ => exact ⟨rfl,rfl⟩
structure Shr (s t : Hst) : Prop where
 w : t.ws = s.ws
 k : ∀ b k l,Kept t.R t.ws b k l → Kept s.R s.ws b k l
theorem Shr.refl (s : Hst) : Shr s s := ⟨rfl,fun _ _ _ h => h⟩
theorem Shr.trans {s t u : Hst} (h : Shr s t) (h2 : Shr t u) : Shr s u := ⟨h2.w.trans h.w,fun b k l q => h.k _ _ _ (h2.k _ _ _ q)⟩
theorem Shr.nf {s t : Hst} (h : Shr s t) (hn : Nf s.R s.ws) : Nf t.R t.ws := fun a l x h1 h2 => hn a l x (h.k _ _ _ h1) (loaded_to h.k h.w h2)
theorem Shr.obj {s t : Hst} (hA : AOk s.R s.ws) (hA2 : AOk t.R t.ws) (h : Shr s t) {b : Int} (hb : b ∈ objs t.R) : b ∈ objs s.R := by
 obtain ⟨k,l,hk⟩ := Kept.of hA2 ((obj_iff hA2 b).1 hb)
 exact (obj_iff hA b).2 (h.k _ _ _ hk).obj6
theorem Bgn.shr {W : Int} {s t : Hst} {A : List Int} (h : Bgn W s A t) : Shr s t := ⟨h.w,fun b k l q => by rw [h.r,h.w] at q; exact q⟩
theorem Many.nf {N W : Int} {s t : Hst} {n : Nat} {out : List Gn} (hW : W = 32 * N) (hg : Good N s) (h : Nf s.R s.ws) (hm : Many W s n out t) : Shr s t ∧ keptOf out = [] := by
 induction hm with
 | zero => exact ⟨Shr.refl _,rfl⟩
 | succ n out o2 t u hm hp hs ih =>
  have hA := (hm.good hW hg).1.a
  obtain ⟨h1,h2⟩ := stepd_nf hA (ih.1.nf h) hs
  refine ⟨ih.1.trans ⟨h1,stepd_kept hA hs⟩,?_⟩
  rw [keptOf_app,ih.2,h2]; rfl
theorem Many.whole {N W : Int} {s t u : Hst} {n : Nat} {out : List Gn} {A : List Int} (hW : W = 32 * N) (hg : Good N s) (hf : Nf s.R s.ws) (hb : Bgn W s A t) (hm : Many W t n out u) (hp : u.ph = 0) : ∀ x,x ∈ objs u.R ↔ Rch s.R s.ws A x := by
 have hgt := hb.good hW hg
 have hft := hb.shr.nf hf
 obtain ⟨hsh,hk0⟩ := hm.nf hW hgt hft
 obtain ⟨hc,_,_⟩ := hm.cyc hW hgt hb.p (hb.cy1 hW hg)
 rcases hc with ⟨k,_⟩ | ⟨k,_⟩ | ⟨_,h2⟩
 ·omega
 ·omega
 rw [hk0,List.append_nil,hb.r,hsh.w,hb.w] at h2
 intro x
 rw [h2.rest x,h2.go x]
 have hn := hg.n
 constructor
 ·rintro ⟨h3,h4⟩
  refine Classical.byContradiction fun k => h4 ⟨h3,(h2.done.iff x h3).2 k,?_⟩
  have := obj_bd hg.a h3
  omega
 ·intro hr
  exact ⟨hr.obj,fun q => (h2.done.iff x hr.obj).1 q.2.1 hr⟩
theorem rch_even {R : List Rw} {ws A : List Int} (h : ∀ a ∈ A,∀ i x,Loaded R ws a i x 0 → x % 2 = 0) {b : Int} (hb : Rch R ws A b) : b ∈ A := by
 induction hb with
 | root a ha _ => exact ha
 | next a b hr hl ih =>
  obtain ⟨i,x,hx,h1,_⟩ := hl
  have := h a ih i x hx
  omega
def Mono (c : Int) (R : List Rw) : Prop := ∀ e ∈ R,e.2 ≠ [] → e.1 = c
theorem Mono.new (c : Int) (n : Nat) : Mono c (List.replicate n (0,[])) := fun e he h => absurd (by rw [(List.mem_replicate.1 he).2]) h
theorem Mono.freet {c a e : Int} {R R' : List Rw} (h : Mono c R) (hf : Freet R a e R') : Mono c R' := by
 cases hf with
 | none _ => exact h
 | ok q s e he hs hat =>
  intro x hx hne
  rcases List.mem_or_eq_of_mem_set hx with k | k
  ·exact h x k hne
  ·have hec : e.1 = c := h e (List.mem_of_getElem? he) (fun w => by rw [w] at hs; cases hs)
   by_cases hc : List.count true (e.2.set s false) = 0
   ·rw [if_pos hc] at k
    exact absurd (by rw [k]) hne
   ·rw [if_neg hc] at k
    rw [k]; exact hec
theorem Mono.alloced {c i s : Int} {b : Bool} {R R' : List Rw} (h : Mono c R) (ha : Alloced R c i s b R') : Mono c R' := by
 cases ha with
 | no _ => exact h
 | old i s l _ hi _ _ _ =>
  intro x hx hne
  rcases List.mem_or_eq_of_mem_set hx with k | k
  ·exact h x k hne
  ·rw [k]
 | fresh i d _ _ hi _ =>
  intro x hx hne
  rcases List.mem_or_eq_of_mem_set hx with k | k
  ·exact h x k hne
  ·rw [k]
 | full _ _ _ => exact h
theorem Mono.alloct {k n a e : Int} {R R' : List Rw} {ws ws' : List Int} (h : Mono (ofN n) R) (ha : Alloct R ws k n a e R' ws') : Mono (ofN n) R' := by
 cases ha with
 | arg _ => exact h
 | room i s _ _ ha => exact h.alloced ha
 | ok i s _ _ _ ha _ _ => exact h.alloced ha
theorem Mono.swept {c p : Int} {n : Nat} {ws C : List Int} {R R' : List Rw} {out : List Gn} (h : Mono c R) (hs : SweptTo ws C R p n out R') : Mono c R' := by
 induction hs with
 | zero => exact h
 | skip _ _ _ _ _ ih => exact ih
 | free _ _ _ _ _ _ _ _ _ _ hf ih => exact ih.freet hf
theorem Mono.stepd {c : Int} {R R' : List Rw} {ws ws' C C' G G' : List Int} {ov ov' : Bool} {ph sp cy W p s y : Int} {out : List Gn} (h : Mono c R) (hs : Stepd R ws C G ov ph sp cy W out R' ws' C' G' ov' p s y) : Mono c R' := by
 cases hs with
 | mark _ _ _ _ _ _ _ _ _ => exact h
 | sweep _ _ _ hs => exact h.swept hs
 | idle _ _ => exact h
theorem Mono.many {c W : Int} {s t : Hst} {n : Nat} {out : List Gn} (h : Mono c s.R) (hm : Many W s n out t) : Mono c t.R := by
 induction hm with
 | zero => exact h
 | succ n out o2 t u hm hp hs ih => exact ih.stepd hs
theorem Mono.backs {c : Int} {R R' : List Rw} {x : List Int} {i : Nat} (h : Mono c R) (hb : Backs R x i R') : Mono c R' := by
 induction hb with
 | zero => exact h
 | next i a e R1 R2 hb ha hf ih => exact ih.freet hf
theorem sum_all {m : Nat} : ∀ {R : List Rw},(∀ e ∈ R,e.2.count true = m) → objCount R = m * R.length
 | [],_ => rfl
 | e :: R,h => by
  have h1 := sum_all (R := R) fun x hx => h x (List.mem_cons_of_mem _ hx)
  have h2 := h e (List.mem_cons_self ..)
  unfold objCount at h1 ⊢
  rw [List.map_cons,List.sum_cons,h1,h2,List.length_cons,Nat.mul_succ]
  omega
theorem sum_most {m : Nat} : ∀ {R : List Rw},(∀ e ∈ R,e.2.count true ≤ m) → objCount R ≤ m * R.length
 | [],_ => Nat.le_refl _
 | e :: R,h => by
  have h1 := sum_most (R := R) fun x hx => h x (List.mem_cons_of_mem _ hx)
  have h2 := h e (List.mem_cons_self ..)
  unfold objCount at h1 ⊢
  rw [List.map_cons,List.sum_cons,List.length_cons,Nat.mul_succ]
  omega
theorem Mono.le {c : Int} {R : List Rw} (hR : RowsOk R) (h : Mono c R) : objCount R ≤ slotsOf c * R.length := by
 refine sum_most fun e he => ?_
 by_cases hn : e.2 = []
 ·rw [hn]; exact Nat.zero_le _
 ·obtain ⟨_,h2,_⟩ := (hR e he).2 hn
  rw [← h e he hn,← h2]
  exact List.count_le_length
theorem Mono.full {c i s : Int} {R R' : List Rw} (hR : RowsOk R) (h : Mono c R) (hc : slotsOf c ≠ 0) (ha : Alloced R c i s false R') : objCount R = slotsOf c * R.length := by
 cases ha with
 | no h0 => exact absurd h0 hc
 | full _ h2 h3 =>
  refine sum_all fun e he => ?_
  obtain ⟨j,hj⟩ := List.getElem?_of_mem he
  have hn : e.2 ≠ [] := fun q => h3 j e.1 (by rw [hj,← q])
  have hec := h e he hn
  have hf := h2 j e.2 (by rw [hj,← hec])
  obtain ⟨_,h4,_⟩ := (hR e he).2 hn
  rw [← hec,← h4]
  refine List.count_eq_length.2 fun b hb => ?_
  cases b with
  | true => rfl
  | false => exact absurd hb hf
theorem Mono.err {R R' : List Rw} {ws ws' : List Int} {k n a e : Int} (hA : AOk R ws) (hm : Mono (ofN n) R) (hv : 0 ≤ n ∧ n ≤ 31 ∧ 1 ≤ k ∧ k ≤ 6) (h : Alloct R ws k n a e R' ws') : (e = 0 ∧ objCount R < slotsOf (ofN n) * R.length) ∨ (e ≠ 0 ∧ objCount R = slotsOf (ofN n) * R.length) := by
 have h' := h
 cases h with
 | arg q => exact absurd hv q
 | room i s _ _ ha => exact .inr ⟨by decide,hm.full hA.rows (ofN_slots n) ha⟩
 | ok i s _ _ _ ha _ _ =>
  refine .inl ⟨rfl,?_⟩
  have h1 := (alloct_ok hA h' rfl).2.2.1
  obtain ⟨a1,a2⟩ := hA.alloct h'
  have h2 := (hm.alloct h').le a1.rows
  rw [a2] at h2
  omega
def Val (p : Int × Int) : Prop := 0 ≤ p.2 ∧ p.2 ≤ 31 ∧ 1 ≤ p.1 ∧ p.1 ≤ 6
theorem Mono.alls {c : Int} {s t : Hst} {l : List (Int × Int)} {x : List Int} (h : Mono c s.R) (hl : ∀ p ∈ l,ofN p.2 = c) (ha : Alls s l x t) : Mono c t.R := by
 induction ha with
 | nil => exact h
 | snoc l x t k n a R ws ha hal ih =>
  have h1 := ih fun p hp => hl p (List.mem_append_left _ hp)
  have h2 : ofN n = c := hl (k,n) (List.mem_append_right _ (List.mem_singleton.2 rfl))
  subst h2
  exact h1.alloct hal
theorem Mono.allot {c N : Int} {s t : Hst} {l : List (Int × Int)} {x : List Int} {b : Bool} (hA : AOk s.R s.ws) (hN : N = s.R.length) (hc : (s.C.length : Int) = 32 * N) (hm : Mono c s.R) (hl : ∀ p ∈ l,Val p ∧ ofN p.2 = c) (h : Allot s l b x t) : Mono c t.R ∧ (b = true ↔ objCount s.R + l.length ≤ slotsOf c * s.R.length) := by
 cases h with
 | ok x t h =>
  have h1 := hm.alls (fun p hp => (hl p hp).2) h
  obtain ⟨h2,h3⟩ := h.more hA hN hc
  have h4 := h1.le h2.a.rows
  have h5 := h2.cnt
  have h6 := h2.len
  rw [h6] at h4
  exact ⟨h1,fun _ => by omega,fun _ => rfl⟩
 | no i k n a e y u R R' ws hi h ha he hb =>
  have hli := (List.getElem?_eq_some_iff.1 hi).1
  have h1 := hm.alls (fun p hp => (hl p (List.mem_of_mem_take hp)).2) h
  obtain ⟨h2,h3⟩ := h.more hA hN hc
  obtain ⟨v1,v2⟩ := hl (k,n) (List.mem_of_getElem? hi)
  have v2 : ofN n = c := v2
  subst v2
  have h5 := h2.cnt
  have h6 := h2.len
  rw [List.length_take] at h3
  refine ⟨h1.backs hb,⟨fun q => (by cases q),fun q => ?_⟩⟩
  exfalso
  rcases h1.err h2.a v1 ha with ⟨q1,_⟩ | ⟨_,q2⟩
  ·exact he q1
  ·rw [h6] at q2
   omega
theorem count_le {R R' : List Rw} (hR : RowsOk R) (hR' : RowsOk R') (h : ∀ x ∈ objs R,x ∈ objs R') : objCount R ≤ objCount R' := by
 have h1 : (objs R).Nodup := (objsTo_asc hR _).imp fun q => by omega
 have h2 := nodup_le h1 h
 have e1 : (objs R).length = objCount R := objs_length hR
 have e2 : (objs R').length = objCount R' := objs_length hR'
 omega
theorem nodup_cnt {l : List Int} {R : List Rw} (hR : RowsOk R) (hl : l.Nodup) (h : ∀ x ∈ l,x ∈ objs R) : l.length ≤ objCount R := by
 have h2 := nodup_le hl h
 have e1 : (objs R).length = objCount R := objs_length hR
 omega
end Go.Proofs.YtpbhcdbkmmjimaaGreatDoor
