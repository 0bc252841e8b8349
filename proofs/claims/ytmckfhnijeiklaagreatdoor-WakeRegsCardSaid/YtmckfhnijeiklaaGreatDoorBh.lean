/-
  The ground of the proof, part 8: the calculus and what is proved with it.
-/
import Derived.Test.YtmckfhnijeiklaaGreatDoorBg
import Derived.Test.YtmckfhnijeiklaaGreatDoorBc
import Derived.Test.YtmckfhnijeiklaaGreatDoorBd
namespace Go.Proofs.YtmckfhnijeiklaaGreatDoor
open Go Go.LX
set_option maxRecDepth 100000
set_option linter.unusedVariables false
set_option linter.unusedSimpArgs false
set_option maxHeartbeats 32000000
theorem lends_lx (y0 y1 y2 y3 y4 y5 y6 y7 y8 : Int) (d : Bool) : CallF (fun _ => Tryz.prog) 55 [.agg [i6 y0,i6 y1,i6 y2,i6 y3,i6 y4,i6 y5,i6 y6,i6 y7,i6 y8],.p (.bool d)] [] 0 (fun r h n => (∃ a b : Int,r = .tup [i6 a,i6 b] ∧ a = (if d then y7 else y5) ∧ b = (if d then y8 else y6)) ∧ h = [] ∧ n = 0) := by
 cases d with
 | false =>
  refine callF_of_body tok Tryz.func55 (by kernel_rfl) rfl rfl rfl ?_; conv => cbv
  refine drawn_sound tok (by kernel_rfl) [] [0,1,2,3,4,5] (by kernel_rfl) ?_; conv => cbv
  refine RetF.mk [i6 y5,i6 y6] [] 0 (Re.at [] []) rfl ⟨⟨y5,y6,rfl,rfl,rfl⟩,rfl,rfl⟩
 | true =>
  refine callF_of_body tok Tryz.func55 (by kernel_rfl) rfl rfl rfl ?_; conv => cbv
  refine drawn_sound tok (by kernel_rfl) [] [0,1,2,3,4,5] (by kernel_rfl) ?_; conv => cbv
  refine RetF.mk [i6 y7,i6 y8] [] 0 (Re.at [] []) rfl ⟨⟨y7,y8,rfl,rfl,rfl⟩,rfl,rfl⟩
inductive Wtg (M : Hp) (a : Int) : LV → Prop
 | is (y0 y1 y2 y3 y4 y5 y6 : Int) (h : M a = some (3,[y0,y1,y2,y3,y4,y5,y6])) : Wtg M a (.iface 50 (.agg [i6 y0,i6 y1,i6 y2,i6 y3,i6 y4,i6 y5,i6 y6]))
 | no (h : ∀ F,M a ≠ some (3,F)) : Wtg M a (.iface 159 (.agg []))
theorem waiting_lx (R : List Rw) (ws C G : List Int) (N W ph sp cy : Int) (L D Q : List PV) (z : ByteArray) (ov : Bool) (h : HM R ws C G N W L D Q z) (M : Hp) (hM : Cont R ws M) (a : Int) (hs : ∀ F,M a = some (3,F) → ∃ y0 y1 y2 y3 y4 y5 y6,F = [y0,y1,y2,y3,y4,y5,y6]) : CallF (fun _ => Tryz.prog) 65 [.ptr 0 (.lit 0),i6 a] [hpA 0 1 5 6 3 W ph sp cy,hpB 1 2 4 3 W,hpC 2 3 127 2 N,hpP 3 L,hpP 4 D,hpF 5 z ov,hpP 6 Q] 7 (fun r h n => Wtg M a r ∧ h = [hpA 0 1 5 6 3 W ph sp cy,hpB 1 2 4 3 W,hpC 2 3 127 2 N,hpP 3 L,hpP 4 D,hpF 5 z ov,hpP 6 Q] ∧ n = 7) := by
 by_cases hq : ∃ F,M a = some (3,F)
 ·obtain ⟨F,hF⟩ := hq
  obtain ⟨y0,y1,y2,y3,y4,y5,y6,rfl⟩ := hs F hF
  refine callF_of_body tok Tryz.func65 (by kernel_rfl) rfl rfl rfl ?_; conv => cbv
  refine cfr (sudogM_lx R ws C G N W ph sp cy L D Q z ov h M hM a y0 y1 y2 y3 y4 y5 y6 hF) [(0,0),(1,1),(2,2),(3,3),(4,4),(5,5),(6,6)] (fun r h' n' hrr => ?_)
  obtain ⟨⟨e,e1,he⟩,e2,e3⟩ := hrr
  subst e1 e2 e3
  conv => cbv
  refine Br.no (show ¬ ¬ (e = 0) from fun q => q he) ?_
  conv => cbv
  refine RetF.mk [.iface 50 (.agg [i6 y0,i6 y1,i6 y2,i6 y3,i6 y4,i6 y5,i6 y6])] [hpA 0 1 5 6 3 W ph sp cy,hpB 1 2 4 3 W,hpC 2 3 127 2 N,hpP 3 L,hpP 4 D,hpF 5 z ov,hpP 6 Q] 7 (Re.at [(0,0),(1,1),(2,2),(3,3),(4,4),(5,5),(6,6)] []) rfl ⟨.is y0 y1 y2 y3 y4 y5 y6 hF,rfl,rfl⟩
 ·have hno : ∀ F,M a ≠ some (3,F) := fun F e => hq ⟨F,e⟩
  refine callF_of_body tok Tryz.func65 (by kernel_rfl) rfl rfl rfl ?_; conv => cbv
  refine cfr (sudogNoM_lx R ws C G N W ph sp cy L D Q z ov h M hM a hno) [(0,0),(1,1),(2,2),(3,3),(4,4),(5,5),(6,6)] (fun r h' n' hrr => ?_)
  obtain ⟨⟨y0,y1,y2,y3,y4,y5,y6,e,e1,he,hz⟩,e2,e3⟩ := hrr
  subst e1 e2 e3
  conv => cbv
  refine Br.yes (show ¬ (e = 0) by omega) ?_
  conv => cbv
  refine RetF.mk [.iface 159 (.agg [])] [hpA 0 1 5 6 3 W ph sp cy,hpB 1 2 4 3 W,hpC 2 3 127 2 N,hpP 3 L,hpP 4 D,hpF 5 z ov,hpP 6 Q] 7 (Re.at [(0,0),(1,1),(2,2),(3,3),(4,4),(5,5),(6,6)] []) rfl ⟨.no hno,rfl,rfl⟩
theorem nodup_len {l : List Int} {n : Nat} (hn : l.Nodup) (hb : ∀ x ∈ l,0 ≤ x ∧ x < n) : l.length ≤ n := by
 have := nodup_le (l := l) (m := (List.range n).map fun (i : Nat) => (i : Int)) hn fun x hx => by
  obtain ⟨h0,h1⟩ := hb x hx
  exact List.mem_map.2 ⟨x.toNat,List.mem_range.2 (by omega),by omega⟩
 simpa using this
theorem Sys.len {M : Hp} {q : Qs} {R : List Rw} {ws : List Int} (hA : AOk R ws) (hM : Cont R ws M) (hY : Sys M q) (c : Int) (d : Bool) : (q c d).length ≤ 32 * R.length := by
 refine nodup_len (hY.nd c d) fun x hx => ?_
 obtain ⟨g,w,n,p,r,m,e⟩ := hY.sg c d x hx
 have := hM.len hA e
 simp at this
 omega
theorem neg_none {M : Hp} {R : List Rw} {ws : List Int} (hA : AOk R ws) (hM : Cont R ws M) : M (-1) = none := by
 cases h : M (-1) with
 | none => rfl
 | some v => have := hM.len hA (k := v.1) (F := v.2) h; omega
theorem listAll_lx (R : List Rw) (ws C G : List Int) (N W ph sp cy : Int) (L D Q : List PV) (z : ByteArray) (ov : Bool) (h : HM R ws C G N W L D Q z) (M : Hp) (hM : Cont R ws M) (q : Qs) (hY : Sys M q) (c : Int) (d : Bool) (hch : ∀ F,M c = some (1,F) → ∃ y0 y1 y2 y3 y4 y5 y6 y7 y8,F = [y0,y1,y2,y3,y4,y5,y6,y7,y8]) (hsu : ∀ a F,M a = some (3,F) → ∃ y0 y1 y2 y3 y4 y5 y6,F = [y0,y1,y2,y3,y4,y5,y6]) : CallF (fun _ => Tryz.prog) 28 [.ptr 0 (.lit 0),i6 c,.p (.bool d)] [hpA 0 1 5 6 3 W ph sp cy,hpB 1 2 4 3 W,hpC 2 3 127 2 N,hpP 3 L,hpP 4 D,hpF 5 z ov,hpP 6 Q] 7 (fun r h n => ∃ (m : Int) (cells : List PV),r = .sl 7 3 1 (.lit 0) (.sym m) ∧ h = [hpA 0 1 5 6 3 W ph sp cy,hpB 1 2 4 3 W,hpC 2 3 127 2 N,hpP 3 L,hpP 4 D,hpF 5 z ov,hpP 6 Q,hpP 7 cells] ∧ n = 8 ∧ m = (q c d).length ∧ cells = ipv (q c d)) := by
 have hlen := hY.len h.a hM c d
 have hNR := h.n; have hRr := h.r
 by_cases hq : ∃ F,M c = some (1,F)
 ·obtain ⟨F,hF⟩ := hq
  obtain ⟨y0,y1,y2,y3,y4,y5,y6,y7,y8,rfl⟩ := hch F hF
  refine callF_of_body tok Tryz.func28 (by kernel_rfl) rfl rfl rfl ?_; conv => cbv
  refine cfr (chanM_lx R ws C G N W ph sp cy L D Q z ov h M hM c y0 y1 y2 y3 y4 y5 y6 y7 y8 hF) [(0,0),(1,1),(2,2),(3,3),(4,4),(5,5),(6,6)] (fun r h' n' hrr => ?_)
  obtain ⟨⟨e,e1,he⟩,e2,e3⟩ := hrr
  subst e1 e2 e3
  conv => cbv
  refine Br.no (show ¬ ¬ (e = 0) from fun q => q he) ?_
  conv => cbv
  refine callF_frame (lends_lx y0 y1 y2 y3 y4 y5 y6 y7 y8 d) [] rfl trivial rfl rfl (fun r h' n' hrr => ?_)
  obtain ⟨⟨at0,at1,e1,hat0,hat1⟩,e2,e3⟩ := hrr
  subst e1 e2 e3
  conv => cbv
  have hlk := hY.lnk hF
  rw [lnk_chan] at hlk
  simp only [Prod.mk.injEq,List.cons.injEq,true_and,and_true] at hlk
  obtain ⟨hl5,hl6,hl7,hl8⟩ := hlk
  obtain ⟨l0,hl0⟩ : ∃ l0,l0 = q c d := ⟨_,rfl⟩
  have hat : at0 = (l0[0]?).getD (-1) := by
   have hh : hdQ l0 = (l0[0]?).getD (-1) := by unfold hdQ; rw [List.head?_eq_getElem?]
   rw [hat0,← hh,hl0]
   cases d with
   | false => exact hl5.symm
   | true => exact hl7.symm
  rw [← hl0] at hlen ⊢
  have hnd : l0.Nodup := hl0 ▸ hY.nd c d
  have hneg := neg_none h.a hM
  refine LoopF.mk (fun kk s => ∃ (i at_ : Int) (dn : List Int) (cells : List PV),s = ⟨.ptr 0 (.lit 0) :: (undefs 8 ++ .sl 9 3 1 (.lit 0) (.sym i) :: .mp 8 :: .p (.int .i64 (.sym at_)) :: undefs 48),[hpA 0 1 5 6 3 W ph sp cy,hpB 1 2 4 3 W,hpC 2 3 127 2 N,hpP 3 L,hpP 4 D,hpF 5 z ov,hpP 6 Q,(8,.set dn),hpP 9 cells],10⟩ ∧ 0 ≤ i ∧ i ≤ l0.length ∧ kk = ((l0.length : Int) - i).toNat ∧ dn = l0.take i.toNat ∧ cells = ipv dn ∧ at_ = (l0[i.toNat]?).getD (-1)) l0.length _
   (Re.at [(0,0),(1,1),(2,2),(3,3),(4,4),(5,5),(6,6),(8,8)] [9]) ⟨0,at0,[],[],rfl,by omega,by omega,by omega,rfl,rfl,hat⟩ ?_
  rintro kk s ⟨i,at_,dn,cells,rfl,hi0,hi1,hkk,hdn,hcs,hat_⟩
  have hi1 : i ≤ (l0.length : Int) := hi1
  have hkk : kk = ((l0.length : Int) - i).toNat := hkk
  have hdl : dn.length = i.toNat := by rw [hdn,List.length_take]; omega
  conv => cbv
  refine cfr (waiting_lx R ws C G N W ph sp cy L D Q z ov h M hM at_ (hsu at_)) [(0,0),(1,1),(2,2),(3,3),(4,4),(5,5),(6,6)] (fun r h' n' hrr => ?_)
  obtain ⟨hW,e2,e3⟩ := hrr
  subst e2 e3
  cases hW with
  | is z0 z1 z2 z3 z4 z5 z6 hz =>
   have hil : i < (l0.length : Int) := by
    rcases Int.lt_or_le i l0.length with h1 | h1
    ·exact h1
    ·rw [List.getElem?_eq_none (by omega)] at hat_
     rw [show at_ = -1 from hat_,hneg] at hz
     cases hz
   obtain ⟨x,hx⟩ : ∃ x,l0[i.toNat]? = some x := ⟨_,List.getElem?_eq_getElem (by omega)⟩
   obtain rfl : at_ = x := by rw [hat_,hx]; rfl
   have hni : at_ ∉ dn := by
    rw [hdn]
    intro hm
    obtain ⟨k,hk⟩ := List.getElem?_of_mem hm
    rw [List.getElem?_take] at hk
    split at hk
    ·rename_i hkl
     have := (List.getElem?_inj (by have := (List.getElem?_eq_some_iff.1 hk).1; omega) hnd).1 (hk.trans hx.symm)
     omega
    ·cases hk
   conv => cbv
   refine Br.no (show ¬ (at_ ∈ dn) from hni) ?_
   conv => cbv
   have hcl : cells.length = dn.length := by rw [hcs,ipv_length]
   refine Room.new rfl ?_
   conv => cbv
   refine Room.new ⟨?_,?_,?_⟩ ?_
   ·show (cells.length : Int) = i * 1; omega
   ·show (i + 1) * 8 ≤ 140737488355328; omega
   ·show i + 1 ≤ 9223372036854775807; omega
   conv => cbv
   refine Upd.mk fun cells2 hcs2 => ?_
   have hcs2 : cells2 = cells ++ [.int .i64 (.sym at_)] := hcs2
   have hcs3 : cells2 = ipv (dn ++ [at_]) := by rw [hcs2,hcs,← ipv_app]; rfl
   conv => cbv
   refine Sum.mk fun j2 hj2 => ?_
   have hj2 : j2 = i + 1 := hj2
   conv => cbv
   refine Need.mk (show ¬ (at_ ∈ dn) from hni) ?_
   conv => cbv
   refine UpdI.mk fun dn2 hdn2 => ?_
   have hdn2 : dn2 = dn ++ [at_] := hdn2
   have hdn3 : dn2 = l0.take j2.toNat := by rw [hdn2,hdn,show j2.toNat = i.toNat + 1 by omega,List.take_add_one,hx]; rfl
   have hnx : z3 = (l0[j2.toNat]?).getD (-1) := by
    have h1 := hY.lnk hz
    have hsm : at_ ∈ q c d := hl0 ▸ List.mem_of_getElem? hx
    obtain ⟨g,w,n,p,r,m,e⟩ := hY.sg c d at_ hsm
    rw [hz] at e
    simp only [Option.some.injEq,Prod.mk.injEq,List.cons.injEq,true_and,and_true] at e
    obtain ⟨_,ec,_⟩ := e
    rw [lnk_sudog,ec,hY.nxt hsm,sucL_get _ _ (hY.nd c d) (hl0 ▸ hx)] at h1
    simp only [Prod.mk.injEq,List.cons.injEq,true_and,and_true] at h1
    rw [show j2.toNat = i.toNat + 1 by omega,hl0]
    exact h1.symm
   conv => cbv
   refine Again.mk ((l0.length : Int) - j2).toNat _ (by omega) (Re.at [(0,0),(1,1),(2,2),(3,3),(4,4),(5,5),(6,6),(8,8),(13,9)] []) ⟨j2,z3,dn2,cells2,rfl,(show (0 : Int) ≤ j2 by omega),(show j2 ≤ (l0.length : Int) by omega),rfl,hdn3,by rw [hcs3,hdn2],hnx⟩
  | no hz =>
   have hil : i = (l0.length : Int) := by
    rcases Int.lt_or_le i l0.length with h1 | h1
    ·obtain ⟨x,hx⟩ : ∃ x,l0[i.toNat]? = some x := ⟨_,List.getElem?_eq_getElem (by omega)⟩
     obtain ⟨g,w,n,p,r,m,e⟩ := hY.sg c d x (hl0 ▸ List.mem_of_getElem? hx)
     rw [hat_,hx] at hz
     exact absurd e (hz _)
    ·omega
   have hdn2 : dn = l0 := by rw [hdn,hil]; simp
   conv => cbv
   refine Br.mk (fun gq => ?_) (fun gq => ?_)
   ·conv => cbv
    refine RetF.mk [.sl 7 3 1 (.lit 0) (.sym i)] [hpA 0 1 5 6 3 W ph sp cy,hpB 1 2 4 3 W,hpC 2 3 127 2 N,hpP 3 L,hpP 4 D,hpF 5 z ov,hpP 6 Q,hpP 7 cells] 8 (Re.at [(0,0),(1,1),(2,2),(3,3),(4,4),(5,5),(6,6),(9,7)] []) rfl ⟨i,cells,rfl,rfl,rfl,hil,by rw [hcs,hdn2]⟩
   ·conv => cbv
    refine RetF.mk [.sl 7 3 1 (.lit 0) (.sym i)] [hpA 0 1 5 6 3 W ph sp cy,hpB 1 2 4 3 W,hpC 2 3 127 2 N,hpP 3 L,hpP 4 D,hpF 5 z ov,hpP 6 Q,hpP 7 cells] 8 (Re.at [(0,0),(1,1),(2,2),(3,3),(4,4),(5,5),(6,6),(9,7)] []) rfl ⟨i,cells,rfl,rfl,rfl,hil,by rw [hcs,hdn2]⟩
 ·have hno : ∀ F,M c ≠ some (1,F) := fun F e => hq ⟨F,e⟩
  have hqe : q c d = [] := hY.none hno d
  refine callF_of_body tok Tryz.func28 (by kernel_rfl) rfl rfl rfl ?_; conv => cbv
  refine cfr (chanNoM_lx R ws C G N W ph sp cy L D Q z ov h M hM c hno) [(0,0),(1,1),(2,2),(3,3),(4,4),(5,5),(6,6)] (fun r h' n' hrr => ?_)
  obtain ⟨⟨y0,y1,y2,y3,y4,y5,y6,y7,y8,e,e1,he,hz⟩,e2,e3⟩ := hrr
  subst e1 e2 e3
  conv => cbv
  refine Br.yes (show ¬ (e = 0) by omega) ?_
  conv => cbv
  refine RetF.mk [.sl 7 3 1 (.lit 0) (.sym 0)] [hpA 0 1 5 6 3 W ph sp cy,hpB 1 2 4 3 W,hpC 2 3 127 2 N,hpP 3 L,hpP 4 D,hpF 5 z ov,hpP 6 Q,(7,.pure true [])] 8 (Re.at [(0,0),(1,1),(2,2),(3,3),(4,4),(5,5),(6,6)] [7]) rfl ⟨0,[],rfl,rfl,rfl,by rw [hqe]; rfl,by rw [hqe]; rfl⟩
theorem setNextM_lx (R : List Rw) (ws C G : List Int) (N W ph sp cy : Int) (L D Q : List PV) (z : ByteArray) (ov : Bool) (h : HM R ws C G N W L D Q z) (M : Hp) (hM : Cont R ws M) (o : Unit → Obj) (ho : IsPow o) (hph : ph = 0) (a x z0 z1 z2 z3 z4 z5 z6 : Int) (hMa : M a = some (3,[z0,z1,z2,z3,z4,z5,z6])) (hx : -1 ≤ x) (hx2 : b62 x) : CallF (fun _ => Tryz.prog) 56 [.ptr 0 (.lit 0),i6 a,i6 x] [hpA 0 1 5 6 3 W ph sp cy,hpB 1 2 4 3 W,hpC 2 3 127 2 N,hpP 3 L,hpP 4 D,hpF 5 z ov,hpP 6 Q,(7,.fix 0 o)] 8 (fun r h n => ∃ (ws' : List Int) (D' : List PV),r = .tup [] ∧ h = [hpA 0 1 5 6 3 W ph sp cy,hpB 1 2 4 3 W,hpC 2 3 127 2 N,hpP 3 L,hpP 4 D',hpF 5 z ov,hpP 6 Q,(7,.fix 0 o)] ∧ n = 8 ∧ HM R ws' C G N W L D' Q z ∧ Cont R ws' (upd M a (3,[z0,z1,z2,x,z4,z5,z6]))) := by
 obtain ⟨hp,hb,hw⟩ := hM.sudog h.a hMa
 have hp' : ∀ q ∈ [z0,z1,x,z6],-1 ≤ q := by
  simp only [List.forall_mem_cons] at hp ⊢
  obtain ⟨p0,p1,p3,p6,_⟩ := hp
  exact ⟨p0,p1,hx,p6,fun q hq => by cases hq⟩
 have hb' : ∀ q ∈ [z0,z1,x,z4,z5,z6],b62 q := by
  simp only [List.forall_mem_cons] at hb ⊢
  obtain ⟨b0,b1,b3,b4,b5,b6,_⟩ := hb
  exact ⟨b0,b1,hx2,b4,b5,b6,fun q hq => by cases hq⟩
 refine callF_of_body tok Tryz.func56 (by kernel_rfl) rfl rfl rfl ?_; conv => cbv
 refine cfr (sudogM_lx R ws C G N W ph sp cy L D Q z ov h M hM a z0 z1 z2 z3 z4 z5 z6 hMa) [(0,0),(1,1),(2,2),(3,3),(4,4),(5,5),(6,6)] (fun r h' n' hrr => ?_)
 obtain ⟨⟨e0,e1,he0⟩,e2,e3⟩ := hrr
 subst e1 e2 e3
 conv => cbv
 refine cfr (putSudogM_lx R ws C G N W ph sp cy L D Q z ov h M hM o ho hph a z0 z1 z2 x z4 z5 z6 [z0,z1,z2,z3,z4,z5,z6] hMa rfl hb' hw hp') [(0,0),(1,1),(2,2),(3,3),(4,4),(5,5),(6,6),(7,7)] (fun r h' n' hrr => ?_)
 obtain ⟨e,ws',D',e1,he,e2,e3,h1,hM'⟩ := hrr
 subst e1 e2 e3
 conv => cbv
 refine RetF.mk [] [hpA 0 1 5 6 3 W ph sp cy,hpB 1 2 4 3 W,hpC 2 3 127 2 N,hpP 3 L,hpP 4 D',hpF 5 z ov,hpP 6 Q,(7,.fix 0 o)] 8 (Re.at [(0,0),(1,1),(2,2),(3,3),(4,4),(5,5),(6,6),(7,7)] []) rfl ⟨ws',D',rfl,rfl,rfl,h1,hM'⟩
theorem setEnds0_lx (R : List Rw) (ws C G : List Int) (N W ph sp cy : Int) (L D Q : List PV) (z : ByteArray) (ov : Bool) (h : HM R ws C G N W L D Q z) (M : Hp) (hM : Cont R ws M) (o : Unit → Obj) (ho : IsPow o) (hph : ph = 0) (a hd tl y0 y1 y2 y3 y4 y5 y6 y7 y8 : Int) (hMa : M a = some (1,[y0,y1,y2,y3,y4,y5,y6,y7,y8])) (hx : -1 ≤ hd ∧ b62 hd) (hx2 : -1 ≤ tl ∧ b62 tl) : CallF (fun _ => Tryz.prog) 57 [.ptr 0 (.lit 0),i6 a,.p (.bool false),i6 hd,i6 tl] [hpA 0 1 5 6 3 W ph sp cy,hpB 1 2 4 3 W,hpC 2 3 127 2 N,hpP 3 L,hpP 4 D,hpF 5 z ov,hpP 6 Q,(7,.fix 0 o)] 8 (fun r h n => ∃ (ws' : List Int) (D' : List PV),r = .tup [] ∧ h = [hpA 0 1 5 6 3 W ph sp cy,hpB 1 2 4 3 W,hpC 2 3 127 2 N,hpP 3 L,hpP 4 D',hpF 5 z ov,hpP 6 Q,(7,.fix 0 o)] ∧ n = 8 ∧ HM R ws' C G N W L D' Q z ∧ Cont R ws' (upd M a (1,[y0,y1,y2,y3,y4,hd,tl,y7,y8]))) := by
 obtain ⟨hp,hb⟩ := hM.chan h.a hMa
 have hp' : ∀ q ∈ [y4,hd,tl,y7,y8],-1 ≤ q := by
  simp only [List.forall_mem_cons] at hp ⊢
  obtain ⟨p4,p5,p6,p7,p8,_⟩ := hp
  exact ⟨p4,hx.1,hx2.1,p7,p8,fun q hq => by cases hq⟩
 have hb' : ∀ q ∈ [y0,y1,y2,y3,y4,hd,tl,y7,y8],b62 q := by
  simp only [List.forall_mem_cons] at hb ⊢
  obtain ⟨b0,b1,b2,b3,b4,b5,b6,b7,b8,_⟩ := hb
  exact ⟨b0,b1,b2,b3,b4,hx.2,hx2.2,b7,b8,fun q hq => by cases hq⟩
 refine callF_of_body tok Tryz.func57 (by kernel_rfl) rfl rfl rfl ?_; conv => cbv
 refine cfr (chanM_lx R ws C G N W ph sp cy L D Q z ov h M hM a y0 y1 y2 y3 y4 y5 y6 y7 y8 hMa) [(0,0),(1,1),(2,2),(3,3),(4,4),(5,5),(6,6)] (fun r h' n' hrr => ?_)
 obtain ⟨⟨e0,e1,he0⟩,e2,e3⟩ := hrr
 subst e1 e2 e3
 conv => cbv
 refine cfr (putChanM_lx R ws C G N W ph sp cy L D Q z ov h M hM o ho hph a y0 y1 y2 y3 y4 hd tl y7 y8 [y0,y1,y2,y3,y4,y5,y6,y7,y8] hMa rfl hb' hp') [(0,0),(1,1),(2,2),(3,3),(4,4),(5,5),(6,6),(7,7)] (fun r h' n' hrr => ?_)
 obtain ⟨e,ws',D',e1,he,e2,e3,h1,hM'⟩ := hrr
 subst e1 e2 e3
 conv => cbv
 refine RetF.mk [] [hpA 0 1 5 6 3 W ph sp cy,hpB 1 2 4 3 W,hpC 2 3 127 2 N,hpP 3 L,hpP 4 D',hpF 5 z ov,hpP 6 Q,(7,.fix 0 o)] 8 (Re.at [(0,0),(1,1),(2,2),(3,3),(4,4),(5,5),(6,6),(7,7)] []) rfl ⟨ws',D',rfl,rfl,rfl,h1,hM'⟩
theorem setEnds1_lx (R : List Rw) (ws C G : List Int) (N W ph sp cy : Int) (L D Q : List PV) (z : ByteArray) (ov : Bool) (h : HM R ws C G N W L D Q z) (M : Hp) (hM : Cont R ws M) (o : Unit → Obj) (ho : IsPow o) (hph : ph = 0) (a hd tl y0 y1 y2 y3 y4 y5 y6 y7 y8 : Int) (hMa : M a = some (1,[y0,y1,y2,y3,y4,y5,y6,y7,y8])) (hx : -1 ≤ hd ∧ b62 hd) (hx2 : -1 ≤ tl ∧ b62 tl) : CallF (fun _ => Tryz.prog) 57 [.ptr 0 (.lit 0),i6 a,.p (.bool true),i6 hd,i6 tl] [hpA 0 1 5 6 3 W ph sp cy,hpB 1 2 4 3 W,hpC 2 3 127 2 N,hpP 3 L,hpP 4 D,hpF 5 z ov,hpP 6 Q,(7,.fix 0 o)] 8 (fun r h n => ∃ (ws' : List Int) (D' : List PV),r = .tup [] ∧ h = [hpA 0 1 5 6 3 W ph sp cy,hpB 1 2 4 3 W,hpC 2 3 127 2 N,hpP 3 L,hpP 4 D',hpF 5 z ov,hpP 6 Q,(7,.fix 0 o)] ∧ n = 8 ∧ HM R ws' C G N W L D' Q z ∧ Cont R ws' (upd M a (1,[y0,y1,y2,y3,y4,y5,y6,hd,tl]))) := by
 obtain ⟨hp,hb⟩ := hM.chan h.a hMa
 have hp' : ∀ q ∈ [y4,y5,y6,hd,tl],-1 ≤ q := by
  simp only [List.forall_mem_cons] at hp ⊢
  obtain ⟨p4,p5,p6,p7,p8,_⟩ := hp
  exact ⟨p4,p5,p6,hx.1,hx2.1,fun q hq => by cases hq⟩
 have hb' : ∀ q ∈ [y0,y1,y2,y3,y4,y5,y6,hd,tl],b62 q := by
  simp only [List.forall_mem_cons] at hb ⊢
  obtain ⟨b0,b1,b2,b3,b4,b5,b6,b7,b8,_⟩ := hb
  exact ⟨b0,b1,b2,b3,b4,b5,b6,hx.2,hx2.2,fun q hq => by cases hq⟩
 refine callF_of_body tok Tryz.func57 (by kernel_rfl) rfl rfl rfl ?_; conv => cbv
 refine cfr (chanM_lx R ws C G N W ph sp cy L D Q z ov h M hM a y0 y1 y2 y3 y4 y5 y6 y7 y8 hMa) [(0,0),(1,1),(2,2),(3,3),(4,4),(5,5),(6,6)] (fun r h' n' hrr => ?_)
 obtain ⟨⟨e0,e1,he0⟩,e2,e3⟩ := hrr
 subst e1 e2 e3
 conv => cbv
 refine cfr (putChanM_lx R ws C G N W ph sp cy L D Q z ov h M hM o ho hph a y0 y1 y2 y3 y4 y5 y6 hd tl [y0,y1,y2,y3,y4,y5,y6,y7,y8] hMa rfl hb' hp') [(0,0),(1,1),(2,2),(3,3),(4,4),(5,5),(6,6),(7,7)] (fun r h' n' hrr => ?_)
 obtain ⟨e,ws',D',e1,he,e2,e3,h1,hM'⟩ := hrr
 subst e1 e2 e3
 conv => cbv
 refine RetF.mk [] [hpA 0 1 5 6 3 W ph sp cy,hpB 1 2 4 3 W,hpC 2 3 127 2 N,hpP 3 L,hpP 4 D',hpF 5 z ov,hpP 6 Q,(7,.fix 0 o)] 8 (Re.at [(0,0),(1,1),(2,2),(3,3),(4,4),(5,5),(6,6),(7,7)] []) rfl ⟨ws',D',rfl,rfl,rfl,h1,hM'⟩
theorem listPush0_lx (R : List Rw) (ws C G : List Int) (N W ph sp cy : Int) (L D Q : List PV) (z : ByteArray) (ov : Bool) (h : HM R ws C G N W L D Q z) (M : Hp) (hM : Cont R ws M) (q : Qs) (hY : Sys M q) (o : Unit → Obj) (ho : IsPow o) (hph : ph = 0) (hch : ∀ a F,M a = some (1,F) → ∃ y0 y1 y2 y3 y4 y5 y6 y7 y8,F = [y0,y1,y2,y3,y4,y5,y6,y7,y8]) (hsu : ∀ a F,M a = some (3,F) → ∃ z0 z1 z2 z3 z4 z5 z6,F = [z0,z1,z2,z3,z4,z5,z6]) (c s y0 y1 y2 y3 y4 y5 y6 y7 y8 g w n p r_ m_ : Int) (hMc : M c = some (1,[y0,y1,y2,y3,y4,y5,y6,y7,y8])) (hMs : M s = some (3,[g,c,w,n,p,r_,m_])) (hns : ∀ d,s ∉ q c d) : CallF (fun _ => Tryz.prog) 23 [.ptr 0 (.lit 0),i6 c,.p (.bool false),i6 s] [hpA 0 1 5 6 3 W ph sp cy,hpB 1 2 4 3 W,hpC 2 3 127 2 N,hpP 3 L,hpP 4 D,hpF 5 z ov,hpP 6 Q,(7,.fix 0 o)] 8 (fun r h n => ∃ (e : Int) (ws' : List Int) (D' : List PV),r = .p (.int .i64 (.sym e)) ∧ e = 0 ∧ h = [hpA 0 1 5 6 3 W ph sp cy,hpB 1 2 4 3 W,hpC 2 3 127 2 N,hpP 3 L,hpP 4 D',hpF 5 z ov,hpP 6 Q,(7,.fix 0 o)] ∧ n = 8 ∧ HM R ws' C G N W L D' Q z ∧ Cont R ws' (relink M (updQ q c false (q c false ++ [s])))) := by
 obtain ⟨hY2,hpe,hpn⟩ := hY.push (d := false) hMc hMs hns
 obtain ⟨hp,hb⟩ := hM.chan h.a hMc
 have hsl := hM.len h.a hMs
 have hRr := h.r
 have hcl := hY.len h.a hM c false
 have hs1 : -1 ≤ s := by omega
 have hs2 : b62 s := by unfold b62; omega
 have hsc : s ≠ c := fun e => by rw [e,hMc] at hMs; cases hMs
 have hh1 : -1 ≤ y5 := hp _ (by simp)
 have hh2 : b62 y5 := hb _ (by simp)
 have hm2 : b62 (-1) := by unfold b62; omega
 refine callF_of_body tok Tryz.func23 (by kernel_rfl) rfl rfl rfl ?_; conv => cbv
 refine cfr (chanM_lx R ws C G N W ph sp cy L D Q z ov h M hM c y0 y1 y2 y3 y4 y5 y6 y7 y8 hMc) [(0,0),(1,1),(2,2),(3,3),(4,4),(5,5),(6,6)] (fun r h' n' hrr => ?_)
 obtain ⟨⟨e0,e1,he0⟩,e2,e3⟩ := hrr
 subst e1 e2 e3
 conv => cbv
 refine Br.no (show ¬ ¬ (e0 = 0) from fun q => q he0) ?_
 conv => cbv
 refine cfr (sudogM_lx R ws C G N W ph sp cy L D Q z ov h M hM s g c w n p r_ m_ hMs) [(0,0),(1,1),(2,2),(3,3),(4,4),(5,5),(6,6)] (fun r h' n' hrr => ?_)
 obtain ⟨⟨e5,e1,he5⟩,e2,e3⟩ := hrr
 subst e1 e2 e3
 conv => cbv
 refine Br.no (show ¬ ¬ (e5 = 0) from fun q => q he5) ?_
 conv => cbv
 refine callF_frame (lends_lx y0 y1 y2 y3 y4 y5 y6 y7 y8 false) [] rfl trivial rfl rfl (fun r h' n' hrr => ?_)
 obtain ⟨⟨hd,tl,e1,hhd,htl⟩,e2,e3⟩ := hrr
 subst e1 e2 e3
 obtain rfl : y5 = hd := hhd.symm
 conv => cbv
 refine cfr (listAll_lx R ws C G N W ph sp cy L D Q z ov h M hM q hY c false (hch c) hsu) [(0,0),(1,1),(2,2),(3,3),(4,4),(5,5),(6,6)] (fun r h' n' hrr => ?_)
 obtain ⟨ml,cells,e1,e2,e3,hml,hcel⟩ := hrr
 subst e1 e2 e3
 conv => cbv
 refine Br.mk (fun gm => ?_) (fun gm => ?_)
 ·have gm : ml = 0 := gm
  have he : q c false = [] := List.eq_nil_of_length_eq_zero (by omega)
  conv => cbv
  refine CallF.le (args0 := [.ptr 0 (.lit 0),i6 c,.p (.bool false),i6 s,i6 s]) (cfr (setEnds0_lx R ws C G N W ph sp cy L D Q z ov h M hM o ho hph c s s y0 y1 y2 y3 y4 y5 y6 y7 y8 hMc ⟨hs1,hs2⟩ ⟨hs1,hs2⟩) [(0,0),(1,1),(2,2),(3,3),(4,4),(5,5),(6,6),(7,7)] (fun r h' n' hrr => ?_)) (by simp [ales,ale,pvle,I.val])
  obtain ⟨ws1,D1,e1,e2,e3,h1,c1⟩ := hrr
  subst e1 e2 e3
  conv => cbv
  refine CallF.le (args0 := [.ptr 0 (.lit 0),i6 s,i6 (-1)]) (cfr (setNextM_lx R ws1 C G N W ph sp cy L D1 Q z ov h1 _ c1 o ho hph s (-1) g c w n p r_ m_ ((upd_ne hsc).trans hMs) (by decide) hm2) [(0,0),(1,1),(2,2),(3,3),(4,4),(5,5),(6,6),(7,7)] (fun r h' n' hrr => ?_)) (by simp [ales,ale,pvle,I.val])
  obtain ⟨ws2,D2,e1,e2,e3,h2,c2⟩ := hrr
  subst e1 e2 e3
  conv => cbv
  refine RetF.mk [i6 0] [hpA 0 1 5 6 3 W ph sp cy,hpB 1 2 4 3 W,hpC 2 3 127 2 N,hpP 3 L,hpP 4 D2,hpF 5 z ov,hpP 6 Q,(7,.fix 0 o)] 8 (Re.at [(0,0),(1,1),(2,2),(3,3),(4,4),(5,5),(6,6),(7,7)] []) rfl ⟨0,ws2,D2,rfl,rfl,rfl,rfl,h2,by rw [hpe he]; exact c2⟩
 ·have gm : ¬ ml = 0 := gm
  have he : q c false ≠ [] := fun e => gm (by rw [hml,e]; rfl)
  obtain ⟨gx,wx,nx,px,rx,mx,hMx,hxs,heq⟩ := hpn he
  obtain ⟨x,hx⟩ : ∃ x,x = ltQ (q c false) := ⟨_,rfl⟩
  rw [← hx] at hMx hxs heq
  have hxc : x ≠ c := fun e => by rw [e,hMc] at hMx; cases hMx
  obtain ⟨k1,hk1⟩ : ∃ k1,k1 = ml - 1 := ⟨_,rfl⟩
  have hcell : cells[k1.toNat]? = some (.int .i64 (.sym x)) := by
   rw [hcel]
   refine ipv_get ?_
   rw [hx]
   unfold ltQ
   rw [List.getLast?_eq_getElem?,show (q c false).length - 1 = k1.toNat by omega]
   obtain ⟨v,hv⟩ : ∃ v,(q c false)[k1.toNat]? = some v := ⟨_,List.getElem?_eq_getElem (by omega)⟩
   rw [hv]; rfl
  conv => cbv
  refine Fit.mk (by show (-9223372036854775808 : Int) ≤ ml - 1; omega) (by show ml - 1 ≤ 9223372036854775807; omega) fun k2 hk2 => ?_
  obtain rfl : k1 = k2 := hk1.trans (show k2 = ml - 1 from hk2).symm
  conv => cbv
  refine Need.mk (show 0 ≤ k1 ∧ k1 < ml by omega) ?_
  conv => cbv
  refine Cell.at k1 _ hcell (by simp [I.val]) rfl ?_
  conv => cbv
  refine CallF.le (args0 := [.ptr 0 (.lit 0),i6 x,i6 s]) (cfr (setNextM_lx R ws C G N W ph sp cy L D Q z ov h M hM o ho hph x s gx c wx nx px rx mx hMx hs1 hs2) [(0,0),(1,1),(2,2),(3,3),(4,4),(5,5),(6,6),(7,7)] (fun r h' n' hrr => ?_)) (by simp [ales,ale,pvle,I.val])
  obtain ⟨ws1,D1,e1,e2,e3,h1,c1⟩ := hrr
  subst e1 e2 e3
  conv => cbv
  refine CallF.le (args0 := [.ptr 0 (.lit 0),i6 c,.p (.bool false),i6 y5,i6 s]) (cfr (setEnds0_lx R ws1 C G N W ph sp cy L D1 Q z ov h1 _ c1 o ho hph c y5 s y0 y1 y2 y3 y4 y5 y6 y7 y8 ((upd_ne hxc.symm).trans hMc) ⟨hh1,hh2⟩ ⟨hs1,hs2⟩) [(0,0),(1,1),(2,2),(3,3),(4,4),(5,5),(6,6),(7,7)] (fun r h' n' hrr => ?_)) (by simp [ales,ale,pvle,I.val])
  obtain ⟨ws2,D2,e1,e2,e3,h2,c2⟩ := hrr
  subst e1 e2 e3
  conv => cbv
  refine CallF.le (args0 := [.ptr 0 (.lit 0),i6 s,i6 (-1)]) (cfr (setNextM_lx R ws2 C G N W ph sp cy L D2 Q z ov h2 _ c2 o ho hph s (-1) g c w n p r_ m_ ((upd_ne hsc).trans ((upd_ne hxs.symm).trans hMs)) (by decide) hm2) [(0,0),(1,1),(2,2),(3,3),(4,4),(5,5),(6,6),(7,7)] (fun r h' n' hrr => ?_)) (by simp [ales,ale,pvle,I.val])
  obtain ⟨ws3,D3,e1,e2,e3,h3,c3⟩ := hrr
  subst e1 e2 e3
  conv => cbv
  refine RetF.mk [i6 0] [hpA 0 1 5 6 3 W ph sp cy,hpB 1 2 4 3 W,hpC 2 3 127 2 N,hpP 3 L,hpP 4 D3,hpF 5 z ov,hpP 6 Q,(7,.fix 0 o)] 8 (Re.at [(0,0),(1,1),(2,2),(3,3),(4,4),(5,5),(6,6),(7,7)] []) rfl ⟨0,ws3,D3,rfl,rfl,rfl,rfl,h3,by rw [heq]; exact c3⟩
theorem listPush1_lx (R : List Rw) (ws C G : List Int) (N W ph sp cy : Int) (L D Q : List PV) (z : ByteArray) (ov : Bool) (h : HM R ws C G N W L D Q z) (M : Hp) (hM : Cont R ws M) (q : Qs) (hY : Sys M q) (o : Unit → Obj) (ho : IsPow o) (hph : ph = 0) (hch : ∀ a F,M a = some (1,F) → ∃ y0 y1 y2 y3 y4 y5 y6 y7 y8,F = [y0,y1,y2,y3,y4,y5,y6,y7,y8]) (hsu : ∀ a F,M a = some (3,F) → ∃ z0 z1 z2 z3 z4 z5 z6,F = [z0,z1,z2,z3,z4,z5,z6]) (c s y0 y1 y2 y3 y4 y5 y6 y7 y8 g w n p r_ m_ : Int) (hMc : M c = some (1,[y0,y1,y2,y3,y4,y5,y6,y7,y8])) (hMs : M s = some (3,[g,c,w,n,p,r_,m_])) (hns : ∀ d,s ∉ q c d) : CallF (fun _ => Tryz.prog) 23 [.ptr 0 (.lit 0),i6 c,.p (.bool true),i6 s] [hpA 0 1 5 6 3 W ph sp cy,hpB 1 2 4 3 W,hpC 2 3 127 2 N,hpP 3 L,hpP 4 D,hpF 5 z ov,hpP 6 Q,(7,.fix 0 o)] 8 (fun r h n => ∃ (e : Int) (ws' : List Int) (D' : List PV),r = .p (.int .i64 (.sym e)) ∧ e = 0 ∧ h = [hpA 0 1 5 6 3 W ph sp cy,hpB 1 2 4 3 W,hpC 2 3 127 2 N,hpP 3 L,hpP 4 D',hpF 5 z ov,hpP 6 Q,(7,.fix 0 o)] ∧ n = 8 ∧ HM R ws' C G N W L D' Q z ∧ Cont R ws' (relink M (updQ q c true (q c true ++ [s])))) := by
 obtain ⟨hY2,hpe,hpn⟩ := hY.push (d := true) hMc hMs hns
 obtain ⟨hp,hb⟩ := hM.chan h.a hMc
 have hsl := hM.len h.a hMs
 have hRr := h.r
 have hcl := hY.len h.a hM c true
 have hs1 : -1 ≤ s := by omega
 have hs2 : b62 s := by unfold b62; omega
 have hsc : s ≠ c := fun e => by rw [e,hMc] at hMs; cases hMs
 have hh1 : -1 ≤ y7 := hp _ (by simp)
 have hh2 : b62 y7 := hb _ (by simp)
 have hm2 : b62 (-1) := by unfold b62; omega
 refine callF_of_body tok Tryz.func23 (by kernel_rfl) rfl rfl rfl ?_; conv => cbv
 refine cfr (chanM_lx R ws C G N W ph sp cy L D Q z ov h M hM c y0 y1 y2 y3 y4 y5 y6 y7 y8 hMc) [(0,0),(1,1),(2,2),(3,3),(4,4),(5,5),(6,6)] (fun r h' n' hrr => ?_)
 obtain ⟨⟨e0,e1,he0⟩,e2,e3⟩ := hrr
 subst e1 e2 e3
 conv => cbv
 refine Br.no (show ¬ ¬ (e0 = 0) from fun q => q he0) ?_
 conv => cbv
 refine cfr (sudogM_lx R ws C G N W ph sp cy L D Q z ov h M hM s g c w n p r_ m_ hMs) [(0,0),(1,1),(2,2),(3,3),(4,4),(5,5),(6,6)] (fun r h' n' hrr => ?_)
 obtain ⟨⟨e5,e1,he5⟩,e2,e3⟩ := hrr
 subst e1 e2 e3
 conv => cbv
 refine Br.no (show ¬ ¬ (e5 = 0) from fun q => q he5) ?_
 conv => cbv
 refine callF_frame (lends_lx y0 y1 y2 y3 y4 y5 y6 y7 y8 true) [] rfl trivial rfl rfl (fun r h' n' hrr => ?_)
 obtain ⟨⟨hd,tl,e1,hhd,htl⟩,e2,e3⟩ := hrr
 subst e1 e2 e3
 obtain rfl : y7 = hd := hhd.symm
 conv => cbv
 refine cfr (listAll_lx R ws C G N W ph sp cy L D Q z ov h M hM q hY c true (hch c) hsu) [(0,0),(1,1),(2,2),(3,3),(4,4),(5,5),(6,6)] (fun r h' n' hrr => ?_)
 obtain ⟨ml,cells,e1,e2,e3,hml,hcel⟩ := hrr
 subst e1 e2 e3
 conv => cbv
 refine Br.mk (fun gm => ?_) (fun gm => ?_)
 ·have gm : ml = 0 := gm
  have he : q c true = [] := List.eq_nil_of_length_eq_zero (by omega)
  conv => cbv
  refine CallF.le (args0 := [.ptr 0 (.lit 0),i6 c,.p (.bool true),i6 s,i6 s]) (cfr (setEnds1_lx R ws C G N W ph sp cy L D Q z ov h M hM o ho hph c s s y0 y1 y2 y3 y4 y5 y6 y7 y8 hMc ⟨hs1,hs2⟩ ⟨hs1,hs2⟩) [(0,0),(1,1),(2,2),(3,3),(4,4),(5,5),(6,6),(7,7)] (fun r h' n' hrr => ?_)) (by simp [ales,ale,pvle,I.val])
  obtain ⟨ws1,D1,e1,e2,e3,h1,c1⟩ := hrr
  subst e1 e2 e3
  conv => cbv
  refine CallF.le (args0 := [.ptr 0 (.lit 0),i6 s,i6 (-1)]) (cfr (setNextM_lx R ws1 C G N W ph sp cy L D1 Q z ov h1 _ c1 o ho hph s (-1) g c w n p r_ m_ ((upd_ne hsc).trans hMs) (by decide) hm2) [(0,0),(1,1),(2,2),(3,3),(4,4),(5,5),(6,6),(7,7)] (fun r h' n' hrr => ?_)) (by simp [ales,ale,pvle,I.val])
  obtain ⟨ws2,D2,e1,e2,e3,h2,c2⟩ := hrr
  subst e1 e2 e3
  conv => cbv
  refine RetF.mk [i6 0] [hpA 0 1 5 6 3 W ph sp cy,hpB 1 2 4 3 W,hpC 2 3 127 2 N,hpP 3 L,hpP 4 D2,hpF 5 z ov,hpP 6 Q,(7,.fix 0 o)] 8 (Re.at [(0,0),(1,1),(2,2),(3,3),(4,4),(5,5),(6,6),(7,7)] []) rfl ⟨0,ws2,D2,rfl,rfl,rfl,rfl,h2,by rw [hpe he]; exact c2⟩
 ·have gm : ¬ ml = 0 := gm
  have he : q c true ≠ [] := fun e => gm (by rw [hml,e]; rfl)
  obtain ⟨gx,wx,nx,px,rx,mx,hMx,hxs,heq⟩ := hpn he
  obtain ⟨x,hx⟩ : ∃ x,x = ltQ (q c true) := ⟨_,rfl⟩
  rw [← hx] at hMx hxs heq
  have hxc : x ≠ c := fun e => by rw [e,hMc] at hMx; cases hMx
  obtain ⟨k1,hk1⟩ : ∃ k1,k1 = ml - 1 := ⟨_,rfl⟩
  have hcell : cells[k1.toNat]? = some (.int .i64 (.sym x)) := by
   rw [hcel]
   refine ipv_get ?_
   rw [hx]
   unfold ltQ
   rw [List.getLast?_eq_getElem?,show (q c true).length - 1 = k1.toNat by omega]
   obtain ⟨v,hv⟩ : ∃ v,(q c true)[k1.toNat]? = some v := ⟨_,List.getElem?_eq_getElem (by omega)⟩
   rw [hv]; rfl
  conv => cbv
  refine Fit.mk (by show (-9223372036854775808 : Int) ≤ ml - 1; omega) (by show ml - 1 ≤ 9223372036854775807; omega) fun k2 hk2 => ?_
  obtain rfl : k1 = k2 := hk1.trans (show k2 = ml - 1 from hk2).symm
  conv => cbv
  refine Need.mk (show 0 ≤ k1 ∧ k1 < ml by omega) ?_
  conv => cbv
  refine Cell.at k1 _ hcell (by simp [I.val]) rfl ?_
  conv => cbv
  refine CallF.le (args0 := [.ptr 0 (.lit 0),i6 x,i6 s]) (cfr (setNextM_lx R ws C G N W ph sp cy L D Q z ov h M hM o ho hph x s gx c wx nx px rx mx hMx hs1 hs2) [(0,0),(1,1),(2,2),(3,3),(4,4),(5,5),(6,6),(7,7)] (fun r h' n' hrr => ?_)) (by simp [ales,ale,pvle,I.val])
  obtain ⟨ws1,D1,e1,e2,e3,h1,c1⟩ := hrr
  subst e1 e2 e3
  conv => cbv
  refine CallF.le (args0 := [.ptr 0 (.lit 0),i6 c,.p (.bool true),i6 y7,i6 s]) (cfr (setEnds1_lx R ws1 C G N W ph sp cy L D1 Q z ov h1 _ c1 o ho hph c y7 s y0 y1 y2 y3 y4 y5 y6 y7 y8 ((upd_ne hxc.symm).trans hMc) ⟨hh1,hh2⟩ ⟨hs1,hs2⟩) [(0,0),(1,1),(2,2),(3,3),(4,4),(5,5),(6,6),(7,7)] (fun r h' n' hrr => ?_)) (by simp [ales,ale,pvle,I.val])
  obtain ⟨ws2,D2,e1,e2,e3,h2,c2⟩ := hrr
  subst e1 e2 e3
  conv => cbv
  refine CallF.le (args0 := [.ptr 0 (.lit 0),i6 s,i6 (-1)]) (cfr (setNextM_lx R ws2 C G N W ph sp cy L D2 Q z ov h2 _ c2 o ho hph s (-1) g c w n p r_ m_ ((upd_ne hsc).trans ((upd_ne hxs.symm).trans hMs)) (by decide) hm2) [(0,0),(1,1),(2,2),(3,3),(4,4),(5,5),(6,6),(7,7)] (fun r h' n' hrr => ?_)) (by simp [ales,ale,pvle,I.val])
  obtain ⟨ws3,D3,e1,e2,e3,h3,c3⟩ := hrr
  subst e1 e2 e3
  conv => cbv
  refine RetF.mk [i6 0] [hpA 0 1 5 6 3 W ph sp cy,hpB 1 2 4 3 W,hpC 2 3 127 2 N,hpP 3 L,hpP 4 D3,hpF 5 z ov,hpP 6 Q,(7,.fix 0 o)] 8 (Re.at [(0,0),(1,1),(2,2),(3,3),(4,4),(5,5),(6,6),(7,7)] []) rfl ⟨0,ws3,D3,rfl,rfl,rfl,rfl,h3,by rw [heq]; exact c3⟩
theorem listPop0_lx (R : List Rw) (ws C G : List Int) (N W ph sp cy : Int) (L D Q : List PV) (z : ByteArray) (ov : Bool) (h : HM R ws C G N W L D Q z) (M : Hp) (hM : Cont R ws M) (q : Qs) (hY : Sys M q) (o : Unit → Obj) (ho : IsPow o) (hph : ph = 0) (hch : ∀ a F,M a = some (1,F) → ∃ y0 y1 y2 y3 y4 y5 y6 y7 y8,F = [y0,y1,y2,y3,y4,y5,y6,y7,y8]) (hsu : ∀ a F,M a = some (3,F) → ∃ z0 z1 z2 z3 z4 z5 z6,F = [z0,z1,z2,z3,z4,z5,z6]) (c s y0 y1 y2 y3 y4 y5 y6 y7 y8 g w n p r_ m_ : Int) (B : List Int) (hq : q c false = s :: B) (hMc : M c = some (1,[y0,y1,y2,y3,y4,y5,y6,y7,y8])) (hMs : M s = some (3,[g,c,w,n,p,r_,m_])) : CallF (fun _ => Tryz.prog) 49 [.ptr 0 (.lit 0),i6 c,.p (.bool false)] [hpA 0 1 5 6 3 W ph sp cy,hpB 1 2 4 3 W,hpC 2 3 127 2 N,hpP 3 L,hpP 4 D,hpF 5 z ov,hpP 6 Q,(7,.fix 0 o)] 8 (fun r h n => ∃ (ws' : List Int) (D' : List PV),r = .tup [i6 s,.p (.bool true)] ∧ h = [hpA 0 1 5 6 3 W ph sp cy,hpB 1 2 4 3 W,hpC 2 3 127 2 N,hpP 3 L,hpP 4 D',hpF 5 z ov,hpP 6 Q,(7,.fix 0 o)] ∧ n = 8 ∧ HM R ws' C G N W L D' Q z ∧ Cont R ws' (relink M (updQ q c false B))) := by
 obtain ⟨hnB,heq⟩ := hY.pop hq hMc hMs
 obtain ⟨hp,hb⟩ := hM.chan h.a hMc
 obtain ⟨hp3,hb3,_⟩ := hM.sudog h.a hMs
 have hlk := hY.lnk hMc
 rw [lnk_chan] at hlk
 simp only [Prod.mk.injEq,List.cons.injEq,true_and,and_true] at hlk
 obtain ⟨hl5,hl6,hl7,hl8⟩ := hlk
 have hsl := hM.len h.a hMs
 have hsc : s ≠ c := fun e => by rw [e,hMc] at hMs; cases hMs
 have hn1 : -1 ≤ n := hp3 _ (by simp)
 have hn2 : b62 n := hb3 _ (by simp)
 have ht1 : -1 ≤ y6 := hp _ (by simp)
 have ht2 : b62 y6 := hb _ (by simp)
 have hm2 : b62 (-1) := by unfold b62; omega
 have hBn : n = -1 ↔ B = [] := by
  rw [hnB]
  constructor
  ·intro e
   cases hB : B with
   | nil => rfl
   | cons x l =>
    have hx : x ∈ q c false := by rw [hq,hB]; simp
    obtain ⟨g',w',n',p',r',m',e'⟩ := hY.sg c false x hx
    have := (hM.len h.a e').2.1
    rw [hB] at e
    have : x = -1 := e
    omega
  ·intro e; rw [e]; rfl
 have htl : ltQ B = if n = -1 then -1 else y6 := by
  rw [ltQ_tail (a := s),← hq]
  by_cases e : B = []
  ·rw [if_pos e,if_pos (hBn.2 e)]
  ·rw [if_neg e,if_neg (fun k => e (hBn.1 k))]; exact hl6
 refine callF_of_body tok Tryz.func49 (by kernel_rfl) rfl rfl rfl ?_; conv => cbv
 refine cfr (listAll_lx R ws C G N W ph sp cy L D Q z ov h M hM q hY c false (hch c) hsu) [(0,0),(1,1),(2,2),(3,3),(4,4),(5,5),(6,6)] (fun r h' n' hrr => ?_)
 obtain ⟨ml,cells,e1,e2,e3,hml,hcel⟩ := hrr
 subst e1 e2 e3
 conv => cbv
 have hml1 : 0 < ml := by rw [hml,hq]; simp
 have hcell : cells[(0 : Int).toNat]? = some (.int .i64 (.sym s)) := by rw [hcel,hq]; rfl
 refine Br.no (show ¬ (ml = 0) by omega) ?_
 conv => cbv
 refine cfr (chanM_lx R ws C G N W ph sp cy L D Q z ov h M hM c y0 y1 y2 y3 y4 y5 y6 y7 y8 hMc) [(0,0),(1,1),(2,2),(3,3),(4,4),(5,5),(6,6)] (fun r h' n' hrr => ?_)
 obtain ⟨⟨e0,e1,he0⟩,e2,e3⟩ := hrr
 subst e1 e2 e3
 conv => cbv
 refine callF_frame (lends_lx y0 y1 y2 y3 y4 y5 y6 y7 y8 false) [] rfl trivial rfl rfl (fun r h' n' hrr => ?_)
 obtain ⟨⟨hd,tl,e1,hhd,htl2⟩,e2,e3⟩ := hrr
 subst e1 e2 e3
 obtain rfl : y6 = tl := htl2.symm
 conv => cbv
 refine Need.mk (show 0 ≤ (0 : Int) ∧ 0 < ml by omega) ?_
 conv => cbv
 refine Cell.at 0 _ hcell (by simp [I.val]) rfl ?_
 conv => cbv
 refine cfr (sudogM_lx R ws C G N W ph sp cy L D Q z ov h M hM s g c w n p r_ m_ hMs) [(0,0),(1,1),(2,2),(3,3),(4,4),(5,5),(6,6)] (fun r h' n' hrr => ?_)
 obtain ⟨⟨e5,e1,he5⟩,e2,e3⟩ := hrr
 subst e1 e2 e3
 conv => cbv
 refine Br.mk (fun gn => ?_) (fun gn => ?_)
 ·have gn : n = -1 := gn
  rw [if_pos gn] at htl
  rw [htl,← hnB] at heq
  conv => cbv
  refine CallF.le (args0 := [.ptr 0 (.lit 0),i6 c,.p (.bool false),i6 n,i6 (-1)]) (cfr (setEnds0_lx R ws C G N W ph sp cy L D Q z ov h M hM o ho hph c n (-1) y0 y1 y2 y3 y4 y5 y6 y7 y8 hMc ⟨hn1,hn2⟩ ⟨by decide,hm2⟩) [(0,0),(1,1),(2,2),(3,3),(4,4),(5,5),(6,6),(7,7)] (fun r h' n' hrr => ?_)) (by simp [ales,ale,pvle,I.val])
  obtain ⟨ws1,D1,e1,e2,e3,h1,c1⟩ := hrr
  subst e1 e2 e3
  conv => cbv
  refine Need.mk (show 0 ≤ (0 : Int) ∧ 0 < ml by omega) ?_
  conv => cbv
  refine Cell.at 0 _ hcell (by simp [I.val]) rfl ?_
  conv => cbv
  refine CallF.le (args0 := [.ptr 0 (.lit 0),i6 s,i6 (-1)]) (cfr (setNextM_lx R ws1 C G N W ph sp cy L D1 Q z ov h1 _ c1 o ho hph s (-1) g c w n p r_ m_ ((upd_ne hsc).trans hMs) (by decide) hm2) [(0,0),(1,1),(2,2),(3,3),(4,4),(5,5),(6,6),(7,7)] (fun r h' n' hrr => ?_)) (by simp [ales,ale,pvle,I.val])
  obtain ⟨ws2,D2,e1,e2,e3,h2,c2⟩ := hrr
  subst e1 e2 e3
  conv => cbv
  refine Need.mk (show 0 ≤ (0 : Int) ∧ 0 < ml by omega) ?_
  conv => cbv
  refine Cell.at 0 _ hcell (by simp [I.val]) rfl ?_
  conv => cbv
  refine RetF.mk [i6 s,.p (.bool true)] [hpA 0 1 5 6 3 W ph sp cy,hpB 1 2 4 3 W,hpC 2 3 127 2 N,hpP 3 L,hpP 4 D2,hpF 5 z ov,hpP 6 Q,(7,.fix 0 o)] 8 (Re.at [(0,0),(1,1),(2,2),(3,3),(4,4),(5,5),(6,6),(7,7)] []) rfl ⟨ws2,D2,rfl,rfl,rfl,h2,by rw [heq]; exact c2⟩
 ·have gn : ¬ n = -1 := gn
  rw [if_neg gn] at htl
  rw [htl,← hnB] at heq
  conv => cbv
  refine CallF.le (args0 := [.ptr 0 (.lit 0),i6 c,.p (.bool false),i6 n,i6 y6]) (cfr (setEnds0_lx R ws C G N W ph sp cy L D Q z ov h M hM o ho hph c n y6 y0 y1 y2 y3 y4 y5 y6 y7 y8 hMc ⟨hn1,hn2⟩ ⟨ht1,ht2⟩) [(0,0),(1,1),(2,2),(3,3),(4,4),(5,5),(6,6),(7,7)] (fun r h' n' hrr => ?_)) (by simp [ales,ale,pvle,I.val])
  obtain ⟨ws1,D1,e1,e2,e3,h1,c1⟩ := hrr
  subst e1 e2 e3
  conv => cbv
  refine Need.mk (show 0 ≤ (0 : Int) ∧ 0 < ml by omega) ?_
  conv => cbv
  refine Cell.at 0 _ hcell (by simp [I.val]) rfl ?_
  conv => cbv
  refine CallF.le (args0 := [.ptr 0 (.lit 0),i6 s,i6 (-1)]) (cfr (setNextM_lx R ws1 C G N W ph sp cy L D1 Q z ov h1 _ c1 o ho hph s (-1) g c w n p r_ m_ ((upd_ne hsc).trans hMs) (by decide) hm2) [(0,0),(1,1),(2,2),(3,3),(4,4),(5,5),(6,6),(7,7)] (fun r h' n' hrr => ?_)) (by simp [ales,ale,pvle,I.val])
  obtain ⟨ws2,D2,e1,e2,e3,h2,c2⟩ := hrr
  subst e1 e2 e3
  conv => cbv
  refine Need.mk (show 0 ≤ (0 : Int) ∧ 0 < ml by omega) ?_
  conv => cbv
  refine Cell.at 0 _ hcell (by simp [I.val]) rfl ?_
  conv => cbv
  refine RetF.mk [i6 s,.p (.bool true)] [hpA 0 1 5 6 3 W ph sp cy,hpB 1 2 4 3 W,hpC 2 3 127 2 N,hpP 3 L,hpP 4 D2,hpF 5 z ov,hpP 6 Q,(7,.fix 0 o)] 8 (Re.at [(0,0),(1,1),(2,2),(3,3),(4,4),(5,5),(6,6),(7,7)] []) rfl ⟨ws2,D2,rfl,rfl,rfl,h2,by rw [heq]; exact c2⟩
end Go.Proofs.YtmckfhnijeiklaaGreatDoor
namespace Go.Proofs.YtmckfhnijeiklaaGreatDoor
open Go Go.LX
set_option maxRecDepth 100000
set_option linter.unusedVariables false
set_option maxHeartbeats 32000000
def ints (A : List Int) : List PV := A.map fun a => .int .i64 (.sym a)
theorem ints_get (A : List Int) (j : Nat) : (ints A)[j]? = A[j]?.map fun a => .int .i64 (.sym a) := by rw [ints,List.getElem?_map]
def Found (A : List Int) (v r : Int) : Prop := (∃ i : Nat,A[i]? = some v ∧ (∀ j,j < i → A[j]? ≠ some v) ∧ r = i) ∨ (v ∉ A ∧ r = -1)
theorem index_lx (A : List Int) (v k : Int) (L : List PV) (hL : L = ints A) (hk : k = A.length) (hm : A.length ≤ 1000000) :
  CallF (fun _ => Tryz.prog) 132 [.p (.vsl (.sym k) true L),i6 v] [] 0 (fun r h n => (∃ m : Int,r = .p (.int .i64 (.sym m)) ∧ Found A v m) ∧ h = [] ∧ n = 0) := by
 refine callF_of_body tok Tryz.func132 (by kernel_rfl) rfl rfl rfl ?_; conv => cbv
 refine LoopF.mk (fun m s => ∃ i : Int,s = ⟨.p (.vsl (.sym k) true L) :: .p (.int .i64 (.sym v)) :: .undef :: .undef :: .undef :: .undef :: .p (.vsl (.sym k) true L) :: .p (.int .i64 (.sym k)) :: .p (.int .i64 (.sym i)) :: undefs 10,[],0⟩ ∧ 0 ≤ i ∧ i ≤ k ∧ (∀ j : Nat,(j : Int) < i → A[j]? ≠ some v) ∧ m = (k - i).toNat) k.toNat _
  (Re.at [] []) ⟨0,rfl,by omega,by omega,fun j hj => absurd hj (by omega),by omega⟩ ?_
 rintro m s ⟨i,rfl,h0,h1,hno,hm2⟩
 conv => cbv
 refine Br.mk (fun g => ?_) (fun g => ?_)
 ·have g : i < k := g
  obtain ⟨x,hx⟩ : ∃ x,A[i.toNat]? = some x := ⟨_,List.getElem?_eq_getElem (by omega)⟩
  conv => cbv
  refine Need.mk ⟨h0,g⟩ ?_
  conv => cbv
  refine Cell.mk (.int .i64 (.sym x)) (by show L[(i + 0).toNat]? = _; rw [Int.add_zero,hL,ints_get,hx]; rfl) ?_
  conv => cbv
  refine Br.mk (fun g2 => ?_) (fun g2 => ?_)
  ·have g2 : v = x := g2
   conv => cbv
   refine RetF.mk [i6 i] [] 0 (Re.at [] []) rfl ⟨⟨i,rfl,.inl ⟨i.toNat,by rw [hx,g2],fun j hj => hno j (by omega),by omega⟩⟩,rfl,rfl⟩
  ·have g2 : ¬ v = x := g2
   obtain ⟨m',rfl⟩ : ∃ m',m = m' + 1 := ⟨m - 1,by omega⟩
   conv => cbv
   refine Fit.mk (by show (-9223372036854775808 : Int) ≤ i + 1; omega) (by show i + 1 ≤ 9223372036854775807; omega) fun i2 hi2 => ?_
   have hi2 : i2 = i + 1 := hi2
   conv => cbv
   refine Again.mk m' _ (Nat.lt_succ_self _) (Re.at [] []) ⟨i2,rfl,by omega,by omega,fun j hj => ?_,by omega⟩
   have hj : (j : Int) < i2 := hj
   by_cases e : (j : Int) = i
   ·have : i.toNat = j := by omega
    rw [← this,hx]
    exact fun h => g2 (Option.some.inj h).symm
   ·exact hno j (by omega)
 ·have g : ¬ i < k := g
  conv => cbv
  refine RetF.mk [i6 (-1)] [] 0 (Re.at [] []) rfl ⟨⟨-1,rfl,.inr ⟨fun h => ?_,rfl⟩⟩,rfl,rfl⟩
  obtain ⟨j,hj⟩ := List.getElem?_of_mem h
  have := (List.getElem?_eq_some_iff.1 hj).1
  exact hno j (by omega) hj
end Go.Proofs.YtmckfhnijeiklaaGreatDoor
namespace Go.Proofs.YtmckfhnijeiklaaGreatDoor
open Go Go.LX
set_option maxRecDepth 100000
set_option linter.unusedVariables false
set_option linter.unusedSimpArgs false
set_option maxHeartbeats 32000000
theorem filter_ne {A B : List Int} {s : Int} (h : (A ++ s :: B).Nodup) : (A ++ s :: B).filter (fun x => decide (x ≠ s)) = A ++ B := by
 have h1 := List.nodup_append.1 h
 have h2 := List.nodup_cons.1 h1.2.1
 rw [List.filter_append,List.filter_cons_of_neg (by simp),List.filter_eq_self.2,List.filter_eq_self.2]
 ·intro x hx
  have : x ≠ s := fun e => h2.1 (e ▸ hx)
  simpa using this
 ·intro x hx
  have : x ≠ s := h1.2.2 x hx s (by simp)
  simpa using this
theorem listRemoveNo_lx (R : List Rw) (ws C G : List Int) (N W ph sp cy : Int) (L D Q : List PV) (z : ByteArray) (ov : Bool) (h : HM R ws C G N W L D Q z) (M : Hp) (hM : Cont R ws M) (q : Qs) (hY : Sys M q) (o : Unit → Obj) (hch : ∀ a F,M a = some (1,F) → ∃ y0 y1 y2 y3 y4 y5 y6 y7 y8,F = [y0,y1,y2,y3,y4,y5,y6,y7,y8]) (hsu : ∀ a F,M a = some (3,F) → ∃ z0 z1 z2 z3 z4 z5 z6,F = [z0,z1,z2,z3,z4,z5,z6]) (c s : Int) (d : Bool) (hns : s ∉ q c d) : CallF (fun _ => Tryz.prog) 96 [.ptr 0 (.lit 0),i6 c,.p (.bool d),i6 s] [hpA 0 1 5 6 3 W ph sp cy,hpB 1 2 4 3 W,hpC 2 3 127 2 N,hpP 3 L,hpP 4 D,hpF 5 z ov,hpP 6 Q,(7,.fix 0 o)] 8 (fun r h n => r = .p (.bool false) ∧ h = [hpA 0 1 5 6 3 W ph sp cy,hpB 1 2 4 3 W,hpC 2 3 127 2 N,hpP 3 L,hpP 4 D,hpF 5 z ov,hpP 6 Q,(7,.fix 0 o)] ∧ n = 8) := by
 have hcl := hY.len h.a hM c d
 have hRr := h.r
 refine callF_of_body tok Tryz.func96 (by kernel_rfl) rfl rfl rfl ?_; conv => cbv
 refine cfr (listAll_lx R ws C G N W ph sp cy L D Q z ov h M hM q hY c d (hch c) hsu) [(0,0),(1,1),(2,2),(3,3),(4,4),(5,5),(6,6)] (fun r h' n' hrr => ?_)
 obtain ⟨ml,cells,e1,e2,e3,hml,hcel⟩ := hrr
 subst e1 e2 e3
 conv => cbv
 refine callF_lend (index_lx (q c d) s ml cells hcel hml (by omega)) (by simp [lends,lendV,hget,I.val,pvle]) (fun r h' n' ⟨⟨k,e1,hk⟩,e2,e3⟩ => by subst e1 e2; exact ⟨trivial,trivial⟩) (fun r h' n' ⟨⟨k,e1,hk⟩,e2,e3⟩ => ?_)
 subst e1 e2 e3
 conv => cbv
 have hk1 : k = -1 := by
  rcases hk with ⟨i,h1,_⟩ | ⟨_,h1⟩
  ·exact absurd (List.mem_of_getElem? h1) hns
  ·exact h1
 refine Br.yes (show k < 0 by omega) ?_
 conv => cbv
 refine RetF.mk [.p (.bool false)] [hpA 0 1 5 6 3 W ph sp cy,hpB 1 2 4 3 W,hpC 2 3 127 2 N,hpP 3 L,hpP 4 D,hpF 5 z ov,hpP 6 Q,(7,.fix 0 o)] 8 (Re.at [(0,0),(1,1),(2,2),(3,3),(4,4),(5,5),(6,6),(7,7)] []) rfl ⟨rfl,rfl,rfl⟩
theorem listRemove0_lx (R : List Rw) (ws C G : List Int) (N W ph sp cy : Int) (L D Q : List PV) (z : ByteArray) (ov : Bool) (h : HM R ws C G N W L D Q z) (M : Hp) (hM : Cont R ws M) (q : Qs) (hY : Sys M q) (o : Unit → Obj) (ho : IsPow o) (hph : ph = 0) (hch : ∀ a F,M a = some (1,F) → ∃ y0 y1 y2 y3 y4 y5 y6 y7 y8,F = [y0,y1,y2,y3,y4,y5,y6,y7,y8]) (hsu : ∀ a F,M a = some (3,F) → ∃ z0 z1 z2 z3 z4 z5 z6,F = [z0,z1,z2,z3,z4,z5,z6]) (c s y0 y1 y2 y3 y4 y5 y6 y7 y8 : Int) (hMc : M c = some (1,[y0,y1,y2,y3,y4,y5,y6,y7,y8])) (hsq : s ∈ q c false) : CallF (fun _ => Tryz.prog) 96 [.ptr 0 (.lit 0),i6 c,.p (.bool false),i6 s] [hpA 0 1 5 6 3 W ph sp cy,hpB 1 2 4 3 W,hpC 2 3 127 2 N,hpP 3 L,hpP 4 D,hpF 5 z ov,hpP 6 Q,(7,.fix 0 o)] 8 (fun r h n => ∃ (ws' : List Int) (D' : List PV),r = .p (.bool true) ∧ h = [hpA 0 1 5 6 3 W ph sp cy,hpB 1 2 4 3 W,hpC 2 3 127 2 N,hpP 3 L,hpP 4 D',hpF 5 z ov,hpP 6 Q,(7,.fix 0 o)] ∧ n = 8 ∧ HM R ws' C G N W L D' Q z ∧ Cont R ws' (relink M (updQ q c false ((q c false).filter (fun x => decide (x ≠ s)))))) := by
 have hcl := hY.len h.a hM c false
 have hRr := h.r
 have hnd := hY.nd c false
 obtain ⟨A,B,hq⟩ := List.append_of_mem hsq
 have hfil : (q c false).filter (fun x => decide (x ≠ s)) = A ++ B := by rw [hq]; rw [hq] at hnd; exact filter_ne hnd
 rw [hfil]
 obtain ⟨g,w,n,p,r_,m_,hMs⟩ : ∃ g w n p r m,M s = some (3,[g,c,w,n,p,r,m]) := by
  obtain ⟨g,w,n,p,r,m,e⟩ := hY.sg c false s hsq
  exact ⟨g,w,n,p,r,m,e⟩
 obtain ⟨hp,hb⟩ := hM.chan h.a hMc
 obtain ⟨hp3,hb3,_⟩ := hM.sudog h.a hMs
 have hlk := hY.lnk hMc
 rw [lnk_chan] at hlk
 simp only [Prod.mk.injEq,List.cons.injEq,true_and,and_true] at hlk
 obtain ⟨hl5,hl6,hl7,hl8⟩ := hlk
 have hsl := hM.len h.a hMs
 have hsc : s ≠ c := fun e => by rw [e,hMc] at hMs; cases hMs
 have hn1 : -1 ≤ n := hp3 _ (by simp)
 have hn2 : b62 n := hb3 _ (by simp)
 have hh1 : -1 ≤ y5 := hp _ (by simp)
 have hh2 : b62 y5 := hb _ (by simp)
 have ht1 : -1 ≤ y6 := hp _ (by simp)
 have ht2 : b62 y6 := hb _ (by simp)
 have hm2 : b62 (-1) := by unfold b62; omega
 have hty : y6 = ltQ (A ++ s :: B) := by rw [← hq]; exact hl6.symm
 have hBs : ltQ (A ++ s :: B) = s ↔ B = [] := by
  constructor
  ·intro e
   cases hB : B with
   | nil => rfl
   | cons x l =>
    have h1 : ltQ (A ++ s :: x :: l) = ltQ (x :: l) := by
     unfold ltQ
     simp [List.getLast?_cons_cons]
     cases hgl : (x :: l).getLast? with
     | none => simp at hgl
     | some v => rfl
    rw [hB,h1] at e
    have h2 : s ∈ x :: l := e ▸ ltQ_mem (by simp)
    rw [hq,hB] at hnd
    exact absurd h2 (List.nodup_cons.1 (List.nodup_append.1 hnd).2.1).1
  ·intro e; rw [e]; unfold ltQ; simp
 refine callF_of_body tok Tryz.func96 (by kernel_rfl) rfl rfl rfl ?_; conv => cbv
 refine cfr (listAll_lx R ws C G N W ph sp cy L D Q z ov h M hM q hY c false (hch c) hsu) [(0,0),(1,1),(2,2),(3,3),(4,4),(5,5),(6,6)] (fun r h' n' hrr => ?_)
 obtain ⟨ml,cells,e1,e2,e3,hml,hcel⟩ := hrr
 subst e1 e2 e3
 conv => cbv
 refine callF_lend (index_lx (q c false) s ml cells hcel hml (by omega)) (by simp [lends,lendV,hget,I.val,pvle]) (fun r h' n' ⟨⟨k,e1,hk⟩,e2,e3⟩ => by subst e1 e2; exact ⟨trivial,trivial⟩) (fun r h' n' ⟨⟨k,e1,hk⟩,e2,e3⟩ => ?_)
 subst e1 e2 e3
 have hk1 : k = (A.length : Int) := by
  rcases hk with ⟨i,h1,_,h2⟩ | ⟨h1,_⟩
  ·have h3 : (q c false)[A.length]? = some s := by rw [hq]; simp
   have := (List.getElem?_inj (by have := (List.getElem?_eq_some_iff.1 h1).1; omega) hnd).1 (h1.trans h3.symm)
   omega
  ·exact absurd hsq h1
 have hkl : k < ml := by rw [hml,hq,hk1]; simp; omega
 conv => cbv
 refine Br.no (show ¬ (k < 0) by omega) ?_
 conv => cbv
 refine cfr (chanM_lx R ws C G N W ph sp cy L D Q z ov h M hM c y0 y1 y2 y3 y4 y5 y6 y7 y8 hMc) [(0,0),(1,1),(2,2),(3,3),(4,4),(5,5),(6,6)] (fun r h' n' hrr => ?_)
 obtain ⟨⟨e0,e1,he0⟩,e2,e3⟩ := hrr
 subst e1 e2 e3
 conv => cbv
 refine callF_frame (lends_lx y0 y1 y2 y3 y4 y5 y6 y7 y8 false) [] rfl trivial rfl rfl (fun r h' n' hrr => ?_)
 obtain ⟨⟨hd,tl,e1,hhd,htl2⟩,e2,e3⟩ := hrr
 subst e1 e2 e3
 obtain rfl : y5 = hd := hhd.symm
 obtain rfl : y6 = tl := htl2.symm
 conv => cbv
 refine cfr (sudogM_lx R ws C G N W ph sp cy L D Q z ov h M hM s g c w n p r_ m_ hMs) [(0,0),(1,1),(2,2),(3,3),(4,4),(5,5),(6,6)] (fun r h' n' hrr => ?_)
 obtain ⟨⟨e5,e1,he5⟩,e2,e3⟩ := hrr
 subst e1 e2 e3
 conv => cbv
 refine Br.mk (fun gk => ?_) (fun gk => ?_)
 ·have gk : k = 0 := gk
  have hA : A = [] := List.eq_nil_of_length_eq_zero (by omega)
  subst hA
  simp only [List.nil_append] at hq hty hBs
  obtain ⟨hnB,heq⟩ := hY.pop hq hMc hMs
  conv => cbv
  refine Br.mk (fun gt => ?_) (fun gt => ?_)
  ·have gt : y6 = s := gt
   have hBe : B = [] := hBs.1 (hty.symm.trans gt)
   rw [← hnB,show ltQ B = -1 by rw [hBe]; rfl] at heq
   simp only [List.nil_append]
   conv => cbv
   refine CallF.le (args0 := [.ptr 0 (.lit 0),i6 c,.p (.bool false),i6 n,i6 (-1)]) (cfr (setEnds0_lx R ws C G N W ph sp cy L D Q z ov h M hM o ho hph c n (-1) y0 y1 y2 y3 y4 y5 y6 y7 y8 hMc ⟨hn1,hn2⟩ ⟨by decide,hm2⟩) [(0,0),(1,1),(2,2),(3,3),(4,4),(5,5),(6,6),(7,7)] (fun r h' n' hrr => ?_)) (by simp [ales,ale,pvle,I.val])
   obtain ⟨ws1,D1,e1,e2,e3,h1,c1⟩ := hrr
   subst e1 e2 e3
   conv => cbv
   refine CallF.le (args0 := [.ptr 0 (.lit 0),i6 s,i6 (-1)]) (cfr (setNextM_lx R ws1 C G N W ph sp cy L D1 Q z ov h1 _ c1 o ho hph s (-1) g c w n p r_ m_ ((upd_ne hsc).trans hMs) (by decide) hm2) [(0,0),(1,1),(2,2),(3,3),(4,4),(5,5),(6,6),(7,7)] (fun r h' n' hrr => ?_)) (by simp [ales,ale,pvle,I.val])
   obtain ⟨ws2,D2,e1,e2,e3,h2,c2⟩ := hrr
   subst e1 e2 e3
   conv => cbv
   refine RetF.mk [.p (.bool true)] [hpA 0 1 5 6 3 W ph sp cy,hpB 1 2 4 3 W,hpC 2 3 127 2 N,hpP 3 L,hpP 4 D2,hpF 5 z ov,hpP 6 Q,(7,.fix 0 o)] 8 (Re.at [(0,0),(1,1),(2,2),(3,3),(4,4),(5,5),(6,6),(7,7)] []) rfl ⟨ws2,D2,rfl,rfl,rfl,h2,by rw [heq]; exact c2⟩
  ·have gt : ¬ y6 = s := gt
   have hBe : B ≠ [] := fun e => gt (hty.trans (hBs.2 e))
   have hlB : ltQ B = y6 := by rw [ltQ_tail (a := s),if_neg hBe,← hty]
   rw [← hnB,hlB] at heq
   simp only [List.nil_append]
   conv => cbv
   refine CallF.le (args0 := [.ptr 0 (.lit 0),i6 c,.p (.bool false),i6 n,i6 y6]) (cfr (setEnds0_lx R ws C G N W ph sp cy L D Q z ov h M hM o ho hph c n y6 y0 y1 y2 y3 y4 y5 y6 y7 y8 hMc ⟨hn1,hn2⟩ ⟨ht1,ht2⟩) [(0,0),(1,1),(2,2),(3,3),(4,4),(5,5),(6,6),(7,7)] (fun r h' n' hrr => ?_)) (by simp [ales,ale,pvle,I.val])
   obtain ⟨ws1,D1,e1,e2,e3,h1,c1⟩ := hrr
   subst e1 e2 e3
   conv => cbv
   refine CallF.le (args0 := [.ptr 0 (.lit 0),i6 s,i6 (-1)]) (cfr (setNextM_lx R ws1 C G N W ph sp cy L D1 Q z ov h1 _ c1 o ho hph s (-1) g c w n p r_ m_ ((upd_ne hsc).trans hMs) (by decide) hm2) [(0,0),(1,1),(2,2),(3,3),(4,4),(5,5),(6,6),(7,7)] (fun r h' n' hrr => ?_)) (by simp [ales,ale,pvle,I.val])
   obtain ⟨ws2,D2,e1,e2,e3,h2,c2⟩ := hrr
   subst e1 e2 e3
   conv => cbv
   refine RetF.mk [.p (.bool true)] [hpA 0 1 5 6 3 W ph sp cy,hpB 1 2 4 3 W,hpC 2 3 127 2 N,hpP 3 L,hpP 4 D2,hpF 5 z ov,hpP 6 Q,(7,.fix 0 o)] 8 (Re.at [(0,0),(1,1),(2,2),(3,3),(4,4),(5,5),(6,6),(7,7)] []) rfl ⟨ws2,D2,rfl,rfl,rfl,h2,by rw [heq]; exact c2⟩
 ·have gk : ¬ k = 0 := gk
  obtain ⟨A',x,rfl⟩ : ∃ A' x,A = A' ++ [x] := by
   rcases List.eq_nil_or_concat A with e | ⟨l,x,e⟩
   ·rw [e] at hk1; exact absurd hk1 gk
   ·exact ⟨l,x,by rw [e]; simp⟩
  simp only [List.append_assoc,List.singleton_append] at hq hty hBs ⊢
  obtain ⟨gx,wx,nx,px,rx,mx,hMx⟩ : ∃ gx wx nx px rx mx,M x = some (3,[gx,c,wx,nx,px,rx,mx]) := hY.sg c false x (by rw [hq]; simp)
  obtain ⟨hnB,hxs,heq⟩ := hY.rem hq hMc hMs hMx
  have hxl := hM.len h.a hMx
  have hx1 : -1 ≤ x := by omega
  have hx2 : b62 x := by unfold b62; omega
  have hxc : x ≠ c := fun e => by rw [e,hMc] at hMx; cases hMx
  obtain ⟨k1,hk1'⟩ : ∃ k1,k1 = k - 1 := ⟨_,rfl⟩
  have hcell : cells[k1.toNat]? = some (.int .i64 (.sym x)) := by
   rw [hcel,hq]
   refine ipv_get ?_
   simp at hk1
   rw [List.getElem?_append_right (by omega),show k1.toNat - A'.length = 0 by omega]
   rfl
  conv => cbv
  refine Fit.mk (by show (-9223372036854775808 : Int) ≤ k - 1; omega) (by show k - 1 ≤ 9223372036854775807; omega) fun k2 hk2 => ?_
  obtain rfl : k1 = k2 := hk1'.trans (show k2 = k - 1 from hk2).symm
  conv => cbv
  refine Need.mk (show 0 ≤ k1 ∧ k1 < ml by omega) ?_
  conv => cbv
  refine Cell.at k1 _ hcell (by simp [I.val]) rfl ?_
  conv => cbv
  refine CallF.le (args0 := [.ptr 0 (.lit 0),i6 x,i6 n]) (cfr (setNextM_lx R ws C G N W ph sp cy L D Q z ov h M hM o ho hph x n gx c wx nx px rx mx hMx hn1 hn2) [(0,0),(1,1),(2,2),(3,3),(4,4),(5,5),(6,6),(7,7)] (fun r h' n' hrr => ?_)) (by simp [ales,ale,pvle,I.val])
  obtain ⟨ws1,D1,e1,e2,e3,h1,c1⟩ := hrr
  subst e1 e2 e3
  conv => cbv
  refine Br.mk (fun gt => ?_) (fun gt => ?_)
  ·have gt : y6 = s := gt
   have hBe : B = [] := hBs.1 (hty.symm.trans gt)
   rw [← hnB,if_pos hBe] at heq
   conv => cbv
   refine CallF.le (args0 := [.ptr 0 (.lit 0),i6 c,.p (.bool false),i6 y5,i6 x]) (cfr (setEnds0_lx R ws1 C G N W ph sp cy L D1 Q z ov h1 _ c1 o ho hph c y5 x y0 y1 y2 y3 y4 y5 y6 y7 y8 ((upd_ne hxc.symm).trans hMc) ⟨hh1,hh2⟩ ⟨hx1,hx2⟩) [(0,0),(1,1),(2,2),(3,3),(4,4),(5,5),(6,6),(7,7)] (fun r h' n' hrr => ?_)) (by simp [ales,ale,pvle,I.val])
   obtain ⟨ws2,D2,e1,e2,e3,h2,c2⟩ := hrr
   subst e1 e2 e3
   conv => cbv
   refine CallF.le (args0 := [.ptr 0 (.lit 0),i6 s,i6 (-1)]) (cfr (setNextM_lx R ws2 C G N W ph sp cy L D2 Q z ov h2 _ c2 o ho hph s (-1) g c w n p r_ m_ ((upd_ne hsc).trans ((upd_ne hxs.symm).trans hMs)) (by decide) hm2) [(0,0),(1,1),(2,2),(3,3),(4,4),(5,5),(6,6),(7,7)] (fun r h' n' hrr => ?_)) (by simp [ales,ale,pvle,I.val])
   obtain ⟨ws3,D3,e1,e2,e3,h3,c3⟩ := hrr
   subst e1 e2 e3
   conv => cbv
   refine RetF.mk [.p (.bool true)] [hpA 0 1 5 6 3 W ph sp cy,hpB 1 2 4 3 W,hpC 2 3 127 2 N,hpP 3 L,hpP 4 D3,hpF 5 z ov,hpP 6 Q,(7,.fix 0 o)] 8 (Re.at [(0,0),(1,1),(2,2),(3,3),(4,4),(5,5),(6,6),(7,7)] []) rfl ⟨ws3,D3,rfl,rfl,rfl,h3,by rw [heq]; exact c3⟩
  ·have gt : ¬ y6 = s := gt
   have hBe : B ≠ [] := fun e => gt (hty.trans (hBs.2 e))
   rw [← hnB,if_neg hBe] at heq
   conv => cbv
   refine CallF.le (args0 := [.ptr 0 (.lit 0),i6 c,.p (.bool false),i6 y5,i6 y6]) (cfr (setEnds0_lx R ws1 C G N W ph sp cy L D1 Q z ov h1 _ c1 o ho hph c y5 y6 y0 y1 y2 y3 y4 y5 y6 y7 y8 ((upd_ne hxc.symm).trans hMc) ⟨hh1,hh2⟩ ⟨ht1,ht2⟩) [(0,0),(1,1),(2,2),(3,3),(4,4),(5,5),(6,6),(7,7)] (fun r h' n' hrr => ?_)) (by simp [ales,ale,pvle,I.val])
   obtain ⟨ws2,D2,e1,e2,e3,h2,c2⟩ := hrr
   subst e1 e2 e3
   conv => cbv
   refine CallF.le (args0 := [.ptr 0 (.lit 0),i6 s,i6 (-1)]) (cfr (setNextM_lx R ws2 C G N W ph sp cy L D2 Q z ov h2 _ c2 o ho hph s (-1) g c w n p r_ m_ ((upd_ne hsc).trans ((upd_ne hxs.symm).trans hMs)) (by decide) hm2) [(0,0),(1,1),(2,2),(3,3),(4,4),(5,5),(6,6),(7,7)] (fun r h' n' hrr => ?_)) (by simp [ales,ale,pvle,I.val])
   obtain ⟨ws3,D3,e1,e2,e3,h3,c3⟩ := hrr
   subst e1 e2 e3
   conv => cbv
   refine RetF.mk [.p (.bool true)] [hpA 0 1 5 6 3 W ph sp cy,hpB 1 2 4 3 W,hpC 2 3 127 2 N,hpP 3 L,hpP 4 D3,hpF 5 z ov,hpP 6 Q,(7,.fix 0 o)] 8 (Re.at [(0,0),(1,1),(2,2),(3,3),(4,4),(5,5),(6,6),(7,7)] []) rfl ⟨ws3,D3,rfl,rfl,rfl,h3,by rw [heq]; exact c3⟩
theorem listRemove1_lx (R : List Rw) (ws C G : List Int) (N W ph sp cy : Int) (L D Q : List PV) (z : ByteArray) (ov : Bool) (h : HM R ws C G N W L D Q z) (M : Hp) (hM : Cont R ws M) (q : Qs) (hY : Sys M q) (o : Unit → Obj) (ho : IsPow o) (hph : ph = 0) (hch : ∀ a F,M a = some (1,F) → ∃ y0 y1 y2 y3 y4 y5 y6 y7 y8,F = [y0,y1,y2,y3,y4,y5,y6,y7,y8]) (hsu : ∀ a F,M a = some (3,F) → ∃ z0 z1 z2 z3 z4 z5 z6,F = [z0,z1,z2,z3,z4,z5,z6]) (c s y0 y1 y2 y3 y4 y5 y6 y7 y8 : Int) (hMc : M c = some (1,[y0,y1,y2,y3,y4,y5,y6,y7,y8])) (hsq : s ∈ q c true) : CallF (fun _ => Tryz.prog) 96 [.ptr 0 (.lit 0),i6 c,.p (.bool true),i6 s] [hpA 0 1 5 6 3 W ph sp cy,hpB 1 2 4 3 W,hpC 2 3 127 2 N,hpP 3 L,hpP 4 D,hpF 5 z ov,hpP 6 Q,(7,.fix 0 o)] 8 (fun r h n => ∃ (ws' : List Int) (D' : List PV),r = .p (.bool true) ∧ h = [hpA 0 1 5 6 3 W ph sp cy,hpB 1 2 4 3 W,hpC 2 3 127 2 N,hpP 3 L,hpP 4 D',hpF 5 z ov,hpP 6 Q,(7,.fix 0 o)] ∧ n = 8 ∧ HM R ws' C G N W L D' Q z ∧ Cont R ws' (relink M (updQ q c true ((q c true).filter (fun x => decide (x ≠ s)))))) := by
 have hcl := hY.len h.a hM c true
 have hRr := h.r
 have hnd := hY.nd c true
 obtain ⟨A,B,hq⟩ := List.append_of_mem hsq
 have hfil : (q c true).filter (fun x => decide (x ≠ s)) = A ++ B := by rw [hq]; rw [hq] at hnd; exact filter_ne hnd
 rw [hfil]
 obtain ⟨g,w,n,p,r_,m_,hMs⟩ : ∃ g w n p r m,M s = some (3,[g,c,w,n,p,r,m]) := by
  obtain ⟨g,w,n,p,r,m,e⟩ := hY.sg c true s hsq
  exact ⟨g,w,n,p,r,m,e⟩
 obtain ⟨hp,hb⟩ := hM.chan h.a hMc
 obtain ⟨hp3,hb3,_⟩ := hM.sudog h.a hMs
 have hlk := hY.lnk hMc
 rw [lnk_chan] at hlk
 simp only [Prod.mk.injEq,List.cons.injEq,true_and,and_true] at hlk
 obtain ⟨hl5,hl6,hl7,hl8⟩ := hlk
 have hsl := hM.len h.a hMs
 have hsc : s ≠ c := fun e => by rw [e,hMc] at hMs; cases hMs
 have hn1 : -1 ≤ n := hp3 _ (by simp)
 have hn2 : b62 n := hb3 _ (by simp)
 have hh1 : -1 ≤ y7 := hp _ (by simp)
 have hh2 : b62 y7 := hb _ (by simp)
 have ht1 : -1 ≤ y8 := hp _ (by simp)
 have ht2 : b62 y8 := hb _ (by simp)
 have hm2 : b62 (-1) := by unfold b62; omega
 have hty : y8 = ltQ (A ++ s :: B) := by rw [← hq]; exact hl8.symm
 have hBs : ltQ (A ++ s :: B) = s ↔ B = [] := by
  constructor
  ·intro e
   cases hB : B with
   | nil => rfl
   | cons x l =>
    have h1 : ltQ (A ++ s :: x :: l) = ltQ (x :: l) := by
     unfold ltQ
     simp [List.getLast?_cons_cons]
     cases hgl : (x :: l).getLast? with
     | none => simp at hgl
     | some v => rfl
    rw [hB,h1] at e
    have h2 : s ∈ x :: l := e ▸ ltQ_mem (by simp)
    rw [hq,hB] at hnd
    exact absurd h2 (List.nodup_cons.1 (List.nodup_append.1 hnd).2.1).1
  ·intro e; rw [e]; unfold ltQ; simp
 refine callF_of_body tok Tryz.func96 (by kernel_rfl) rfl rfl rfl ?_; conv => cbv
 refine cfr (listAll_lx R ws C G N W ph sp cy L D Q z ov h M hM q hY c true (hch c) hsu) [(0,0),(1,1),(2,2),(3,3),(4,4),(5,5),(6,6)] (fun r h' n' hrr => ?_)
 obtain ⟨ml,cells,e1,e2,e3,hml,hcel⟩ := hrr
 subst e1 e2 e3
 conv => cbv
 refine callF_lend (index_lx (q c true) s ml cells hcel hml (by omega)) (by simp [lends,lendV,hget,I.val,pvle]) (fun r h' n' ⟨⟨k,e1,hk⟩,e2,e3⟩ => by subst e1 e2; exact ⟨trivial,trivial⟩) (fun r h' n' ⟨⟨k,e1,hk⟩,e2,e3⟩ => ?_)
 subst e1 e2 e3
 have hk1 : k = (A.length : Int) := by
  rcases hk with ⟨i,h1,_,h2⟩ | ⟨h1,_⟩
  ·have h3 : (q c true)[A.length]? = some s := by rw [hq]; simp
   have := (List.getElem?_inj (by have := (List.getElem?_eq_some_iff.1 h1).1; omega) hnd).1 (h1.trans h3.symm)
   omega
  ·exact absurd hsq h1
 have hkl : k < ml := by rw [hml,hq,hk1]; simp; omega
 conv => cbv
 refine Br.no (show ¬ (k < 0) by omega) ?_
 conv => cbv
 refine cfr (chanM_lx R ws C G N W ph sp cy L D Q z ov h M hM c y0 y1 y2 y3 y4 y5 y6 y7 y8 hMc) [(0,0),(1,1),(2,2),(3,3),(4,4),(5,5),(6,6)] (fun r h' n' hrr => ?_)
 obtain ⟨⟨e0,e1,he0⟩,e2,e3⟩ := hrr
 subst e1 e2 e3
 conv => cbv
 refine callF_frame (lends_lx y0 y1 y2 y3 y4 y5 y6 y7 y8 true) [] rfl trivial rfl rfl (fun r h' n' hrr => ?_)
 obtain ⟨⟨hd,tl,e1,hhd,htl2⟩,e2,e3⟩ := hrr
 subst e1 e2 e3
 obtain rfl : y7 = hd := hhd.symm
 obtain rfl : y8 = tl := htl2.symm
 conv => cbv
 refine cfr (sudogM_lx R ws C G N W ph sp cy L D Q z ov h M hM s g c w n p r_ m_ hMs) [(0,0),(1,1),(2,2),(3,3),(4,4),(5,5),(6,6)] (fun r h' n' hrr => ?_)
 obtain ⟨⟨e5,e1,he5⟩,e2,e3⟩ := hrr
 subst e1 e2 e3
 conv => cbv
 refine Br.mk (fun gk => ?_) (fun gk => ?_)
 ·have gk : k = 0 := gk
  have hA : A = [] := List.eq_nil_of_length_eq_zero (by omega)
  subst hA
  simp only [List.nil_append] at hq hty hBs
  obtain ⟨hnB,heq⟩ := hY.pop hq hMc hMs
  conv => cbv
  refine Br.mk (fun gt => ?_) (fun gt => ?_)
  ·have gt : y8 = s := gt
   have hBe : B = [] := hBs.1 (hty.symm.trans gt)
   rw [← hnB,show ltQ B = -1 by rw [hBe]; rfl] at heq
   simp only [List.nil_append]
   conv => cbv
   refine CallF.le (args0 := [.ptr 0 (.lit 0),i6 c,.p (.bool true),i6 n,i6 (-1)]) (cfr (setEnds1_lx R ws C G N W ph sp cy L D Q z ov h M hM o ho hph c n (-1) y0 y1 y2 y3 y4 y5 y6 y7 y8 hMc ⟨hn1,hn2⟩ ⟨by decide,hm2⟩) [(0,0),(1,1),(2,2),(3,3),(4,4),(5,5),(6,6),(7,7)] (fun r h' n' hrr => ?_)) (by simp [ales,ale,pvle,I.val])
   obtain ⟨ws1,D1,e1,e2,e3,h1,c1⟩ := hrr
   subst e1 e2 e3
   conv => cbv
   refine CallF.le (args0 := [.ptr 0 (.lit 0),i6 s,i6 (-1)]) (cfr (setNextM_lx R ws1 C G N W ph sp cy L D1 Q z ov h1 _ c1 o ho hph s (-1) g c w n p r_ m_ ((upd_ne hsc).trans hMs) (by decide) hm2) [(0,0),(1,1),(2,2),(3,3),(4,4),(5,5),(6,6),(7,7)] (fun r h' n' hrr => ?_)) (by simp [ales,ale,pvle,I.val])
   obtain ⟨ws2,D2,e1,e2,e3,h2,c2⟩ := hrr
   subst e1 e2 e3
   conv => cbv
   refine RetF.mk [.p (.bool true)] [hpA 0 1 5 6 3 W ph sp cy,hpB 1 2 4 3 W,hpC 2 3 127 2 N,hpP 3 L,hpP 4 D2,hpF 5 z ov,hpP 6 Q,(7,.fix 0 o)] 8 (Re.at [(0,0),(1,1),(2,2),(3,3),(4,4),(5,5),(6,6),(7,7)] []) rfl ⟨ws2,D2,rfl,rfl,rfl,h2,by rw [heq]; exact c2⟩
  ·have gt : ¬ y8 = s := gt
   have hBe : B ≠ [] := fun e => gt (hty.trans (hBs.2 e))
   have hlB : ltQ B = y8 := by rw [ltQ_tail (a := s),if_neg hBe,← hty]
   rw [← hnB,hlB] at heq
   simp only [List.nil_append]
   conv => cbv
   refine CallF.le (args0 := [.ptr 0 (.lit 0),i6 c,.p (.bool true),i6 n,i6 y8]) (cfr (setEnds1_lx R ws C G N W ph sp cy L D Q z ov h M hM o ho hph c n y8 y0 y1 y2 y3 y4 y5 y6 y7 y8 hMc ⟨hn1,hn2⟩ ⟨ht1,ht2⟩) [(0,0),(1,1),(2,2),(3,3),(4,4),(5,5),(6,6),(7,7)] (fun r h' n' hrr => ?_)) (by simp [ales,ale,pvle,I.val])
   obtain ⟨ws1,D1,e1,e2,e3,h1,c1⟩ := hrr
   subst e1 e2 e3
   conv => cbv
   refine CallF.le (args0 := [.ptr 0 (.lit 0),i6 s,i6 (-1)]) (cfr (setNextM_lx R ws1 C G N W ph sp cy L D1 Q z ov h1 _ c1 o ho hph s (-1) g c w n p r_ m_ ((upd_ne hsc).trans hMs) (by decide) hm2) [(0,0),(1,1),(2,2),(3,3),(4,4),(5,5),(6,6),(7,7)] (fun r h' n' hrr => ?_)) (by simp [ales,ale,pvle,I.val])
   obtain ⟨ws2,D2,e1,e2,e3,h2,c2⟩ := hrr
   subst e1 e2 e3
   conv => cbv
   refine RetF.mk [.p (.bool true)] [hpA 0 1 5 6 3 W ph sp cy,hpB 1 2 4 3 W,hpC 2 3 127 2 N,hpP 3 L,hpP 4 D2,hpF 5 z ov,hpP 6 Q,(7,.fix 0 o)] 8 (Re.at [(0,0),(1,1),(2,2),(3,3),(4,4),(5,5),(6,6),(7,7)] []) rfl ⟨ws2,D2,rfl,rfl,rfl,h2,by rw [heq]; exact c2⟩
 ·have gk : ¬ k = 0 := gk
  obtain ⟨A',x,rfl⟩ : ∃ A' x,A = A' ++ [x] := by
   rcases List.eq_nil_or_concat A with e | ⟨l,x,e⟩
   ·rw [e] at hk1; exact absurd hk1 gk
   ·exact ⟨l,x,by rw [e]; simp⟩
  simp only [List.append_assoc,List.singleton_append] at hq hty hBs ⊢
  obtain ⟨gx,wx,nx,px,rx,mx,hMx⟩ : ∃ gx wx nx px rx mx,M x = some (3,[gx,c,wx,nx,px,rx,mx]) := hY.sg c true x (by rw [hq]; simp)
  obtain ⟨hnB,hxs,heq⟩ := hY.rem hq hMc hMs hMx
  have hxl := hM.len h.a hMx
  have hx1 : -1 ≤ x := by omega
  have hx2 : b62 x := by unfold b62; omega
  have hxc : x ≠ c := fun e => by rw [e,hMc] at hMx; cases hMx
  obtain ⟨k1,hk1'⟩ : ∃ k1,k1 = k - 1 := ⟨_,rfl⟩
  have hcell : cells[k1.toNat]? = some (.int .i64 (.sym x)) := by
   rw [hcel,hq]
   refine ipv_get ?_
   simp at hk1
   rw [List.getElem?_append_right (by omega),show k1.toNat - A'.length = 0 by omega]
   rfl
  conv => cbv
  refine Fit.mk (by show (-9223372036854775808 : Int) ≤ k - 1; omega) (by show k - 1 ≤ 9223372036854775807; omega) fun k2 hk2 => ?_
  obtain rfl : k1 = k2 := hk1'.trans (show k2 = k - 1 from hk2).symm
  conv => cbv
  refine Need.mk (show 0 ≤ k1 ∧ k1 < ml by omega) ?_
  conv => cbv
  refine Cell.at k1 _ hcell (by simp [I.val]) rfl ?_
  conv => cbv
  refine CallF.le (args0 := [.ptr 0 (.lit 0),i6 x,i6 n]) (cfr (setNextM_lx R ws C G N W ph sp cy L D Q z ov h M hM o ho hph x n gx c wx nx px rx mx hMx hn1 hn2) [(0,0),(1,1),(2,2),(3,3),(4,4),(5,5),(6,6),(7,7)] (fun r h' n' hrr => ?_)) (by simp [ales,ale,pvle,I.val])
  obtain ⟨ws1,D1,e1,e2,e3,h1,c1⟩ := hrr
  subst e1 e2 e3
  conv => cbv
  refine Br.mk (fun gt => ?_) (fun gt => ?_)
  ·have gt : y8 = s := gt
   have hBe : B = [] := hBs.1 (hty.symm.trans gt)
   rw [← hnB,if_pos hBe] at heq
   conv => cbv
   refine CallF.le (args0 := [.ptr 0 (.lit 0),i6 c,.p (.bool true),i6 y7,i6 x]) (cfr (setEnds1_lx R ws1 C G N W ph sp cy L D1 Q z ov h1 _ c1 o ho hph c y7 x y0 y1 y2 y3 y4 y5 y6 y7 y8 ((upd_ne hxc.symm).trans hMc) ⟨hh1,hh2⟩ ⟨hx1,hx2⟩) [(0,0),(1,1),(2,2),(3,3),(4,4),(5,5),(6,6),(7,7)] (fun r h' n' hrr => ?_)) (by simp [ales,ale,pvle,I.val])
   obtain ⟨ws2,D2,e1,e2,e3,h2,c2⟩ := hrr
   subst e1 e2 e3
   conv => cbv
   refine CallF.le (args0 := [.ptr 0 (.lit 0),i6 s,i6 (-1)]) (cfr (setNextM_lx R ws2 C G N W ph sp cy L D2 Q z ov h2 _ c2 o ho hph s (-1) g c w n p r_ m_ ((upd_ne hsc).trans ((upd_ne hxs.symm).trans hMs)) (by decide) hm2) [(0,0),(1,1),(2,2),(3,3),(4,4),(5,5),(6,6),(7,7)] (fun r h' n' hrr => ?_)) (by simp [ales,ale,pvle,I.val])
   obtain ⟨ws3,D3,e1,e2,e3,h3,c3⟩ := hrr
   subst e1 e2 e3
   conv => cbv
   refine RetF.mk [.p (.bool true)] [hpA 0 1 5 6 3 W ph sp cy,hpB 1 2 4 3 W,hpC 2 3 127 2 N,hpP 3 L,hpP 4 D3,hpF 5 z ov,hpP 6 Q,(7,.fix 0 o)] 8 (Re.at [(0,0),(1,1),(2,2),(3,3),(4,4),(5,5),(6,6),(7,7)] []) rfl ⟨ws3,D3,rfl,rfl,rfl,h3,by rw [heq]; exact c3⟩
  ·have gt : ¬ y8 = s := gt
   have hBe : B ≠ [] := fun e => gt (hty.trans (hBs.2 e))
   rw [← hnB,if_neg hBe] at heq
   conv => cbv
   refine CallF.le (args0 := [.ptr 0 (.lit 0),i6 c,.p (.bool true),i6 y7,i6 y8]) (cfr (setEnds1_lx R ws1 C G N W ph sp cy L D1 Q z ov h1 _ c1 o ho hph c y7 y8 y0 y1 y2 y3 y4 y5 y6 y7 y8 ((upd_ne hxc.symm).trans hMc) ⟨hh1,hh2⟩ ⟨ht1,ht2⟩) [(0,0),(1,1),(2,2),(3,3),(4,4),(5,5),(6,6),(7,7)] (fun r h' n' hrr => ?_)) (by simp [ales,ale,pvle,I.val])
   obtain ⟨ws2,D2,e1,e2,e3,h2,c2⟩ := hrr
   subst e1 e2 e3
   conv => cbv
   refine CallF.le (args0 := [.ptr 0 (.lit 0),i6 s,i6 (-1)]) (cfr (setNextM_lx R ws2 C G N W ph sp cy L D2 Q z ov h2 _ c2 o ho hph s (-1) g c w n p r_ m_ ((upd_ne hsc).trans ((upd_ne hxs.symm).trans hMs)) (by decide) hm2) [(0,0),(1,1),(2,2),(3,3),(4,4),(5,5),(6,6),(7,7)] (fun r h' n' hrr => ?_)) (by simp [ales,ale,pvle,I.val])
   obtain ⟨ws3,D3,e1,e2,e3,h3,c3⟩ := hrr
   subst e1 e2 e3
   conv => cbv
   refine RetF.mk [.p (.bool true)] [hpA 0 1 5 6 3 W ph sp cy,hpB 1 2 4 3 W,hpC 2 3 127 2 N,hpP 3 L,hpP 4 D3,hpF 5 z ov,hpP 6 Q,(7,.fix 0 o)] 8 (Re.at [(0,0),(1,1),(2,2),(3,3),(4,4),(5,5),(6,6),(7,7)] []) rfl ⟨ws3,D3,rfl,rfl,rfl,h3,by rw [heq]; exact c3⟩
def rmQ (q : Qs) (l : List Int) : Qs := fun c d => (q c d).filter (fun x => decide (x ∉ l))
theorem rmQ_nil (q : Qs) : rmQ q [] = q := by
 funext c d
 unfold rmQ
 rw [List.filter_eq_self.2]
 intro x _
 simp
theorem rmQ_rmQ (q : Qs) (l l' : List Int) : rmQ (rmQ q l) l' = rmQ q (l ++ l') := by
 funext c d
 unfold rmQ
 rw [List.filter_filter]
 congr 1
 funext x
 by_cases h1 : x ∈ l <;> by_cases h2 : x ∈ l' <;> simp [h1,h2]
theorem rmQ_mem {q : Qs} {l : List Int} {c x : Int} {d : Bool} : x ∈ rmQ q l c d ↔ x ∈ q c d ∧ x ∉ l := by
 unfold rmQ
 rw [List.mem_filter]
 simp
theorem sysFilt {M : Hp} {q : Qs} (h : Sys M q) (l : List Int) : Sys (relink M (rmQ q l)) (rmQ q l) :=
 h.relink (fun c d s hs => ⟨h.ch c d s (rmQ_mem.1 hs).1,h.sg c d s (rmQ_mem.1 hs).1⟩) (fun c d => List.filter_sublist.nodup (h.nd c d)) (fun c s h1 h2 => h.dj c s (rmQ_mem.1 h1).1 (rmQ_mem.1 h2).1)
def cutQ (q : Qs) (c : Int) (d : Bool) (s : Int) : Qs := updQ q c d ((q c d).filter (fun x => decide (x ≠ s)))
theorem cutQ_no {q : Qs} {c s : Int} {d : Bool} (h : s ∉ q c d) : cutQ q c d s = q := by
 unfold cutQ
 rw [List.filter_eq_self.2 (fun x hx => by have : x ≠ s := fun e => h (e ▸ hx); simpa using this)]
 funext c' d'
 by_cases e : c' = c ∧ d' = d
 ·obtain ⟨rfl,rfl⟩ := e; exact updQ_same _ _ _ _
 ·exact updQ_ne e
theorem sysCut {M : Hp} {q : Qs} (h : Sys M q) (c : Int) (d : Bool) (s : Int) : Sys (relink M (cutQ q c d s)) (cutQ q c d s) := by
 have hm : ∀ c' d' x,x ∈ cutQ q c d s c' d' → x ∈ q c' d' := fun c' d' x hx => by
  unfold cutQ at hx
  by_cases e : c' = c ∧ d' = d
  ·obtain ⟨rfl,rfl⟩ := e; rw [updQ_same] at hx; exact (List.mem_filter.1 hx).1
  ·rw [updQ_ne e] at hx; exact hx
 refine h.relink (fun c d s hs => ⟨h.ch c d s (hm _ _ _ hs),h.sg c d s (hm _ _ _ hs)⟩) (fun c' d' => ?_) (fun c s h1 h2 => h.dj c s (hm _ _ _ h1) (hm _ _ _ h2))
 unfold cutQ
 by_cases e : c' = c ∧ d' = d
 ·obtain ⟨rfl,rfl⟩ := e; rw [updQ_same]; exact List.filter_sublist.nodup (h.nd _ _)
 ·rw [updQ_ne e]; exact h.nd _ _
theorem cutQ_both {M : Hp} {q : Qs} (h : Sys M q) {c s g w n p r m : Int} (hs : M s = some (3,[g,c,w,n,p,r,m])) : cutQ (cutQ q c true s) c false s = rmQ q [s] := by
 funext c' d'
 unfold cutQ
 by_cases hc : c' = c
 ·subst hc
  cases d' with
  | false =>
   rw [updQ_same,updQ_ne (fun k => by cases k.2)]
   unfold rmQ
   congr 1
   funext x
   simp
  | true =>
   rw [updQ_ne (fun k => by cases k.2),updQ_same]
   unfold rmQ
   congr 1
   funext x
   simp
 ·rw [updQ_ne (fun k => hc k.1),updQ_ne (fun k => hc k.1)]
  unfold rmQ
  rw [List.filter_eq_self.2]
  intro x hx
  have : x ≠ s := fun e => by
   subst e
   obtain ⟨g',w',n',p',r',m',e2⟩ := h.sg c' d' x hx
   rw [hs] at e2
   simp only [Option.some.injEq,Prod.mk.injEq,List.cons.injEq,true_and,and_true] at e2
   exact hc e2.2.1.symm
  simpa using this
def Mor (M : Hp) : Int → List Int → Prop
 | a,[] => ∀ F,M a ≠ some (3,F)
 | a,x :: l => a = x ∧ ∃ g c w n p r m F,M x = some (3,[g,c,w,n,p,r,m]) ∧ M c = some (1,F) ∧ Mor M m l
theorem lnk_kind {q : Qs} {a k : Int} {F : List Int} : ∃ G,lnk q a (k,F) = (k,G) ∧ G.length = F.length :=
 ⟨(lnk q a (k,F)).2,Prod.ext (lnk_len q a k F).1 rfl,(lnk_len q a k F).2⟩
theorem relink_inv {M : Hp} {q : Qs} {a k : Int} {F : List Int} (h : relink M q a = some (k,F)) : ∃ G,M a = some (k,G) ∧ lnk q a (k,G) = (k,F) := by
 unfold relink at h
 cases hM : M a with
 | none => rw [hM] at h; cases h
 | some v =>
  rw [hM] at h
  obtain ⟨k',G⟩ := v
  have h2 : lnk q a (k',G) = (k,F) := Option.some.inj h
  obtain ⟨G',h3,_⟩ := lnk_kind (q := q) (a := a) (k := k') (F := G)
  rw [h2] at h3
  have : k = k' := (Prod.mk.inj h3).1
  subst this
  exact ⟨G,rfl,h2⟩
theorem morRel {M : Hp} {q : Qs} : ∀ {l : List Int} {a : Int},Mor M a l → Mor (relink M q) a l
 | [],a,h => fun F e => by
  obtain ⟨G,h1,_⟩ := relink_inv e
  exact h G h1
 | x :: l,a,⟨h0,g,c,w,n,p,r,m,F,h1,h2,h3⟩ => by
  obtain ⟨G,h4,_⟩ := lnk_kind (q := q) (a := c) (k := 1) (F := F)
  exact ⟨h0,g,c,w,nxtQ q c x,p,r,m,G,by rw [relink_get h1,lnk_sudog],by rw [relink_get h2,h4],morRel h3⟩
def setM (M : Hp) (x m : Int) : Hp := fun a => if a = x then (M a).map (fun v => (v.1,v.2.set 6 m)) else M a
def parkM (M : Hp) : List Int → Hp
 | [] => M
 | x :: l => parkM (setM M x (hdQ l)) l
theorem setM_eq {M : Hp} {x g c w n p r m m' : Int} (h : M x = some (3,[g,c,w,n,p,r,m])) : setM M x m' = upd M x (3,[g,c,w,n,p,r,m']) := by
 funext a
 unfold setM upd
 by_cases e : a = x
 ·subst e; rw [if_pos rfl,if_pos rfl,h]; rfl
 ·rw [if_neg e,if_neg e]
theorem setM_ne {M : Hp} {x m a : Int} (h : a ≠ x) : setM M x m a = M a := if_neg h
theorem parkM_ne : ∀ {l : List Int} {M : Hp} {a : Int},a ∉ l → parkM M l a = M a
 | [],_,_,_ => rfl
 | x :: l,M,a,h => by
  have hx : a ≠ x := fun e => h (by rw [e]; exact List.mem_cons_self)
  show parkM (setM M x (hdQ l)) l a = M a
  rw [parkM_ne (fun k => h (List.mem_cons_of_mem _ k)),setM_ne hx]
def IsSu (M : Hp) (x : Int) : Prop := ∃ g c w n p r m,M x = some (3,[g,c,w,n,p,r,m])
theorem setM_su {M : Hp} {x m a : Int} (h : IsSu M a) : IsSu (setM M x m) a := by
 obtain ⟨g,c,w,n,p,r,m',e⟩ := h
 by_cases q : a = x
 ·subst q; exact ⟨g,c,w,n,p,r,m,by rw [setM_eq e,upd_same]⟩
 ·exact ⟨g,c,w,n,p,r,m',by rw [setM_ne q]; exact e⟩
theorem sysSetM {M : Hp} {q : Qs} {x m : Int} (h : Sys M q) (hx : IsSu M x) : Sys (setM M x m) q := by
 obtain ⟨g,c,w,n,p,r,m',e⟩ := hx
 rw [setM_eq e]
 have hl := h.lnk e
 rw [lnk_sudog] at hl
 simp only [Prod.mk.injEq,List.cons.injEq,true_and,and_true] at hl
 refine h.updv ?_ (fun F k => by rw [e] at k; cases k) (fun c' d k => ?_) ⟨fun k => absurd (show (3 : Int) = 1 from k) (by decide),fun _ => rfl⟩
 ·rw [lnk_sudog,hl]
 ·obtain ⟨g',w',n',p',r',m2,e2⟩ := h.sg c' d x k
  rw [e] at e2
  simp only [Option.some.injEq,Prod.mk.injEq,List.cons.injEq,true_and,and_true] at e2
  obtain ⟨_,rfl,_⟩ := e2
  exact ⟨g,w,n,p,r,m,rfl⟩
theorem sysParkM {q : Qs} : ∀ {l : List Int} {M : Hp},Sys M q → (∀ x ∈ l,IsSu M x) → Sys (parkM M l) q
 | [],_,h,_ => h
 | x :: l,M,h,hs => sysParkM (l := l) (sysSetM h (hs x List.mem_cons_self)) (fun y hy => setM_su (hs y (List.mem_cons_of_mem _ hy)))
theorem sysOther {M : Hp} {q : Qs} {a k : Int} {F G : List Int} (h : Sys M q) (hM : M a = some (k,G)) (hk : k ≠ 1 ∧ k ≠ 3) : Sys (upd M a (k,F)) q :=
 h.updv (lnk_other _ _ _ hk) (fun F' e => by rw [hM] at e; exact (Prod.mk.inj (Option.some.inj e)).1) (fun c d e => by
  obtain ⟨g,w,n,p,r,m,e2⟩ := h.sg c d a e
  rw [hM] at e2
  exact absurd (Prod.mk.inj (Option.some.inj e2)).1 hk.2) ⟨fun e => absurd e hk.1,fun e => absurd e hk.2⟩
theorem relink_other {M : Hp} {q : Qs} {a k : Int} {F : List Int} (h : M a = some (k,F)) (hk : k ≠ 1 ∧ k ≠ 3) : relink M q a = some (k,F) := by rw [relink_get h,lnk_other _ _ _ hk]
theorem relink_su {M : Hp} {q : Qs} {a g c w n p r m : Int} (h : M a = some (3,[g,c,w,n,p,r,m])) : ∃ n',relink M q a = some (3,[g,c,w,n',p,r,m]) := ⟨_,by rw [relink_get h,lnk_sudog]⟩
theorem relink_ch {M : Hp} {q : Qs} {a a0 a1 a2 a3 a4 a5 a6 a7 a8 : Int} (h : M a = some (1,[a0,a1,a2,a3,a4,a5,a6,a7,a8])) : relink M q a = some (1,[a0,a1,a2,a3,a4,hdQ (q a false),ltQ (q a false),hdQ (q a true),ltQ (q a true)]) := by rw [relink_get h,lnk_chan]
theorem hch9 {M : Hp} {q : Qs} (hY : Sys M q) : ∀ a F,M a = some (1,F) → ∃ y0 y1 y2 y3 y4 y5 y6 y7 y8,F = [y0,y1,y2,y3,y4,y5,y6,y7,y8] := fun a F e => list9 (hY.sc a F e)
theorem hsu7 {M : Hp} {q : Qs} (hY : Sys M q) : ∀ a F,M a = some (3,F) → ∃ y0 y1 y2 y3 y4 y5 y6,F = [y0,y1,y2,y3,y4,y5,y6] := fun a F e => list7 (hY.ss a F e)
theorem listRem_lx (R : List Rw) (ws C G : List Int) (N W ph sp cy : Int) (L D Q : List PV) (z : ByteArray) (ov : Bool) (h : HM R ws C G N W L D Q z) (M : Hp) (hM : Cont R ws M) (q : Qs) (hY : Sys M q) (o : Unit → Obj) (ho : IsPow o) (hph : ph = 0) (c s : Int) (d : Bool) (hc : ∃ F,M c = some (1,F)) : CallF (fun _ => Tryz.prog) 96 [.ptr 0 (.lit 0),i6 c,.p (.bool d),i6 s] [hpA 0 1 5 6 3 W ph sp cy,hpB 1 2 4 3 W,hpC 2 3 127 2 N,hpP 3 L,hpP 4 D,hpF 5 z ov,hpP 6 Q,(7,.fix 0 o)] 8 (fun r h n => ∃ (b : Bool) (ws' : List Int) (D' : List PV),r = .p (.bool b) ∧ h = [hpA 0 1 5 6 3 W ph sp cy,hpB 1 2 4 3 W,hpC 2 3 127 2 N,hpP 3 L,hpP 4 D',hpF 5 z ov,hpP 6 Q,(7,.fix 0 o)] ∧ n = 8 ∧ HM R ws' C G N W L D' Q z ∧ Cont R ws' (relink M (cutQ q c d s))) := by
 by_cases hs : s ∈ q c d
 ·obtain ⟨F,hF⟩ := hc
  obtain ⟨y0,y1,y2,y3,y4,y5,y6,y7,y8,rfl⟩ := hch9 hY c F hF
  cases d with
  | false => exact (listRemove0_lx R ws C G N W ph sp cy L D Q z ov h M hM q hY o ho hph (hch9 hY) (hsu7 hY) c s y0 y1 y2 y3 y4 y5 y6 y7 y8 hF hs).mono fun r h n ⟨ws',D',e1,e2,e3,h1,c1⟩ => ⟨true,ws',D',e1,e2,e3,h1,c1⟩
  | true => exact (listRemove1_lx R ws C G N W ph sp cy L D Q z ov h M hM q hY o ho hph (hch9 hY) (hsu7 hY) c s y0 y1 y2 y3 y4 y5 y6 y7 y8 hF hs).mono fun r h n ⟨ws',D',e1,e2,e3,h1,c1⟩ => ⟨true,ws',D',e1,e2,e3,h1,c1⟩
 ·rw [cutQ_no hs,hY.ln]
  exact (listRemoveNo_lx R ws C G N W ph sp cy L D Q z ov h M hM q hY o (hch9 hY) (hsu7 hY) c s d hs).mono fun r h' n ⟨e1,e2,e3⟩ => ⟨false,ws,D,e1,e2,e3,h,hM⟩
theorem leaveAll_lx (R : List Rw) (ws C G : List Int) (N W ph sp cy : Int) (L D Q : List PV) (z : ByteArray) (ov : Bool) (h : HM R ws C G N W L D Q z) (M : Hp) (hM : Cont R ws M) (q : Qs) (hY : Sys M q) (o : Unit → Obj) (ho : IsPow o) (hph : ph = 0) (a : Int) (l : List Int) (hl : Mor M a l) (hnd : l.Nodup) : CallF (fun _ => Tryz.prog) 61 [.ptr 0 (.lit 0),i6 a] [hpA 0 1 5 6 3 W ph sp cy,hpB 1 2 4 3 W,hpC 2 3 127 2 N,hpP 3 L,hpP 4 D,hpF 5 z ov,hpP 6 Q,(7,.fix 0 o)] 8 (fun r h n => ∃ (ws' : List Int) (D' : List PV),r = .tup [] ∧ h = [hpA 0 1 5 6 3 W ph sp cy,hpB 1 2 4 3 W,hpC 2 3 127 2 N,hpP 3 L,hpP 4 D',hpF 5 z ov,hpP 6 Q,(7,.fix 0 o)] ∧ n = 8 ∧ HM R ws' C G N W L D' Q z ∧ Cont R ws' (relink M (rmQ q l))) := by
 refine callF_of_body tok Tryz.func61 (by kernel_rfl) rfl rfl rfl ?_; conv => cbv
 refine LoopF.mk (fun kk s => ∃ (at_ : Int) (dn rest : List Int) (ws1 : List Int) (D1 : List PV),s = ⟨.ptr 0 (.lit 0) :: (undefs 3 ++ .mp 8 :: .p (.int .i64 (.sym at_)) :: undefs 38),[hpA 0 1 5 6 3 W ph sp cy,hpB 1 2 4 3 W,hpC 2 3 127 2 N,hpP 3 L,hpP 4 D1,hpF 5 z ov,hpP 6 Q,(7,.fix 0 o),(8,.set dn)],9⟩ ∧ kk = rest.length ∧ l = dn ++ rest ∧ HM R ws1 C G N W L D1 Q z ∧ Cont R ws1 (relink M (rmQ q dn)) ∧ Mor M at_ rest) l.length _
  (Re.at [(0,0),(1,1),(2,2),(3,3),(4,4),(5,5),(6,6),(7,7),(8,8)] []) ⟨a,[],l,ws,D,rfl,rfl,rfl,h,by rw [rmQ_nil,hY.ln]; exact hM,hl⟩ ?_
 rintro kk s ⟨at_,dn,rest,ws1,D1,rfl,hkk,hld,h1,c1,hmor⟩
 have hY1 := sysFilt hY dn
 have hmor1 := morRel (q := rmQ q dn) hmor
 conv => cbv
 rcases rest with _ | ⟨x,rest⟩
 ·refine cfr (sudogNoM_lx R ws1 C G N W ph sp cy L D1 Q z ov h1 _ c1 at_ hmor1) [(0,0),(1,1),(2,2),(3,3),(4,4),(5,5),(6,6)] (fun r h' n' hrr => ?_)
  obtain ⟨⟨u0,u1,u2,u3,u4,u5,u6,e,e1,he,hz⟩,e2,e3⟩ := hrr
  subst e1 e2 e3
  have hdl : dn = l := by rw [hld,List.append_nil]
  conv => cbv
  refine Br.mk (fun gq => ?_) (fun gq => ?_)
  ·conv => cbv
   refine Br.yes (show ¬ (e = 0) by omega) ?_
   conv => cbv
   refine RetF.mk [] [hpA 0 1 5 6 3 W ph sp cy,hpB 1 2 4 3 W,hpC 2 3 127 2 N,hpP 3 L,hpP 4 D1,hpF 5 z ov,hpP 6 Q,(7,.fix 0 o)] 8 (Re.at [(0,0),(1,1),(2,2),(3,3),(4,4),(5,5),(6,6),(7,7)] []) rfl ⟨ws1,D1,rfl,rfl,rfl,h1,by rw [← hdl]; exact c1⟩
  ·conv => cbv
   refine Br.yes (show ¬ (e = 0) by omega) ?_
   conv => cbv
   refine RetF.mk [] [hpA 0 1 5 6 3 W ph sp cy,hpB 1 2 4 3 W,hpC 2 3 127 2 N,hpP 3 L,hpP 4 D1,hpF 5 z ov,hpP 6 Q,(7,.fix 0 o)] 8 (Re.at [(0,0),(1,1),(2,2),(3,3),(4,4),(5,5),(6,6),(7,7)] []) rfl ⟨ws1,D1,rfl,rfl,rfl,h1,by rw [← hdl]; exact c1⟩
 ·obtain ⟨rfl,g,c,w,n,p,r_,m_,F,hMs,hMc,_⟩ := hmor1
  have hmor2 : Mor M m_ rest := by
   obtain ⟨_,g',c',w',n',p',r',m',F',k1,_,k3⟩ := hmor
   rw [relink_get k1,lnk_sudog] at hMs
   simp only [Option.some.injEq,Prod.mk.injEq,List.cons.injEq,true_and,and_true] at hMs
   rw [← hMs.2.2.2.2.2.2]
   exact k3
  have hni : at_ ∉ dn := by
   rw [hld] at hnd
   intro k
   exact (List.nodup_append.1 hnd).2.2 at_ k at_ List.mem_cons_self rfl
  refine cfr (sudogM_lx R ws1 C G N W ph sp cy L D1 Q z ov h1 _ c1 at_ g c w n p r_ m_ hMs) [(0,0),(1,1),(2,2),(3,3),(4,4),(5,5),(6,6)] (fun r h' n' hrr => ?_)
  obtain ⟨⟨e,e1,he⟩,e2,e3⟩ := hrr
  subst e1 e2 e3
  conv => cbv
  refine Br.no (show ¬ (at_ ∈ dn) from hni) ?_
  conv => cbv
  refine Br.no (show ¬ ¬ (e = 0) from fun q => q he) ?_
  conv => cbv
  refine Need.mk (show ¬ (at_ ∈ dn) from hni) ?_
  conv => cbv
  refine UpdI.mk fun dn2 hdn2 => ?_
  have hdn2 : dn2 = dn ++ [at_] := hdn2
  conv => cbv
  refine cfr (listRem_lx R ws1 C G N W ph sp cy L D1 Q z ov h1 _ c1 _ hY1 o ho hph c at_ true ⟨F,hMc⟩) [(0,0),(1,1),(2,2),(3,3),(4,4),(5,5),(6,6),(7,7)] (fun r h' n' hrr => ?_)
  obtain ⟨b1,ws2,D2,e1,e2,e3,h2,c2⟩ := hrr
  subst e1 e2 e3
  conv => cbv
  have hMc2 : ∃ F,relink (relink M (rmQ q dn)) (cutQ (rmQ q dn) c true at_) c = some (1,F) := by
   obtain ⟨G2,k4,_⟩ := lnk_kind (q := cutQ (rmQ q dn) c true at_) (a := c) (k := 1) (F := F)
   exact ⟨G2,by rw [relink_get hMc,k4]⟩
  refine cfr (listRem_lx R ws2 C G N W ph sp cy L D2 Q z ov h2 _ c2 _ (sysCut hY1 c true at_) o ho hph c at_ false hMc2) [(0,0),(1,1),(2,2),(3,3),(4,4),(5,5),(6,6),(7,7)] (fun r h' n' hrr => ?_)
  obtain ⟨b2,ws3,D3,e1,e2,e3,h3,c3⟩ := hrr
  subst e1 e2 e3
  rw [cutQ_both hY1 hMs,relink_relink,relink_relink,rmQ_rmQ,← hdn2] at c3
  conv => cbv
  refine Again.mk rest.length _ (by rw [hkk]; exact Nat.lt_succ_self _) (Re.at [(0,0),(1,1),(2,2),(3,3),(4,4),(5,5),(6,6),(7,7),(8,8)] []) ⟨m_,dn2,rest,ws3,D3,rfl,rfl,by rw [hld,hdn2]; simp,h3,c3,hmor2⟩
theorem inN_lx (l : List Int) (x m : Int) (ZL : List PV) (b : Bool) (hm : m = l.length) (hZ : ZL = ipv l) (hml : m ≤ 9223372036854775806) (hb : b = decide (x ∈ l)) : CallF (fun _ => Tryz.prog) 15 [.p (.vsl (.sym m) true ZL),i6 x] [] 0 (fun r h n => r = .p (.bool b) ∧ h = [] ∧ n = 0) := by
 refine callF_of_body tok Tryz.func15 (by kernel_rfl) rfl rfl rfl ?_; conv => cbv
 refine LoopF.mk (fun k s => ∃ i : Int,s = ⟨.p (.vsl (.sym m) true ZL) :: .p (.int .i64 (.sym x)) :: (undefs 3 ++ .p (.int .i64 (.sym i)) :: undefs 12),[],0⟩ ∧ 0 ≤ i ∧ i ≤ m ∧ x ∉ l.take i.toNat ∧ k = (m - i).toNat) m.toNat _
  (Re.at [] []) ⟨0,rfl,by omega,by omega,by simp,by omega⟩ ?_
 rintro k s ⟨i,rfl,hi0,hi1,hnot,hk⟩
 conv => cbv
 refine Br.mk (fun gi => ?_) (fun gi => ?_)
 ·have gi : i < m := gi
  obtain ⟨k',rfl⟩ : ∃ k',k = k' + 1 := ⟨k - 1,by omega⟩
  obtain ⟨z,hz⟩ : ∃ z,l[i.toNat]? = some z := ⟨_,List.getElem?_eq_getElem (by omega)⟩
  have hc : ZL[i.toNat]? = some (.int .i64 (.sym z)) := by rw [hZ]; exact ipv_get hz
  conv => cbv
  refine Need.mk ⟨hi0,by show i < m; omega⟩ ?_
  conv => cbv
  refine Cell.at i _ hc (by simp [I.val]) rfl ?_
  conv => cbv
  refine Br.mk (fun ge => ?_) (fun ge => ?_)
  ·have ge : z = x := ge
   have hbt : b = true := by rw [hb]; exact decide_eq_true (by rw [← ge]; exact List.mem_of_getElem? hz)
   subst hbt
   conv => cbv
   refine RetF.mk [.p (.bool true)] [] 0 (Re.at [] []) rfl ⟨rfl,rfl,rfl⟩
  ·have ge : ¬ z = x := ge
   conv => cbv
   refine Fit.mk (by show (-9223372036854775808 : Int) ≤ i + 1; omega) (by show i + 1 ≤ 9223372036854775807; omega) fun i2 hi2 => ?_
   have hi2 : i2 = i + 1 := hi2
   have hn2 : x ∉ l.take i2.toNat := by
    rw [show i2.toNat = i.toNat + 1 by omega,List.take_add_one,hz]
    intro h
    rcases List.mem_append.1 h with h | h
    ·exact hnot h
    ·exact ge (by simp at h; exact h.symm)
   conv => cbv
   refine Again.mk k' _ (Nat.lt_succ_self _) (Re.at [] []) ⟨i2,rfl,by omega,by omega,hn2,by omega⟩
 ·have gi : ¬ i < m := gi
  have hbt : b = false := by
   rw [hb]
   rw [List.take_of_length_le (by omega)] at hnot
   exact decide_eq_false hnot
  subst hbt
  conv => cbv
  refine RetF.mk [.p (.bool false)] [] 0 (Re.at [] []) rfl ⟨rfl,rfl,rfl⟩
theorem rends_lx (y0 y1 y2 y3 y4 y5 y6 y7 y8 : Int) (d : Bool) : CallF (fun _ => Tryz.prog) 124 [.agg [i6 y0,i6 y1,i6 y2,i6 y3,i6 y4,i6 y5,i6 y6,i6 y7,i6 y8],.p (.bool d)] [] 0 (fun r h n => (∃ a b : Int,r = .tup [i6 a,i6 b] ∧ a = (if d then y7 else y5) ∧ b = (if d then y8 else y6)) ∧ h = [] ∧ n = 0) := by
 cases d with
 | false =>
  refine callF_of_body tok Tryz.func124 (by kernel_rfl) rfl rfl rfl ?_; conv => cbv
  refine drawn_sound tok (by kernel_rfl) [] [0,1,2,3,4,5] (by kernel_rfl) ?_; conv => cbv
  refine RetF.mk [i6 y5,i6 y6] [] 0 (Re.at [] []) rfl ⟨⟨y5,y6,rfl,rfl,rfl⟩,rfl,rfl⟩
 | true =>
  refine callF_of_body tok Tryz.func124 (by kernel_rfl) rfl rfl rfl ?_; conv => cbv
  refine drawn_sound tok (by kernel_rfl) [] [0,1,2,3,4,5] (by kernel_rfl) ?_; conv => cbv
  refine RetF.mk [i6 y7,i6 y8] [] 0 (Re.at [] []) rfl ⟨⟨y7,y8,rfl,rfl,rfl⟩,rfl,rfl⟩
theorem turned0_lx (hd tl y0 y1 y2 y3 y4 y5 y6 y7 y8 : Int) : CallF (fun _ => Tryz.prog) 127 [.agg [i6 y0,i6 y1,i6 y2,i6 y3,i6 y4,i6 y5,i6 y6,i6 y7,i6 y8],.p (.bool false),i6 hd,i6 tl] [] 0 (fun r h n => r = .agg [i6 y0,i6 y1,i6 y2,i6 y3,i6 y4,i6 hd,i6 tl,i6 y7,i6 y8] ∧ h = [] ∧ n = 0) := by
 refine callF_of_body tok Tryz.func127 (by kernel_rfl) rfl rfl rfl ?_; conv => cbv
 refine RetF.mk [.agg [i6 y0,i6 y1,i6 y2,i6 y3,i6 y4,i6 hd,i6 tl,i6 y7,i6 y8]] [] 0 (Re.at [] []) rfl ⟨rfl,rfl,rfl⟩
theorem turned1_lx (hd tl y0 y1 y2 y3 y4 y5 y6 y7 y8 : Int) : CallF (fun _ => Tryz.prog) 127 [.agg [i6 y0,i6 y1,i6 y2,i6 y3,i6 y4,i6 y5,i6 y6,i6 y7,i6 y8],.p (.bool true),i6 hd,i6 tl] [] 0 (fun r h n => r = .agg [i6 y0,i6 y1,i6 y2,i6 y3,i6 y4,i6 y5,i6 y6,i6 hd,i6 tl] ∧ h = [] ∧ n = 0) := by
 refine callF_of_body tok Tryz.func127 (by kernel_rfl) rfl rfl rfl ?_; conv => cbv
 refine RetF.mk [.agg [i6 y0,i6 y1,i6 y2,i6 y3,i6 y4,i6 y5,i6 y6,i6 hd,i6 tl]] [] 0 (Re.at [] []) rfl ⟨rfl,rfl,rfl⟩
theorem rnextM_lx (R : List Rw) (vs C G : List Int) (N W ph sp cy : Int) (P B V Q la : List PV) (m : Int) (ov : Bool) (h : RM R vs C G N W P B V Q la m) (M : Hp) (hM : Cont R vs M) (hph : ph = 0) (a x z0 z1 z2 z3 z4 z5 z6 : Int) (hMa : M a = some (3,[z0,z1,z2,z3,z4,z5,z6])) (hx : -1 ≤ x) (hx2 : b62 x) : CallF (fun _ => Tryz.prog) 126 [.ptr 0 (.lit 0),i6 a,i6 x] [hpR 0 1 6 3 W 7 ph sp cy,hpB 1 2 5 3 W,hpD 2 3 3 1 N 4 197 8 N,hpP 3 P,hpP 4 B,hpP 5 V,hpP 6 Q,(7,.mix [.p (.vsl (.sym m) true la),.p (.bool ov)])] 8 (fun r h n => ∃ (vs' : List Int) (V' : List PV),r = .tup [] ∧ h = [hpR 0 1 6 3 W 7 ph sp cy,hpB 1 2 5 3 W,hpD 2 3 3 1 N 4 197 8 N,hpP 3 P,hpP 4 B,hpP 5 V',hpP 6 Q,(7,.mix [.p (.vsl (.sym m) true la),.p (.bool ov)])] ∧ n = 8 ∧ RM R vs' C G N W P B V' Q la m ∧ Cont R vs' (upd M a (3,[z0,z1,z2,x,z4,z5,z6]))) := by
 obtain ⟨hp,hb,hw⟩ := hM.sudog h.a hMa
 have hp' : ∀ q ∈ [z0,z1,x,z6],-1 ≤ q := by
  simp only [List.forall_mem_cons] at hp ⊢
  obtain ⟨p0,p1,p3,p6,_⟩ := hp
  exact ⟨p0,p1,hx,p6,fun q hq => by cases hq⟩
 have hb' : ∀ q ∈ [z0,z1,x,z4,z5,z6],b62 q := by
  simp only [List.forall_mem_cons] at hb ⊢
  obtain ⟨b0,b1,b3,b4,b5,b6,_⟩ := hb
  exact ⟨b0,b1,hx2,b4,b5,b6,fun q hq => by cases hq⟩
 refine callF_of_body tok Tryz.func126 (by kernel_rfl) rfl rfl rfl ?_; conv => cbv
 refine cfr (rsudogM_lx R vs C G N W ph sp cy P B V Q la m ov h M hM a z0 z1 z2 z3 z4 z5 z6 hMa) [(0,0),(1,1),(2,2),(3,3),(4,4),(5,5),(6,6),(7,7)] (fun r h' n' hrr => ?_)
 obtain ⟨⟨e0,e1,he0⟩,e2,e3⟩ := hrr
 subst e1 e2 e3
 conv => cbv
 refine Br.yes (show e0 = 0 from he0) ?_
 conv => cbv
 refine cfr (rPutSudogM_lx R vs C G N W ph sp cy P B V Q la m ov h M hM hph a z0 z1 z2 x z4 z5 z6 [z0,z1,z2,z3,z4,z5,z6] hMa rfl hb' hw hp') [(0,0),(1,1),(2,2),(3,3),(4,4),(5,5),(6,6),(7,7)] (fun r h' n' hrr => ?_)
 obtain ⟨e,vs',V',e1,he,e2,e3,h1,hM'⟩ := hrr
 subst e1 e2 e3
 conv => cbv
 refine RetF.mk [] [hpR 0 1 6 3 W 7 ph sp cy,hpB 1 2 5 3 W,hpD 2 3 3 1 N 4 197 8 N,hpP 3 P,hpP 4 B,hpP 5 V',hpP 6 Q,(7,.mix [.p (.vsl (.sym m) true la),.p (.bool ov)])] 8 (Re.at [(0,0),(1,1),(2,2),(3,3),(4,4),(5,5),(6,6),(7,7)] []) rfl ⟨vs',V',rfl,rfl,rfl,h1,hM'⟩
theorem rAllList_lx (R : List Rw) (vs C G : List Int) (N W ph sp cy : Int) (P B V Q la : List PV) (m : Int) (ov : Bool) (h : RM R vs C G N W P B V Q la m) (M : Hp) (hM : Cont R vs M) (q : Qs) (hY : Sys M q) (c : Int) (d : Bool) (hc : ∃ F,M c = some (1,F)) : CallF (fun _ => Tryz.prog) 125 [.ptr 0 (.lit 0),i6 c,.p (.bool d)] [hpR 0 1 6 3 W 7 ph sp cy,hpB 1 2 5 3 W,hpD 2 3 3 1 N 4 197 8 N,hpP 3 P,hpP 4 B,hpP 5 V,hpP 6 Q,(7,.mix [.p (.vsl (.sym m) true la),.p (.bool ov)])] 8 (fun r h n => ∃ (ml : Int) (cells : List PV),r = .sl 8 3 1 (.lit 0) (.sym ml) ∧ h = [hpR 0 1 6 3 W 7 ph sp cy,hpB 1 2 5 3 W,hpD 2 3 3 1 N 4 197 8 N,hpP 3 P,hpP 4 B,hpP 5 V,hpP 6 Q,(7,.mix [.p (.vsl (.sym m) true la),.p (.bool ov)]),hpP 8 cells] ∧ n = 9 ∧ ml = (q c d).length ∧ cells = ipv (q c d)) := by
 have hlen := hY.len h.a hM c d
 have hNR := h.n; have hRr := h.r
 obtain ⟨F,hF⟩ := hc
 obtain ⟨y0,y1,y2,y3,y4,y5,y6,y7,y8,rfl⟩ := hch9 hY c F hF
 refine callF_of_body tok Tryz.func125 (by kernel_rfl) rfl rfl rfl ?_; conv => cbv
 refine cfr (rchanM_lx R vs C G N W ph sp cy P B V Q la m ov h M hM c y0 y1 y2 y3 y4 y5 y6 y7 y8 hF) [(0,0),(1,1),(2,2),(3,3),(4,4),(5,5),(6,6),(7,7)] (fun r h' n' hrr => ?_)
 obtain ⟨⟨e,e1,he⟩,e2,e3⟩ := hrr
 subst e1 e2 e3
 conv => cbv
 refine Br.no (show ¬ ¬ (e = 0) from fun q => q he) ?_
 conv => cbv
 refine callF_frame (rends_lx y0 y1 y2 y3 y4 y5 y6 y7 y8 d) [] rfl trivial rfl rfl (fun r h' n' hrr => ?_)
 obtain ⟨⟨at0,at1,e1,hat0,hat1⟩,e2,e3⟩ := hrr
 subst e1 e2 e3
 conv => cbv
 have hlk := hY.lnk hF
 rw [lnk_chan] at hlk
 simp only [Prod.mk.injEq,List.cons.injEq,true_and,and_true] at hlk
 obtain ⟨hl5,hl6,hl7,hl8⟩ := hlk
 obtain ⟨l0,hl0⟩ : ∃ l0,l0 = q c d := ⟨_,rfl⟩
 have hat : at0 = (l0[0]?).getD (-1) := by
  have hh : hdQ l0 = (l0[0]?).getD (-1) := by unfold hdQ; rw [List.head?_eq_getElem?]
  rw [hat0,← hh,hl0]
  cases d with
  | false => exact hl5.symm
  | true => exact hl7.symm
 rw [← hl0] at hlen ⊢
 have hnd : l0.Nodup := hl0 ▸ hY.nd c d
 have hneg := neg_none h.a hM
 refine LoopF.mk (fun kk s => ∃ (i at_ : Int) (dn : List Int) (cells : List PV),s = ⟨.ptr 0 (.lit 0) :: (undefs 8 ++ .sl 9 3 1 (.lit 0) (.sym i) :: .p (.int .i64 (.sym at_)) :: undefs 37),[hpR 0 1 6 3 W 7 ph sp cy,hpB 1 2 5 3 W,hpD 2 3 3 1 N 4 197 8 N,hpP 3 P,hpP 4 B,hpP 5 V,hpP 6 Q,(7,.mix [.p (.vsl (.sym m) true la),.p (.bool ov)]),hpP 9 cells],10⟩ ∧ 0 ≤ i ∧ i ≤ l0.length ∧ kk = ((l0.length : Int) - i).toNat ∧ dn = l0.take i.toNat ∧ cells = ipv dn ∧ at_ = (l0[i.toNat]?).getD (-1)) l0.length _
  (Re.at [(0,0),(1,1),(2,2),(3,3),(4,4),(5,5),(6,6),(7,7)] [9]) ⟨0,at0,[],[],rfl,by omega,by omega,by omega,rfl,rfl,hat⟩ ?_
 rintro kk s ⟨i,at_,dn,cells,rfl,hi0,hi1,hkk,hdn,hcs,hat_⟩
 have hi1 : i ≤ (l0.length : Int) := hi1
 have hkk : kk = ((l0.length : Int) - i).toNat := hkk
 have hdl : dn.length = i.toNat := by rw [hdn,List.length_take]; omega
 by_cases hz : ∃ F,M at_ = some (3,F)
 ·obtain ⟨Fz,hFz⟩ := hz
  obtain ⟨z0,z1,z2,z3,z4,z5,z6,rfl⟩ := hsu7 hY at_ Fz hFz
  have hil : i < (l0.length : Int) := by
   rcases Int.lt_or_le i l0.length with h1 | h1
   ·exact h1
   ·rw [List.getElem?_eq_none (by omega)] at hat_
    rw [show at_ = -1 from hat_,hneg] at hFz
    cases hFz
  obtain ⟨x,hx⟩ : ∃ x,l0[i.toNat]? = some x := ⟨_,List.getElem?_eq_getElem (by omega)⟩
  obtain rfl : at_ = x := by rw [hat_,hx]; rfl
  have hni : at_ ∉ dn := by
   rw [hdn]
   intro hm
   obtain ⟨k,hk⟩ := List.getElem?_of_mem hm
   rw [List.getElem?_take] at hk
   split at hk
   ·rename_i hkl
    have := (List.getElem?_inj (by have := (List.getElem?_eq_some_iff.1 hk).1; omega) hnd).1 (hk.trans hx.symm)
    omega
   ·cases hk
  conv => cbv
  refine cfr (rsudogM_lx R vs C G N W ph sp cy P B V Q la m ov h M hM at_ z0 z1 z2 z3 z4 z5 z6 hFz) [(0,0),(1,1),(2,2),(3,3),(4,4),(5,5),(6,6),(7,7)] (fun r h' n' hrr => ?_)
  obtain ⟨⟨e5,e1,he5⟩,e2,e3⟩ := hrr
  subst e1 e2 e3
  conv => cbv
  refine Br.no (show ¬ ¬ (e5 = 0) from fun q => q he5) ?_
  conv => cbv
  refine callF_lend (inN_lx dn at_ i cells false (by omega) hcs (by omega) (decide_eq_false hni).symm) (by simp [lends,lendV,hget,I.val,pvle]) (fun r h' n' ⟨e1,e2,e3⟩ => by subst e1 e2; exact ⟨trivial,trivial⟩) (fun r h' n' ⟨e1,e2,e3⟩ => ?_)
  subst e1 e2 e3
  conv => cbv
  refine drawn_sound tok (by kernel_rfl) [(2,[5,4,0]),(3,[5,4])] [0,1,4,5,2,3,6,7] (by kernel_rfl) ?_; conv => cbv
  have hcl : cells.length = dn.length := by rw [hcs,ipv_length]
  refine Room.new rfl ?_
  conv => cbv
  refine Room.new ⟨?_,?_,?_⟩ ?_
  ·show (cells.length : Int) = i * 1; omega
  ·show (i + 1) * 8 ≤ 140737488355328; omega
  ·show i + 1 ≤ 9223372036854775807; omega
  conv => cbv
  refine Upd.mk fun cells2 hcs2 => ?_
  have hcs2 : cells2 = cells ++ [.int .i64 (.sym at_)] := hcs2
  have hcs3 : cells2 = ipv (dn ++ [at_]) := by rw [hcs2,hcs,← ipv_app]; rfl
  conv => cbv
  refine Sum.mk fun j2 hj2 => ?_
  have hj2 : j2 = i + 1 := hj2
  conv => cbv
  have hdn3 : dn ++ [at_] = l0.take j2.toNat := by rw [hdn,show j2.toNat = i.toNat + 1 by omega,List.take_add_one,hx]; rfl
  have hnx : z3 = (l0[j2.toNat]?).getD (-1) := by
   have h1 := hY.lnk hFz
   have hsm : at_ ∈ q c d := hl0 ▸ List.mem_of_getElem? hx
   obtain ⟨g,w,n,p,r,m,e⟩ := hY.sg c d at_ hsm
   rw [hFz] at e
   simp only [Option.some.injEq,Prod.mk.injEq,List.cons.injEq,true_and,and_true] at e
   obtain ⟨_,ec,_⟩ := e
   rw [lnk_sudog,ec,hY.nxt hsm,sucL_get _ _ (hY.nd c d) (hl0 ▸ hx)] at h1
   simp only [Prod.mk.injEq,List.cons.injEq,true_and,and_true] at h1
   rw [show j2.toNat = i.toNat + 1 by omega,hl0]
   exact h1.symm
  refine Again.mk ((l0.length : Int) - j2).toNat _ (by omega) (Re.at [(0,0),(1,1),(2,2),(3,3),(4,4),(5,5),(6,6),(7,7),(12,9)] []) ⟨j2,z3,dn ++ [at_],cells2,rfl,(show (0 : Int) ≤ j2 by omega),(show j2 ≤ (l0.length : Int) by omega),rfl,hdn3,hcs3,hnx⟩
 ·have hno : ∀ F,M at_ ≠ some (3,F) := fun F e => hz ⟨F,e⟩
  have hil : i = (l0.length : Int) := by
   rcases Int.lt_or_le i l0.length with h1 | h1
   ·obtain ⟨x,hx⟩ : ∃ x,l0[i.toNat]? = some x := ⟨_,List.getElem?_eq_getElem (by omega)⟩
    obtain ⟨g,w,n,p,r,m,e⟩ := hY.sg c d x (hl0 ▸ List.mem_of_getElem? hx)
    rw [hat_,hx] at hno
    exact absurd e (hno _)
   ·omega
  have hdn2 : dn = l0 := by rw [hdn,hil]; simp
  conv => cbv
  refine cfr (rsudogNoM_lx R vs C G N W ph sp cy P B V Q la m ov h M hM at_ hno) [(0,0),(1,1),(2,2),(3,3),(4,4),(5,5),(6,6),(7,7)] (fun r h' n' hrr => ?_)
  obtain ⟨⟨u0,u1,u2,u3,u4,u5,u6,e5,e1,he5,hzz⟩,e2,e3⟩ := hrr
  subst e1 e2 e3
  conv => cbv
  refine Br.yes (show ¬ (e5 = 0) by omega) ?_
  conv => cbv
  refine RetF.mk [.sl 8 3 1 (.lit 0) (.sym i)] [hpR 0 1 6 3 W 7 ph sp cy,hpB 1 2 5 3 W,hpD 2 3 3 1 N 4 197 8 N,hpP 3 P,hpP 4 B,hpP 5 V,hpP 6 Q,(7,.mix [.p (.vsl (.sym m) true la),.p (.bool ov)]),hpP 8 cells] 9 (Re.at [(0,0),(1,1),(2,2),(3,3),(4,4),(5,5),(6,6),(7,7),(9,8)] []) rfl ⟨i,cells,rfl,rfl,rfl,hil,by rw [hcs,hdn2]⟩
theorem upd_comm {M : Hp} {a b : Int} {v w : Int × List Int} (h : a ≠ b) : upd (upd M a v) b w = upd (upd M b w) a v := by
 funext x
 unfold upd
 by_cases e1 : x = a
 ·subst e1; rw [if_neg h,if_pos rfl,if_pos rfl]
 ·by_cases e2 : x = b
  ·subst e2; rw [if_pos rfl,if_neg e1,if_pos rfl]
  ·rw [if_neg e2,if_neg e1,if_neg e1,if_neg e2]
theorem rPush0_lx (R : List Rw) (vs C G : List Int) (N W ph sp cy : Int) (P B V Q la : List PV) (m : Int) (ov : Bool) (h : RM R vs C G N W P B V Q la m) (M : Hp) (hM : Cont R vs M) (q : Qs) (hY : Sys M q) (hph : ph = 0) (c s y0 y1 y2 y3 y4 y5 y6 y7 y8 g w n p r_ m_ : Int) (hMc : M c = some (1,[y0,y1,y2,y3,y4,y5,y6,y7,y8])) (hMs : M s = some (3,[g,c,w,n,p,r_,m_])) (hns : ∀ d,s ∉ q c d) : CallF (fun _ => Tryz.prog) 90 [.ptr 0 (.lit 0),i6 c,.p (.bool false),i6 s] [hpR 0 1 6 3 W 7 ph sp cy,hpB 1 2 5 3 W,hpD 2 3 3 1 N 4 197 8 N,hpP 3 P,hpP 4 B,hpP 5 V,hpP 6 Q,(7,.mix [.p (.vsl (.sym m) true la),.p (.bool ov)])] 8 (fun r h n => ∃ (e : Int) (vs' : List Int) (V' : List PV),r = .p (.int .i64 (.sym e)) ∧ e = 0 ∧ h = [hpR 0 1 6 3 W 7 ph sp cy,hpB 1 2 5 3 W,hpD 2 3 3 1 N 4 197 8 N,hpP 3 P,hpP 4 B,hpP 5 V',hpP 6 Q,(7,.mix [.p (.vsl (.sym m) true la),.p (.bool ov)])] ∧ n = 8 ∧ RM R vs' C G N W P B V' Q la m ∧ Cont R vs' (relink M (updQ q c false (q c false ++ [s])))) := by
 obtain ⟨hY2,hpe,hpn⟩ := hY.push (d := false) hMc hMs hns
 obtain ⟨hp,hb⟩ := hM.chan h.a hMc
 have hsl := hM.len h.a hMs
 have hRr := h.r
 have hcl := hY.len h.a hM c false
 have hs1 : -1 ≤ s := by omega
 have hs2 : b62 s := by unfold b62; omega
 have hsc : s ≠ c := fun e => by rw [e,hMc] at hMs; cases hMs
 have hh1 : -1 ≤ y5 := hp _ (by simp)
 have hh2 : b62 y5 := hb _ (by simp)
 have hm2 : b62 (-1) := by unfold b62; omega
 refine callF_of_body tok Tryz.func90 (by kernel_rfl) rfl rfl rfl ?_; conv => cbv
 refine cfr (rchanM_lx R vs C G N W ph sp cy P B V Q la m ov h M hM c y0 y1 y2 y3 y4 y5 y6 y7 y8 hMc) [(0,0),(1,1),(2,2),(3,3),(4,4),(5,5),(6,6),(7,7)] (fun r h' n' hrr => ?_)
 obtain ⟨⟨e0,e1,he0⟩,e2,e3⟩ := hrr
 subst e1 e2 e3
 conv => cbv
 refine Br.no (show ¬ ¬ (e0 = 0) from fun q => q he0) ?_
 conv => cbv
 refine cfr (rsudogM_lx R vs C G N W ph sp cy P B V Q la m ov h M hM s g c w n p r_ m_ hMs) [(0,0),(1,1),(2,2),(3,3),(4,4),(5,5),(6,6),(7,7)] (fun r h' n' hrr => ?_)
 obtain ⟨⟨e5,e1,he5⟩,e2,e3⟩ := hrr
 subst e1 e2 e3
 conv => cbv
 refine Br.no (show ¬ ¬ (e5 = 0) from fun q => q he5) ?_
 conv => cbv
 refine callF_frame (rends_lx y0 y1 y2 y3 y4 y5 y6 y7 y8 false) [] rfl trivial rfl rfl (fun r h' n' hrr => ?_)
 obtain ⟨⟨hd,tl,e1,hhd,htl⟩,e2,e3⟩ := hrr
 subst e1 e2 e3
 obtain rfl : y5 = hd := hhd.symm
 conv => cbv
 refine cfr (rAllList_lx R vs C G N W ph sp cy P B V Q la m ov h M hM q hY c false ⟨_,hMc⟩) [(0,0),(1,1),(2,2),(3,3),(4,4),(5,5),(6,6),(7,7)] (fun r h' n' hrr => ?_)
 obtain ⟨ml,cells,e1,e2,e3,hml,hcel⟩ := hrr
 subst e1 e2 e3
 conv => cbv
 refine Br.mk (fun gm => ?_) (fun gm => ?_)
 ·have gm : ml = 0 := gm
  have he : q c false = [] := List.eq_nil_of_length_eq_zero (by omega)
  have hp2 : ∀ q ∈ [y4,s,s,y7,y8],-1 ≤ q := by
   simp only [List.forall_mem_cons] at hp ⊢
   obtain ⟨p4,p5,p6,p7,p8,_⟩ := hp
   exact ⟨p4,hs1,hs1,p7,p8,fun q hq => by cases hq⟩
  have hb2 : ∀ q ∈ [y0,y1,y2,y3,y4,s,s,y7,y8],b62 q := by
   simp only [List.forall_mem_cons] at hb ⊢
   obtain ⟨b0,b1,b2,b3,b4,b5,b6,b7,b8,_⟩ := hb
   exact ⟨b0,b1,b2,b3,b4,hs2,hs2,b7,b8,fun q hq => by cases hq⟩
  conv => cbv
  refine CallF.le (args0 := [.ptr 0 (.lit 0),i6 s,i6 (-1)]) (cfr (rnextM_lx R vs C G N W ph sp cy P B V Q la m ov h M hM hph s (-1) g c w n p r_ m_ hMs (by decide) hm2) [(0,0),(1,1),(2,2),(3,3),(4,4),(5,5),(6,6),(7,7)] (fun r h' n' hrr => ?_)) (by simp [ales,ale,pvle,I.val])
  obtain ⟨vs1,V1,e1,e2,e3,h1,c1⟩ := hrr
  subst e1 e2 e3
  conv => cbv
  refine CallF.le (args0 := [.agg [i6 y0,i6 y1,i6 y2,i6 y3,i6 y4,i6 y5,i6 y6,i6 y7,i6 y8],.p (.bool false),i6 s,i6 s]) (callF_frame (turned0_lx s s y0 y1 y2 y3 y4 y5 y6 y7 y8) [] rfl trivial rfl rfl (fun r h' n' ⟨e1,e2,e3⟩ => ?_)) (by simp [ales,ale,pvle,I.val])
  subst e1 e2 e3
  conv => cbv
  refine CallF.le (args0 := [.ptr 0 (.lit 0),i6 c,.agg [i6 y0,i6 y1,i6 y2,i6 y3,i6 y4,i6 s,i6 s,i6 y7,i6 y8]]) (cfr (rPutChanM_lx R vs1 C G N W ph sp cy P B V1 Q la m ov h1 _ c1 hph c y0 y1 y2 y3 y4 s s y7 y8 [y0,y1,y2,y3,y4,y5,y6,y7,y8] ((upd_ne hsc.symm).trans hMc) rfl hb2 hp2) [(0,0),(1,1),(2,2),(3,3),(4,4),(5,5),(6,6),(7,7)] (fun r h' n' hrr => ?_)) (by simp [ales,ale,pvle,I.val])
  obtain ⟨e,vs2,V2,e1,he_,e2,e3,h2,c2⟩ := hrr
  subst e1 e2 e3
  conv => cbv
  refine RetF.mk [i6 e] [hpR 0 1 6 3 W 7 ph sp cy,hpB 1 2 5 3 W,hpD 2 3 3 1 N 4 197 8 N,hpP 3 P,hpP 4 B,hpP 5 V2,hpP 6 Q,(7,.mix [.p (.vsl (.sym m) true la),.p (.bool ov)])] 8 (Re.at [(0,0),(1,1),(2,2),(3,3),(4,4),(5,5),(6,6),(7,7)] []) rfl ⟨e,vs2,V2,rfl,he_,rfl,rfl,h2,by rw [hpe he,upd_comm hsc.symm]; exact c2⟩
 ·have gm : ¬ ml = 0 := gm
  have he : q c false ≠ [] := fun e => gm (by rw [hml,e]; rfl)
  obtain ⟨gx,wx,nx,px,rx,mx,hMx,hxs,heq⟩ := hpn he
  obtain ⟨x,hx⟩ : ∃ x,x = ltQ (q c false) := ⟨_,rfl⟩
  rw [← hx] at hMx hxs heq
  have hxc : x ≠ c := fun e => by rw [e,hMc] at hMx; cases hMx
  obtain ⟨k1,hk1⟩ : ∃ k1,k1 = ml - 1 := ⟨_,rfl⟩
  have hcell : cells[k1.toNat]? = some (.int .i64 (.sym x)) := by
   rw [hcel]
   refine ipv_get ?_
   rw [hx]
   unfold ltQ
   rw [List.getLast?_eq_getElem?,show (q c false).length - 1 = k1.toNat by omega]
   obtain ⟨v,hv⟩ : ∃ v,(q c false)[k1.toNat]? = some v := ⟨_,List.getElem?_eq_getElem (by omega)⟩
   rw [hv]; rfl
  have hp2 : ∀ q ∈ [y4,y5,s,y7,y8],-1 ≤ q := by
   simp only [List.forall_mem_cons] at hp ⊢
   obtain ⟨p4,p5,p6,p7,p8,_⟩ := hp
   exact ⟨p4,hh1,hs1,p7,p8,fun q hq => by cases hq⟩
  have hb2 : ∀ q ∈ [y0,y1,y2,y3,y4,y5,s,y7,y8],b62 q := by
   simp only [List.forall_mem_cons] at hb ⊢
   obtain ⟨b0,b1,b2,b3,b4,b5,b6,b7,b8,_⟩ := hb
   exact ⟨b0,b1,b2,b3,b4,hh2,hs2,b7,b8,fun q hq => by cases hq⟩
  conv => cbv
  refine Fit.mk (by show (-9223372036854775808 : Int) ≤ ml - 1; omega) (by show ml - 1 ≤ 9223372036854775807; omega) fun k2 hk2 => ?_
  obtain rfl : k1 = k2 := hk1.trans (show k2 = ml - 1 from hk2).symm
  conv => cbv
  refine Need.mk (show 0 ≤ k1 ∧ k1 < ml by omega) ?_
  conv => cbv
  refine Cell.at k1 _ hcell (by simp [I.val]) rfl ?_
  conv => cbv
  refine CallF.le (args0 := [.ptr 0 (.lit 0),i6 x,i6 s]) (cfr (rnextM_lx R vs C G N W ph sp cy P B V Q la m ov h M hM hph x s gx c wx nx px rx mx hMx hs1 hs2) [(0,0),(1,1),(2,2),(3,3),(4,4),(5,5),(6,6),(7,7)] (fun r h' n' hrr => ?_)) (by simp [ales,ale,pvle,I.val])
  obtain ⟨vs1,V1,e1,e2,e3,h1,c1⟩ := hrr
  subst e1 e2 e3
  conv => cbv
  refine CallF.le (args0 := [.ptr 0 (.lit 0),i6 s,i6 (-1)]) (cfr (rnextM_lx R vs1 C G N W ph sp cy P B V1 Q la m ov h1 _ c1 hph s (-1) g c w n p r_ m_ ((upd_ne hxs.symm).trans hMs) (by decide) hm2) [(0,0),(1,1),(2,2),(3,3),(4,4),(5,5),(6,6),(7,7)] (fun r h' n' hrr => ?_)) (by simp [ales,ale,pvle,I.val])
  obtain ⟨vs2,V2,e1,e2,e3,h2,c2⟩ := hrr
  subst e1 e2 e3
  conv => cbv
  refine CallF.le (args0 := [.agg [i6 y0,i6 y1,i6 y2,i6 y3,i6 y4,i6 y5,i6 y6,i6 y7,i6 y8],.p (.bool false),i6 y5,i6 s]) (callF_frame (turned0_lx y5 s y0 y1 y2 y3 y4 y5 y6 y7 y8) [] rfl trivial rfl rfl (fun r h' n' ⟨e1,e2,e3⟩ => ?_)) (by simp [ales,ale,pvle,I.val])
  subst e1 e2 e3
  conv => cbv
  refine CallF.le (args0 := [.ptr 0 (.lit 0),i6 c,.agg [i6 y0,i6 y1,i6 y2,i6 y3,i6 y4,i6 y5,i6 s,i6 y7,i6 y8]]) (cfr (rPutChanM_lx R vs2 C G N W ph sp cy P B V2 Q la m ov h2 _ c2 hph c y0 y1 y2 y3 y4 y5 s y7 y8 [y0,y1,y2,y3,y4,y5,y6,y7,y8] ((upd_ne hsc.symm).trans ((upd_ne hxc.symm).trans hMc)) rfl hb2 hp2) [(0,0),(1,1),(2,2),(3,3),(4,4),(5,5),(6,6),(7,7)] (fun r h' n' hrr => ?_)) (by simp [ales,ale,pvle,I.val])
  obtain ⟨e,vs3,V3,e1,he_,e2,e3,h3,c3⟩ := hrr
  subst e1 e2 e3
  conv => cbv
  refine RetF.mk [i6 e] [hpR 0 1 6 3 W 7 ph sp cy,hpB 1 2 5 3 W,hpD 2 3 3 1 N 4 197 8 N,hpP 3 P,hpP 4 B,hpP 5 V3,hpP 6 Q,(7,.mix [.p (.vsl (.sym m) true la),.p (.bool ov)])] 8 (Re.at [(0,0),(1,1),(2,2),(3,3),(4,4),(5,5),(6,6),(7,7)] []) rfl ⟨e,vs3,V3,rfl,he_,rfl,rfl,h3,by rw [heq,upd_comm hsc.symm]; exact c3⟩
theorem rPush1_lx (R : List Rw) (vs C G : List Int) (N W ph sp cy : Int) (P B V Q la : List PV) (m : Int) (ov : Bool) (h : RM R vs C G N W P B V Q la m) (M : Hp) (hM : Cont R vs M) (q : Qs) (hY : Sys M q) (hph : ph = 0) (c s y0 y1 y2 y3 y4 y5 y6 y7 y8 g w n p r_ m_ : Int) (hMc : M c = some (1,[y0,y1,y2,y3,y4,y5,y6,y7,y8])) (hMs : M s = some (3,[g,c,w,n,p,r_,m_])) (hns : ∀ d,s ∉ q c d) : CallF (fun _ => Tryz.prog) 90 [.ptr 0 (.lit 0),i6 c,.p (.bool true),i6 s] [hpR 0 1 6 3 W 7 ph sp cy,hpB 1 2 5 3 W,hpD 2 3 3 1 N 4 197 8 N,hpP 3 P,hpP 4 B,hpP 5 V,hpP 6 Q,(7,.mix [.p (.vsl (.sym m) true la),.p (.bool ov)])] 8 (fun r h n => ∃ (e : Int) (vs' : List Int) (V' : List PV),r = .p (.int .i64 (.sym e)) ∧ e = 0 ∧ h = [hpR 0 1 6 3 W 7 ph sp cy,hpB 1 2 5 3 W,hpD 2 3 3 1 N 4 197 8 N,hpP 3 P,hpP 4 B,hpP 5 V',hpP 6 Q,(7,.mix [.p (.vsl (.sym m) true la),.p (.bool ov)])] ∧ n = 8 ∧ RM R vs' C G N W P B V' Q la m ∧ Cont R vs' (relink M (updQ q c true (q c true ++ [s])))) := by
 obtain ⟨hY2,hpe,hpn⟩ := hY.push (d := true) hMc hMs hns
 obtain ⟨hp,hb⟩ := hM.chan h.a hMc
 have hsl := hM.len h.a hMs
 have hRr := h.r
 have hcl := hY.len h.a hM c true
 have hs1 : -1 ≤ s := by omega
 have hs2 : b62 s := by unfold b62; omega
 have hsc : s ≠ c := fun e => by rw [e,hMc] at hMs; cases hMs
 have hh1 : -1 ≤ y7 := hp _ (by simp)
 have hh2 : b62 y7 := hb _ (by simp)
 have hm2 : b62 (-1) := by unfold b62; omega
 refine callF_of_body tok Tryz.func90 (by kernel_rfl) rfl rfl rfl ?_; conv => cbv
 refine cfr (rchanM_lx R vs C G N W ph sp cy P B V Q la m ov h M hM c y0 y1 y2 y3 y4 y5 y6 y7 y8 hMc) [(0,0),(1,1),(2,2),(3,3),(4,4),(5,5),(6,6),(7,7)] (fun r h' n' hrr => ?_)
 obtain ⟨⟨e0,e1,he0⟩,e2,e3⟩ := hrr
 subst e1 e2 e3
 conv => cbv
 refine Br.no (show ¬ ¬ (e0 = 0) from fun q => q he0) ?_
 conv => cbv
 refine cfr (rsudogM_lx R vs C G N W ph sp cy P B V Q la m ov h M hM s g c w n p r_ m_ hMs) [(0,0),(1,1),(2,2),(3,3),(4,4),(5,5),(6,6),(7,7)] (fun r h' n' hrr => ?_)
 obtain ⟨⟨e5,e1,he5⟩,e2,e3⟩ := hrr
 subst e1 e2 e3
 conv => cbv
 refine Br.no (show ¬ ¬ (e5 = 0) from fun q => q he5) ?_
 conv => cbv
 refine callF_frame (rends_lx y0 y1 y2 y3 y4 y5 y6 y7 y8 true) [] rfl trivial rfl rfl (fun r h' n' hrr => ?_)
 obtain ⟨⟨hd,tl,e1,hhd,htl⟩,e2,e3⟩ := hrr
 subst e1 e2 e3
 obtain rfl : y7 = hd := hhd.symm
 conv => cbv
 refine cfr (rAllList_lx R vs C G N W ph sp cy P B V Q la m ov h M hM q hY c true ⟨_,hMc⟩) [(0,0),(1,1),(2,2),(3,3),(4,4),(5,5),(6,6),(7,7)] (fun r h' n' hrr => ?_)
 obtain ⟨ml,cells,e1,e2,e3,hml,hcel⟩ := hrr
 subst e1 e2 e3
 conv => cbv
 refine Br.mk (fun gm => ?_) (fun gm => ?_)
 ·have gm : ml = 0 := gm
  have he : q c true = [] := List.eq_nil_of_length_eq_zero (by omega)
  have hp2 : ∀ q ∈ [y4,y5,y6,s,s],-1 ≤ q := by
   simp only [List.forall_mem_cons] at hp ⊢
   obtain ⟨p4,p5,p6,p7,p8,_⟩ := hp
   exact ⟨p4,p5,p6,hs1,hs1,fun q hq => by cases hq⟩
  have hb2 : ∀ q ∈ [y0,y1,y2,y3,y4,y5,y6,s,s],b62 q := by
   simp only [List.forall_mem_cons] at hb ⊢
   obtain ⟨b0,b1,b2,b3,b4,b5,b6,b7,b8,_⟩ := hb
   exact ⟨b0,b1,b2,b3,b4,b5,b6,hs2,hs2,fun q hq => by cases hq⟩
  conv => cbv
  refine CallF.le (args0 := [.ptr 0 (.lit 0),i6 s,i6 (-1)]) (cfr (rnextM_lx R vs C G N W ph sp cy P B V Q la m ov h M hM hph s (-1) g c w n p r_ m_ hMs (by decide) hm2) [(0,0),(1,1),(2,2),(3,3),(4,4),(5,5),(6,6),(7,7)] (fun r h' n' hrr => ?_)) (by simp [ales,ale,pvle,I.val])
  obtain ⟨vs1,V1,e1,e2,e3,h1,c1⟩ := hrr
  subst e1 e2 e3
  conv => cbv
  refine CallF.le (args0 := [.agg [i6 y0,i6 y1,i6 y2,i6 y3,i6 y4,i6 y5,i6 y6,i6 y7,i6 y8],.p (.bool true),i6 s,i6 s]) (callF_frame (turned1_lx s s y0 y1 y2 y3 y4 y5 y6 y7 y8) [] rfl trivial rfl rfl (fun r h' n' ⟨e1,e2,e3⟩ => ?_)) (by simp [ales,ale,pvle,I.val])
  subst e1 e2 e3
  conv => cbv
  refine CallF.le (args0 := [.ptr 0 (.lit 0),i6 c,.agg [i6 y0,i6 y1,i6 y2,i6 y3,i6 y4,i6 y5,i6 y6,i6 s,i6 s]]) (cfr (rPutChanM_lx R vs1 C G N W ph sp cy P B V1 Q la m ov h1 _ c1 hph c y0 y1 y2 y3 y4 y5 y6 s s [y0,y1,y2,y3,y4,y5,y6,y7,y8] ((upd_ne hsc.symm).trans hMc) rfl hb2 hp2) [(0,0),(1,1),(2,2),(3,3),(4,4),(5,5),(6,6),(7,7)] (fun r h' n' hrr => ?_)) (by simp [ales,ale,pvle,I.val])
  obtain ⟨e,vs2,V2,e1,he_,e2,e3,h2,c2⟩ := hrr
  subst e1 e2 e3
  conv => cbv
  refine RetF.mk [i6 e] [hpR 0 1 6 3 W 7 ph sp cy,hpB 1 2 5 3 W,hpD 2 3 3 1 N 4 197 8 N,hpP 3 P,hpP 4 B,hpP 5 V2,hpP 6 Q,(7,.mix [.p (.vsl (.sym m) true la),.p (.bool ov)])] 8 (Re.at [(0,0),(1,1),(2,2),(3,3),(4,4),(5,5),(6,6),(7,7)] []) rfl ⟨e,vs2,V2,rfl,he_,rfl,rfl,h2,by rw [hpe he,upd_comm hsc.symm]; exact c2⟩
 ·have gm : ¬ ml = 0 := gm
  have he : q c true ≠ [] := fun e => gm (by rw [hml,e]; rfl)
  obtain ⟨gx,wx,nx,px,rx,mx,hMx,hxs,heq⟩ := hpn he
  obtain ⟨x,hx⟩ : ∃ x,x = ltQ (q c true) := ⟨_,rfl⟩
  rw [← hx] at hMx hxs heq
  have hxc : x ≠ c := fun e => by rw [e,hMc] at hMx; cases hMx
  obtain ⟨k1,hk1⟩ : ∃ k1,k1 = ml - 1 := ⟨_,rfl⟩
  have hcell : cells[k1.toNat]? = some (.int .i64 (.sym x)) := by
   rw [hcel]
   refine ipv_get ?_
   rw [hx]
   unfold ltQ
   rw [List.getLast?_eq_getElem?,show (q c true).length - 1 = k1.toNat by omega]
   obtain ⟨v,hv⟩ : ∃ v,(q c true)[k1.toNat]? = some v := ⟨_,List.getElem?_eq_getElem (by omega)⟩
   rw [hv]; rfl
  have hp2 : ∀ q ∈ [y4,y5,y6,y7,s],-1 ≤ q := by
   simp only [List.forall_mem_cons] at hp ⊢
   obtain ⟨p4,p5,p6,p7,p8,_⟩ := hp
   exact ⟨p4,p5,p6,hh1,hs1,fun q hq => by cases hq⟩
  have hb2 : ∀ q ∈ [y0,y1,y2,y3,y4,y5,y6,y7,s],b62 q := by
   simp only [List.forall_mem_cons] at hb ⊢
   obtain ⟨b0,b1,b2,b3,b4,b5,b6,b7,b8,_⟩ := hb
   exact ⟨b0,b1,b2,b3,b4,b5,b6,hh2,hs2,fun q hq => by cases hq⟩
  conv => cbv
  refine Fit.mk (by show (-9223372036854775808 : Int) ≤ ml - 1; omega) (by show ml - 1 ≤ 9223372036854775807; omega) fun k2 hk2 => ?_
  obtain rfl : k1 = k2 := hk1.trans (show k2 = ml - 1 from hk2).symm
  conv => cbv
  refine Need.mk (show 0 ≤ k1 ∧ k1 < ml by omega) ?_
  conv => cbv
  refine Cell.at k1 _ hcell (by simp [I.val]) rfl ?_
  conv => cbv
  refine CallF.le (args0 := [.ptr 0 (.lit 0),i6 x,i6 s]) (cfr (rnextM_lx R vs C G N W ph sp cy P B V Q la m ov h M hM hph x s gx c wx nx px rx mx hMx hs1 hs2) [(0,0),(1,1),(2,2),(3,3),(4,4),(5,5),(6,6),(7,7)] (fun r h' n' hrr => ?_)) (by simp [ales,ale,pvle,I.val])
  obtain ⟨vs1,V1,e1,e2,e3,h1,c1⟩ := hrr
  subst e1 e2 e3
  conv => cbv
  refine CallF.le (args0 := [.ptr 0 (.lit 0),i6 s,i6 (-1)]) (cfr (rnextM_lx R vs1 C G N W ph sp cy P B V1 Q la m ov h1 _ c1 hph s (-1) g c w n p r_ m_ ((upd_ne hxs.symm).trans hMs) (by decide) hm2) [(0,0),(1,1),(2,2),(3,3),(4,4),(5,5),(6,6),(7,7)] (fun r h' n' hrr => ?_)) (by simp [ales,ale,pvle,I.val])
  obtain ⟨vs2,V2,e1,e2,e3,h2,c2⟩ := hrr
  subst e1 e2 e3
  conv => cbv
  refine CallF.le (args0 := [.agg [i6 y0,i6 y1,i6 y2,i6 y3,i6 y4,i6 y5,i6 y6,i6 y7,i6 y8],.p (.bool true),i6 y7,i6 s]) (callF_frame (turned1_lx y7 s y0 y1 y2 y3 y4 y5 y6 y7 y8) [] rfl trivial rfl rfl (fun r h' n' ⟨e1,e2,e3⟩ => ?_)) (by simp [ales,ale,pvle,I.val])
  subst e1 e2 e3
  conv => cbv
  refine CallF.le (args0 := [.ptr 0 (.lit 0),i6 c,.agg [i6 y0,i6 y1,i6 y2,i6 y3,i6 y4,i6 y5,i6 y6,i6 y7,i6 s]]) (cfr (rPutChanM_lx R vs2 C G N W ph sp cy P B V2 Q la m ov h2 _ c2 hph c y0 y1 y2 y3 y4 y5 y6 y7 s [y0,y1,y2,y3,y4,y5,y6,y7,y8] ((upd_ne hsc.symm).trans ((upd_ne hxc.symm).trans hMc)) rfl hb2 hp2) [(0,0),(1,1),(2,2),(3,3),(4,4),(5,5),(6,6),(7,7)] (fun r h' n' hrr => ?_)) (by simp [ales,ale,pvle,I.val])
  obtain ⟨e,vs3,V3,e1,he_,e2,e3,h3,c3⟩ := hrr
  subst e1 e2 e3
  conv => cbv
  refine RetF.mk [i6 e] [hpR 0 1 6 3 W 7 ph sp cy,hpB 1 2 5 3 W,hpD 2 3 3 1 N 4 197 8 N,hpP 3 P,hpP 4 B,hpP 5 V3,hpP 6 Q,(7,.mix [.p (.vsl (.sym m) true la),.p (.bool ov)])] 8 (Re.at [(0,0),(1,1),(2,2),(3,3),(4,4),(5,5),(6,6),(7,7)] []) rfl ⟨e,vs3,V3,rfl,he_,rfl,rfl,h3,by rw [heq,upd_comm hsc.symm]; exact c3⟩
structure Bst (R : List Rw) (ws vs C : List Int) (N W ph : Int) (L D Q : List PV) (z : ByteArray) (P B V Qr la : List PV) (m : Int) (M : Hp) : Prop where
 h : HM R ws C [] N W L D Q z
 r : RM R vs C [] N W P B V Qr la m
 c : Cont R ws M
 d : Cont R vs M
 ph : ph = 0
 w : C = List.replicate W.toNat 0
theorem Bst.colour {R R' : List Rw} {ws vs ws' vs' C C' DC : List Int} {N W ph : Int} {L D Q L' D' Q' : List PV} {z : ByteArray} {P B V Qr la P' B' V' Qr' : List PV} {m : Int} {M : Hp} {x e : Int} (S : Bst R ws vs C N W ph L D Q z P B V Qr la m M) (he : e = 0) (h1 : HM R' ws' C' [] N W L' D' Q' z) (g1 : RM R' vs' DC [] N W P' B' V' Qr' la m) (hC : C' = allocC ph x e C) (hD : DC = allocC ph x e C) : C = C' ∧ C = DC ∧ Q = Q' ∧ Qr = Qr' := by
 have : allocC ph x e C = C := by rw [S.ph,he,S.w]; exact allocC_white x
 rw [this] at hC hD
 exact ⟨hC.symm,hD.symm,by rw [h1.q,S.h.q,hC],by rw [g1.q,S.r.q,hD]⟩
structure BCh (M : Hp) (c b cap : Int) : Prop where
 c : M c = some (1,[cap,0,0,0,b,-1,-1,-1,-1])
 b : (cap = 0 ∧ b = -1) ∨ (0 < cap ∧ cap < 4 ∧ M b = some (2,List.replicate cap.toNat 0))
def capW (x : Int) : Int := IntKind.u64.wrap x % 4
theorem capW_bd (x : Int) : 0 ≤ capW x ∧ capW x < 4 := by unfold capW; omega
def ngor (n : Int) : Int := 1 + IntKind.u64.wrap n % 6
theorem ngor_bd (n : Int) : 1 ≤ ngor n ∧ ngor n ≤ 6 := by unfold ngor; omega
structure Bn (caps : List Int) (M : Hp) (chs bufs gs : List Int) : Prop where
 len : bufs.length = chs.length
 lec : chs.length ≤ caps.length
 ch : ∀ (j : Nat) (c x : Int),chs[j]? = some c → caps[j]? = some x → ∃ b,bufs[j]? = some b ∧ BCh M c b (capW x)
 nd : chs.Nodup
 bnd : ∀ (i j : Nat) (b : Int),bufs[i]? = some b → bufs[j]? = some b → 0 ≤ b → i = j
 gnd : gs.Nodup
 gr : ∀ (j : Nat) (g : Int),gs[j]? = some g → M g = some (4,[(j : Int),0,0,0,0,0,0,0,0,-1])
theorem Bn.new (caps : List Int) (M : Hp) : Bn caps M [] [] [] := ⟨rfl,Nat.zero_le _,fun j c x h => by simp at h,List.nodup_nil,fun i j b h => by simp at h,List.nodup_nil,fun j g h => by simp at h⟩
theorem Bn.chAt {caps : List Int} {M : Hp} {chs bufs gs : List Int} (h : Bn caps M chs bufs gs) {c : Int} (hc : c ∈ chs) : ∃ (j : Nat) (b x : Int),chs[j]? = some c ∧ caps[j]? = some x ∧ bufs[j]? = some b ∧ BCh M c b (capW x) := by
 obtain ⟨j,hj⟩ := List.getElem?_of_mem hc
 have hl := (List.getElem?_eq_some_iff.1 hj).1
 obtain ⟨x,hx⟩ : ∃ x,caps[j]? = some x := ⟨_,List.getElem?_eq_getElem (by have := h.lec; omega)⟩
 obtain ⟨b,hb,hB⟩ := h.ch j c x hj hx
 exact ⟨j,b,x,hj,hx,hb,hB⟩
theorem Bn.bufAt {caps : List Int} {M : Hp} {chs bufs gs : List Int} (h : Bn caps M chs bufs gs) {b : Int} (hb : b ∈ bufs) : b = -1 ∨ ∃ F,M b = some (2,F) := by
 obtain ⟨j,hj⟩ := List.getElem?_of_mem hb
 have hl := (List.getElem?_eq_some_iff.1 hj).1
 obtain ⟨c,hc⟩ : ∃ c,chs[j]? = some c := ⟨_,List.getElem?_eq_getElem (by have := h.len; omega)⟩
 obtain ⟨x,hx⟩ : ∃ x,caps[j]? = some x := ⟨_,List.getElem?_eq_getElem (by have := h.lec; have := h.len; omega)⟩
 obtain ⟨b',hb',hB⟩ := h.ch j c x hc hx
 obtain rfl : b = b' := Option.some.inj (hj.symm.trans hb')
 rcases hB.b with q | q
 ·exact .inl q.2
 ·exact .inr ⟨_,q.2.2⟩
theorem Bn.weaken {caps : List Int} {M M' : Hp} {chs bufs gs : List Int} (h : Bn caps M chs bufs gs) (hM : ∀ a v,M a = some v → M' a = some v) : Bn caps M' chs bufs gs := by
 refine ⟨h.len,h.lec,fun j c x hc hx => ?_,h.nd,h.bnd,h.gnd,fun j g hg => hM _ _ (h.gr j g hg)⟩
 obtain ⟨b,hb,hB⟩ := h.ch j c x hc hx
 refine ⟨b,hb,hM _ _ hB.c,?_⟩
 rcases hB.b with q | ⟨q1,q2,q3⟩
 ·exact .inl q
 ·exact .inr ⟨q1,q2,hM _ _ q3⟩
theorem Bn.chan0 {caps : List Int} {M : Hp} {chs bufs : List Int} (h : Bn caps M chs bufs []) {c x : Int} (hx : caps[chs.length]? = some x) (h0 : capW x = 0) (hc : M c = none) (G : Int × List Int) : Bn caps (upd (upd M c G) c (1,[capW x,0,0,0,-1,-1,-1,-1,-1])) (chs ++ [c]) (bufs ++ [-1]) [] := by
 have hlx := (List.getElem?_eq_some_iff.1 hx).1
 have hnc : c ∉ chs := fun q => by
  obtain ⟨_,_,_,_,_,_,hB⟩ := h.chAt q
  have := hB.c; rw [hc] at this; cases this
 have hw := h.weaken (M' := upd (upd M c G) c (1,[capW x,0,0,0,-1,-1,-1,-1,-1])) fun a v ha => by
  have : a ≠ c := fun q => by rw [q,hc] at ha; cases ha
  rw [upd_ne this,upd_ne this]; exact ha
 refine ⟨by simp [h.len],by simp; omega,fun j c' x' hj hx' => ?_,?_,fun i j b hi hj hb => ?_,List.nodup_nil,fun j g hg => by simp at hg⟩
 ·rw [List.getElem?_append] at hj
  split at hj
  ·obtain ⟨b,hb,hB⟩ := hw.ch j c' x' hj hx'
   exact ⟨b,by rw [List.getElem?_append_left (by rw [h.len]; assumption)]; exact hb,hB⟩
  ·rename_i q
   have hj0 : j = chs.length := by have := (List.getElem?_eq_some_iff.1 hj).1; simp at this; omega
   subst hj0
   simp at hj
   subst hj
   obtain rfl : x = x' := Option.some.inj (hx.symm.trans hx')
   exact ⟨-1,by rw [← h.len]; simp,upd_same _ _ _,.inl ⟨h0,rfl⟩⟩
 ·rw [List.nodup_append]
  exact ⟨h.nd,by simp,fun a ha b hb => by simp at hb; subst hb; exact fun e => hnc (e ▸ ha)⟩
 ·rw [List.getElem?_append] at hi hj
  split at hi <;> split at hj
  ·exact h.bnd i j b hi hj hb
  ·have := (List.getElem?_eq_some_iff.1 hj).1; simp at this; simp [this] at hj; omega
  ·have := (List.getElem?_eq_some_iff.1 hi).1; simp at this; simp [this] at hi; omega
  ·have := (List.getElem?_eq_some_iff.1 hi).1; simp at this; simp [this] at hi; omega
theorem Bn.chan1 {caps : List Int} {M : Hp} {chs bufs : List Int} (h : Bn caps M chs bufs []) {c b x : Int} (hx : caps[chs.length]? = some x) (h0 : 0 < capW x) (hc : M c = none) (G : Int × List Int) (hb : upd M c G b = none) : Bn caps (upd (upd (upd M c G) b (2,List.replicate (capW x).toNat 0)) c (1,[capW x,0,0,0,b,-1,-1,-1,-1])) (chs ++ [c]) (bufs ++ [b]) [] := by
 have hlx := (List.getElem?_eq_some_iff.1 hx).1
 have hbc : b ≠ c := fun q => by rw [q,upd_same] at hb; cases hb
 rw [upd_ne hbc] at hb
 have hnc : c ∉ chs := fun q => by
  obtain ⟨_,_,_,_,_,_,hB⟩ := h.chAt q
  have := hB.c; rw [hc] at this; cases this
 have hnb : b ∈ bufs → b = -1 := fun q => by
  rcases h.bufAt q with q | ⟨F,q⟩
  ·exact q
  ·rw [hb] at q; cases q
 have hw := h.weaken (M' := upd (upd (upd M c G) b (2,List.replicate (capW x).toNat 0)) c (1,[capW x,0,0,0,b,-1,-1,-1,-1])) fun a v ha => by
  have q1 : a ≠ c := fun q => by rw [q,hc] at ha; cases ha
  have q2 : a ≠ b := fun q => by rw [q,hb] at ha; cases ha
  rw [upd_ne q1,upd_ne q2,upd_ne q1]; exact ha
 refine ⟨by simp [h.len],by simp; omega,fun j c' x' hj hx' => ?_,?_,fun i j b' hi hj hb' => ?_,List.nodup_nil,fun j g hg => by simp at hg⟩
 ·rw [List.getElem?_append] at hj
  split at hj
  ·obtain ⟨b,hb,hB⟩ := hw.ch j c' x' hj hx'
   exact ⟨b,by rw [List.getElem?_append_left (by rw [h.len]; assumption)]; exact hb,hB⟩
  ·rename_i q
   have hj0 : j = chs.length := by have := (List.getElem?_eq_some_iff.1 hj).1; simp at this; omega
   subst hj0
   simp at hj
   subst hj
   obtain rfl : x = x' := Option.some.inj (hx.symm.trans hx')
   exact ⟨b,by rw [← h.len]; simp,upd_same _ _ _,.inr ⟨h0,(capW_bd x).2,by rw [upd_ne hbc,upd_same]⟩⟩
 ·rw [List.nodup_append]
  exact ⟨h.nd,by simp,fun a ha b hb => by simp at hb; subst hb; exact fun e => hnc (e ▸ ha)⟩
 ·rw [List.getElem?_append] at hi hj
  split at hi <;> split at hj
  ·exact h.bnd i j b' hi hj hb'
  ·have := (List.getElem?_eq_some_iff.1 hj).1; simp at this; simp [this] at hj; subst hj
   have := hnb (List.mem_of_getElem? hi); omega
  ·have := (List.getElem?_eq_some_iff.1 hi).1; simp at this; simp [this] at hi; subst hi
   have := hnb (List.mem_of_getElem? hj); omega
  ·have q1 := (List.getElem?_eq_some_iff.1 hi).1; have q2 := (List.getElem?_eq_some_iff.1 hj).1; simp at q1 q2; omega
theorem Bn.gor {caps : List Int} {M : Hp} {chs bufs gs : List Int} (h : Bn caps M chs bufs gs) {g j : Int} (hj : j = gs.length) (hg : M g = none) (G : Int × List Int) : Bn caps (upd (upd M g G) g (4,[j,0,0,0,0,0,0,0,0,-1])) chs bufs (gs ++ [g]) := by
 have hng : g ∉ gs := fun q => by
  obtain ⟨j,hj⟩ := List.getElem?_of_mem q
  rw [h.gr j g hj] at hg; cases hg
 have hw := h.weaken (M' := upd (upd M g G) g (4,[j,0,0,0,0,0,0,0,0,-1])) fun a v ha => by
  have : a ≠ g := fun q => by rw [q,hg] at ha; cases ha
  rw [upd_ne this,upd_ne this]; exact ha
 refine ⟨h.len,h.lec,hw.ch,h.nd,h.bnd,?_,fun k x hk => ?_⟩
 ·rw [List.nodup_append]
  exact ⟨h.gnd,by simp,fun a ha b hb => by simp at hb; subst hb; exact fun e => hng (e ▸ ha)⟩
 ·rw [List.getElem?_append] at hk
  split at hk
  ·exact hw.gr k x hk
  ·have := (List.getElem?_eq_some_iff.1 hk).1; simp at this
   have hk0 : k = gs.length := by omega
   subst hk0
   simp at hk
   subst hk
   rw [upd_same,hj]
theorem upd_upd2 (M : Hp) (a : Int) (v w : Int × List Int) : upd (upd M a v) a w = upd M a w := by
 funext b
 unfold upd
 split <;> rfl
theorem rl_ot {B : Hp} {q : Qs} {a k : Int} {F : List Int} (hk : k ≠ 1 ∧ k ≠ 3) : upd (relink B q) a (k,F) = relink (upd B a (k,F)) q := by rw [relink_upd,lnk_other _ _ _ hk]
theorem rl_su {B : Hp} {q : Qs} {x g c w p r m : Int} (hn : ∀ d,x ∉ q c d) : upd (relink B q) x (3,[g,c,w,-1,p,r,m]) = relink (upd B x (3,[g,c,w,-1,p,r,m])) q := by rw [relink_upd,lnk_sudog,nxtQ_not hn]
theorem rl_setM {B : Hp} {q : Qs} {x m : Int} (h : IsSu B x) : setM (relink B q) x m = relink (setM B x m) q := by
 obtain ⟨g,c,w,n,p,r,m',e⟩ := h
 have e2 : relink B q x = some (3,[g,c,w,nxtQ q c x,p,r,m']) := by rw [relink_get e,lnk_sudog]
 rw [setM_eq e,setM_eq e2,relink_upd,lnk_sudog]
theorem rl_parkM {q : Qs} : ∀ {l : List Int} {B : Hp},(∀ x ∈ l,IsSu B x) → parkM (relink B q) l = relink (parkM B l) q
 | [],_,_ => rfl
 | x :: l,B,h => by
  show parkM (setM (relink B q) x (hdQ l)) l = relink (parkM (setM B x (hdQ l)) l) q
  rw [rl_setM (h x List.mem_cons_self)]
  exact rl_parkM fun y hy => setM_su (h y (List.mem_cons_of_mem _ hy))
def addS (g v tq : Int) : Int → List (Int × Bool) → List Int → Hp → Hp
 | i,(c,d) :: ps,x :: xs,B => addS g v tq (i + 1) ps xs (upd B x (3,[g,c,v + 2 * i,-1,tq + i,if d then -1 else i,-1]))
 | _,_,_,B => B
def addQ : List (Int × Bool) → List Int → Qs → Qs
 | (c,d) :: ps,x :: xs,q => addQ ps xs (updQ q c d (q c d ++ [x]))
 | _,_,q => q
def waitB (g v tq : Int) (ps : List (Int × Bool)) (xs : List Int) (gF : List Int) (B : Hp) : Hp := upd (parkM (addS g v tq 0 ps xs B) xs) g (4,gF)
theorem newSu2 {M : Hp} {q : Qs} {x g c w p r m : Int} (h : Sys M q) (hx : M x = Option.none) : Sys (upd M x (3,[g,c,w,-1,p,r,m])) q ∧ ∀ c d,x ∉ q c d := by
 have hn : ∀ c d,x ∉ q c d := fun c d hs => by obtain ⟨g,w,n,p,r,m,e⟩ := h.sg c d x hs; rw [hx] at e; cases e
 refine ⟨h.updv ?_ (fun F e => by rw [hx] at e; cases e) (fun c d e => absurd e (hn c d)) ⟨fun q => absurd (show (3 : Int) = 1 from q) (by decide),fun _ => rfl⟩,hn⟩
 rw [lnk_sudog,nxtQ_not (fun d => hn _ d)]
structure Bs2 (R : List Rw) (ws vs C : List Int) (N W ph : Int) (L D Q : List PV) (z : ByteArray) (P B V Qr la : List PV) (m : Int) (M M2 : Hp) : Prop where
 h : HM R ws C [] N W L D Q z
 r : RM R vs C [] N W P B V Qr la m
 c : Cont R ws M
 d : Cont R vs M2
 ph : ph = 0
 w : C = List.replicate W.toNat 0
theorem Bst.two {R : List Rw} {ws vs C : List Int} {N W ph : Int} {L D Q : List PV} {z : ByteArray} {P B V Qr la : List PV} {m : Int} {M : Hp} (S : Bst R ws vs C N W ph L D Q z P B V Qr la m M) : Bs2 R ws vs C N W ph L D Q z P B V Qr la m M M := ⟨S.h,S.r,S.c,S.d,S.ph,S.w⟩
theorem Bs2.colour {R R' : List Rw} {ws vs ws' vs' C C' DC : List Int} {N W ph : Int} {L D Q L' D' Q' : List PV} {z : ByteArray} {P B V Qr la P' B' V' Qr' : List PV} {m : Int} {M M2 : Hp} {x e : Int} (S : Bs2 R ws vs C N W ph L D Q z P B V Qr la m M M2) (he : e = 0) (h1 : HM R' ws' C' [] N W L' D' Q' z) (g1 : RM R' vs' DC [] N W P' B' V' Qr' la m) (hC : C' = allocC ph x e C) (hD : DC = allocC ph x e C) : C = C' ∧ C = DC ∧ Q = Q' ∧ Qr = Qr' := by
 have : allocC ph x e C = C := by rw [S.ph,he,S.w]; exact allocC_white x
 rw [this] at hC hD
 exact ⟨hC.symm,hD.symm,by rw [h1.q,S.h.q,hC],by rw [g1.q,S.r.q,hD]⟩
theorem alloct_any {R R' : List Rw} {ws ws' vs : List Int} {kind n a e : Int} (h : Alloct R ws kind n a e R' ws') : ∃ vs',Alloct R vs kind n a e R' vs' := by
 cases h with
 | arg h => exact ⟨_,.arg h⟩
 | room i s R' h ha => exact ⟨_,.room i s R' h ha⟩
 | ok i s at_ R' h ha hi hat => exact ⟨_,.ok i s a R' h ha hi hat⟩
theorem Bs2.alloc {R R' Y : List Rw} {ws vs C ws' vs' : List Int} {N W ph : Int} {L D Q : List PV} {z : ByteArray} {P B V Qr la : List PV} {m kd n x e y f : Int} {M M2 : Hp} (S : Bs2 R ws vs C N W ph L D Q z P B V Qr la m M M2) (hroom : objCount R < R.length) (hk : 0 ≤ n ∧ n ≤ 31 ∧ 1 ≤ kd ∧ kd ≤ 6) (hlen : lenK kd n.toNat) (hT : Alloct R ws kd n x e R' ws') (hU : AlloctV R vs kd n y f Y vs') : e = 0 ∧ x = y ∧ e = f ∧ R' = Y ∧ Cont R' ws' (upd M x (kd,zerK kd n.toNat)) ∧ Cont R' vs' (upd M2 x (kd,zerK kd n.toNat)) ∧ objCount R' = objCount R + 1 ∧ M x = Option.none ∧ M2 x = Option.none ∧ 0 ≤ x ∧ x < 32 * R.length ∧ R'.length = R.length := by
 obtain ⟨wx,hTx⟩ := alloct_any (vs := vs) hT
 obtain ⟨q1,q2,q3,hS1,hl1⟩ := (S.d.toSim S.r.a S.r.a S.d).alloc hTx hU
 subst q1 q2 q3
 obtain ⟨he,hM1,hc1,hx0,hx1,hx2,hx3⟩ := S.c.alloc S.h.a hroom hk hlen hT
 obtain ⟨_,hM2,_,hy0,_,_,_⟩ := S.d.alloc S.r.a hroom hk hlen hTx
 exact ⟨he,rfl,rfl,rfl,hM1,hM2.sim hS1,hc1,hx0,hy0,hx1,hx2,hx3⟩
theorem capS {x : Int} (h : 0 ≤ x ∧ x < 4) : capW x = x := by
 unfold capW
 rw [show IntKind.u64.wrap x = x by simp [IntKind.wrap,IntKind.bits,IntKind.signed]; omega]
 omega
theorem chA1 {chs : List Int} {nc : Int} (hn : nc = (chs.length : Int)) (h1 : nc = 1) : ∃ c,chs = [c] := by
 match chs with
 | [c] => exact ⟨c,rfl⟩
 | [] => simp at hn; omega
 | _ :: _ :: _ => simp at hn; omega
theorem ix0 {chs : List Int} {nc x c : Int} (h : chs[(IntKind.u64.wrap 0 % nc).toNat]? = some x) (hc : chs[0]? = some c) : x = c := by
 rw [show IntKind.u64.wrap 0 = 0 by decide,Int.zero_emod] at h
 exact Option.some.inj (h.symm.trans hc)
theorem rl_none {M : Hp} {q : Qs} {a : Int} (h : relink M q a = none) : M a = none := by
 unfold relink at h
 cases e : M a with
 | none => rfl
 | some v => rw [e] at h; cases h
theorem rl_isSu {M : Hp} {q : Qs} {a : Int} (h : IsSu M a) : IsSu (relink M q) a := by
 obtain ⟨g,c,w,n,p,r,m,e⟩ := h
 exact ⟨g,c,w,_,p,r,m,by rw [relink_get e,lnk_sudog]⟩
theorem rl_chan {M : Hp} {q : Qs} {a : Int} (h : ∃ F,M a = some (1,F)) : ∃ F,relink M q a = some (1,F) := by
 obtain ⟨F,e⟩ := h
 obtain ⟨G,h3,_⟩ := lnk_kind (q := q) (a := a) (k := 1) (F := F)
 exact ⟨G,by rw [relink_get e,h3]⟩
theorem suUpd {M : Hp} {x y g c w n p r m : Int} (h : IsSu M y) : IsSu (upd M x (3,[g,c,w,n,p,r,m])) y := by
 by_cases e : y = x
 ·subst e; exact ⟨g,c,w,n,p,r,m,upd_same _ _ _⟩
 ·obtain ⟨g',c',w',n',p',r',m',k⟩ := h
  exact ⟨g',c',w',n',p',r',m',by rw [upd_ne e]; exact k⟩
theorem chUpd {M : Hp} {x y : Int} {v : Int × List Int} (hx : M x = none) (h : ∃ F,M y = some (1,F)) : ∃ F,upd M x v y = some (1,F) := by
 obtain ⟨F,k⟩ := h
 have : y ≠ x := fun e => by rw [e,hx] at k; cases k
 exact ⟨F,by rw [upd_ne this]; exact k⟩
theorem noneUpd {M K : Hp} {x a : Int} {v : Int × List Int} (h : ∀ a,M a = none → K a = none) (ha : upd M x v a = none) : K a = none := by
 by_cases e : a = x
 ·subst e; rw [upd_same] at ha; cases ha
 ·rw [upd_ne e] at ha; exact h a ha
theorem waitB_g (g v tq : Int) (ps : List (Int × Bool)) (xs gF : List Int) (B : Hp) : waitB g v tq ps xs gF B g = some (4,gF) := upd_same _ _ _
theorem addS_ne {g v tq : Int} : ∀ {ps : List (Int × Bool)} {xs : List Int} {i : Int} {B : Hp} {a : Int},a ∉ xs → addS g v tq i ps xs B a = B a
 | [],xs,_,_,_,_ => by cases xs <;> rfl
 | (c,d) :: ps,[],_,_,_,_ => rfl
 | (c,d) :: ps,x :: xs,i,B,a,h => by
  have hx : a ≠ x := fun e => h (by rw [e]; exact List.mem_cons_self)
  show addS g v tq (i + 1) ps xs (upd B x _) a = B a
  rw [addS_ne (fun k => h (List.mem_cons_of_mem _ k)),upd_ne hx]
theorem waitB_ne {g v tq a : Int} {ps : List (Int × Bool)} {xs gF : List Int} {B : Hp} (h1 : a ≠ g) (h2 : a ∉ xs) : waitB g v tq ps xs gF B a = B a := by
 unfold waitB
 rw [upd_ne h1,parkM_ne h2,addS_ne h2]
theorem waitB_1 {g v tq c x : Int} {d : Bool} {gF : List Int} {B : Hp} (h1 : x ≠ g) : waitB g v tq [(c,d)] [x] gF B x = some (3,[g,c,v,-1,tq,if d then -1 else 0,-1]) := by
 unfold waitB
 rw [upd_ne h1]
 show setM (upd B x (3,[g,c,v + 2 * 0,-1,tq + 0,if d then -1 else 0,-1])) x (-1) x = _
 rw [setM_eq (upd_same _ _ _),upd_same]
 simp
end Go.Proofs.YtmckfhnijeiklaaGreatDoor
