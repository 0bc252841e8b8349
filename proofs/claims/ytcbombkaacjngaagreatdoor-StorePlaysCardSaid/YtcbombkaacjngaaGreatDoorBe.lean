/-
  The ground of the proof, part 5: the calculus and what is proved with it.
-/
import Derived.Test.YtcbombkaacjngaaGreatDoorBd
import Derived.Test.YtcbombkaacjngaaGreatDoorBc
import Derived.Lib.AtoiErrMem
import Derived.Lib.LaidTab
import Derived.Laws.RangeAny
import Derived.Lib.ItoaLen
import Derived.ChangeArms
import Derived.Test.YtcbombkaacjngaaGreatDoorRows
import Derived.Test.YtcbombkaacjngaaGreatDoorBa
namespace Go.Proofs.YtcbombkaacjngaaGreatDoor
open Go Go.LX
set_option maxRecDepth 100000
set_option linter.unusedVariables false
set_option linter.unusedSimpArgs false
set_option maxHeartbeats 32000000
theorem header_lx (k l : Int) (hk : 0 ≤ k ∧ k ≤ 100) (hl : 0 ≤ l ∧ l ≤ 100) (v : Int) (hv : v = k + 16 * l) : CallF (fun _ => Tryz.prog) 228 [.agg [i6 k,i6 l]] [] 0 (fun r h n' => r = .p (.int .i64 (.sym v)) ∧ h = [] ∧ n' = 0) := by
 refine callF_of_body tok Tryz.func228 (by kernel_rfl) rfl rfl rfl ?_; conv => cbv
 refine Fit.mk (by show (-9223372036854775808 : Int) ≤ 16 * l; omega) (by show 16 * l ≤ 9223372036854775807; omega) fun a ha => ?_
 have ha : a = 16 * l := ha
 conv => cbv
 refine Fit.mk (by show (-9223372036854775808 : Int) ≤ k + a; omega) (by show k + a ≤ 9223372036854775807; omega) fun b hb => ?_
 have hb : b = k + a := hb
 have hbv : b = v := by omega
 conv => cbv
 refine RetF.mk [i6 v] [] 0 (Re.at [] []) rfl ⟨rfl,rfl,rfl⟩
def zer : List Int → Nat → Nat → List Int
 | ws,_,0 => ws
 | ws,j,n + 1 => zer (ws.set j 0) (j + 1) n
theorem zer_length : ∀ (n : Nat) (ws : List Int) (j : Nat),(zer ws j n).length = ws.length
 | 0,_,_ => rfl
 | n + 1,ws,j => by rw [zer,zer_length n,List.length_set]
theorem zer_get : ∀ (n : Nat) (ws : List Int) (j i : Nat),i < ws.length → (zer ws j n)[i]? = if j ≤ i ∧ i < j + n then some 0 else ws[i]?
 | 0,ws,j,i,h => by rw [zer,if_neg (by omega)]
 | n + 1,ws,j,i,h => by
  rw [zer,zer_get n _ _ _ (by rw [List.length_set]; exact h)]
  by_cases h1 : j + 1 ≤ i ∧ i < j + 1 + n
  ·rw [if_pos h1,if_pos (by omega)]
  ·rw [if_neg h1]
   by_cases h2 : j = i
   ·subst h2
    rw [List.getElem?_set_self h,if_pos (by omega)]
   ·rw [List.getElem?_set_ne h2,if_neg (by omega)]
theorem pvles_set : ∀ (L M : List PV) (j : Nat) (u v : PV),pvles L M → pvle u v → pvles (L.set j u) (M.set j v)
 | [],[],_,_,_,_,_ => trivial
 | x :: L,y :: M,0,u,v,h,k => ⟨k,h.2⟩
 | x :: L,y :: M,j + 1,u,v,h,k => ⟨h.1,pvles_set L M j u v h.2 k⟩
theorem upd_zer : ∀ (n : Nat) (L : List PV) (ws : List Int) (j : Nat),pvles L (ipv ws) → pvles (updL L j (repsP [.int .i64 (.lit 0)] n)) (ipv (zer ws j n))
 | 0,_,_,_,h => h
 | n + 1,L,ws,j,h => by
  show pvles (updL (L.set j _) (j + 1) (repsP [.int .i64 (.lit 0)] n)) (ipv (zer (ws.set j 0) (j + 1) n))
  refine upd_zer n _ _ _ ?_
  rw [ipv,List.map_set]
  exact pvles_set _ _ _ _ _ h (by simp [pvle,I.val])
inductive Alloct (R : List Rw) (ws : List Int) (kind n : Int) : Int → Int → List Rw → List Int → Prop
 | arg (h : ¬ (0 ≤ n ∧ n ≤ 31 ∧ 1 ≤ kind ∧ kind ≤ 6)) : Alloct R ws kind n 0 1 R ws
 | room (i s : Int) (R' : List Rw) (h : 0 ≤ n ∧ n ≤ 31 ∧ 1 ≤ kind ∧ kind ≤ 6) (ha : Alloced R (ofN n) i s false R') : Alloct R ws kind n 0 9 R' ws
 | ok (i s at_ : Int) (R' : List Rw) (h : 0 ≤ n ∧ n ≤ 31 ∧ 1 ≤ kind ∧ kind ≤ 6) (ha : Alloced R (ofN n) i s true R') (hi : 0 ≤ i ∧ i < R.length ∧ 0 ≤ s ∧ s < slotsOf (ofN n)) (hat : at_ = 32 * i + s * wordsOf (ofN n)) :
   Alloct R ws kind n at_ 0 R' (zer (ws.set at_.toNat (kind + 16 * n)) (at_.toNat + 1) n.toNat)
theorem ofN_words {n : Int} (h : 0 ≤ n ∧ n ≤ 31) : n < wordsOf (ofN n) ∧ wordsOf (ofN n) ≠ 0 := by
 unfold ofN
 split
 ·exact ⟨by rw [show wordsOf 0 = 4 from rfl]; omega,by decide⟩
 ·split
  ·exact ⟨by rw [show wordsOf 1 = 8 from rfl]; omega,by decide⟩
  ·split
   ·exact ⟨by rw [show wordsOf 2 = 16 from rfl]; omega,by decide⟩
   ·exact ⟨by rw [show wordsOf 3 = 32 from rfl]; omega,by decide⟩
theorem ofN_slots (n : Int) : slotsOf (ofN n) ≠ 0 := by
 unfold ofN
 split
 ·decide
 ·split
  ·decide
  ·split <;> decide
theorem alloced_in {R R' : List Rw} {c i s : Int} (hR : RowsOk R) (h : Alloced R c i s true R') : 0 ≤ i ∧ i < R.length ∧ 0 ≤ s ∧ s < slotsOf c := by
 cases h with
 | old i s l h0 hi hs h1 h2 =>
  have hq := (List.getElem?_eq_some_iff.1 hi).1
  have hs1 := (List.getElem?_eq_some_iff.1 hs).1
  have hne : l ≠ [] := by intro e; subst e; simp at hs
  have h4 : l.length = slotsOf c := ((hR _ (List.mem_of_getElem? hi)).2 hne).2.1
  omega
 | fresh i d h0 h2 hi h3 =>
  have hq := (List.getElem?_eq_some_iff.1 hi).1
  omega
theorem allocA_lx (kind m : Int) (R : List Rw) (ws : List Int) (n W : Int) (L D : List PV) (hL : L = rpv R) (hD : D = ipv ws) (hn : n = R.length) (hR : R.length ≤ 1000) (hA : AOk R ws) (hW : W = 32 * n) : CallF (fun _ => Tryz.prog) 209 [.ptr 0 (.lit 0),i6 kind,i6 m] [hpB 0 1 3 3 W,hpC 1 2 270 2 n,hpP 2 L,hpP 3 D] 4
  (fun r h n' => ∃ (at_ e : Int) (R' : List Rw) (ws' : List Int) (L' D' : List PV),r = .tup [i6 at_,i6 e] ∧ h = [hpB 0 1 3 3 W,hpC 1 2 270 2 n,hpP 2 L',hpP 3 D'] ∧ n' = 4 ∧ L' = rpv R' ∧ D' = ipv ws' ∧ Alloct R ws kind m at_ e R' ws') := by
 have hlen := hA.len
 have hDl : D.length = ws.length := by rw [hD,ipv_length]
 have hm8 : ∀ e ∈ R,e.2.length ≤ 8 := fun e he => (hA.rows e he).1
 refine callF_of_body tok Tryz.func209 (by kernel_rfl) rfl rfl rfl ?_; conv => cbv
 refine callF_frame (of_lx m) [] rfl trivial rfl rfl (fun r h' n' hrr => ?_)
 obtain ⟨c,b,e1,e2,e3,hO⟩ := hrr
 subst e1 e2 e3
 cases hO with
 | no hno =>
  conv => cbv
  refine RetF.mk [i6 0,i6 1] [hpB 0 1 3 3 W,hpC 1 2 270 2 n,hpP 2 L,hpP 3 D] 4 (Re.at [(0,0),(1,1),(2,2),(3,3)] []) rfl ⟨0,1,R,ws,L,D,rfl,rfl,rfl,hL,hD,.arg (fun h => hno ⟨h.1,h.2.1⟩)⟩
 | yes _ hc hyes =>
  conv => cbv
  refine Br.mk (fun g => ?_) (fun g => ?_)
  ·have g : kind < 1 := g
   have hno : ¬ (0 ≤ m ∧ m ≤ 31 ∧ 1 ≤ kind ∧ kind ≤ 6) := fun h => by omega
   conv => cbv
   refine RetF.mk [i6 0,i6 1] [hpB 0 1 3 3 W,hpC 1 2 270 2 n,hpP 2 L,hpP 3 D] 4 (Re.at [(0,0),(1,1),(2,2),(3,3)] []) rfl ⟨0,1,R,ws,L,D,rfl,rfl,rfl,hL,hD,.arg hno⟩
  have g : ¬ kind < 1 := g
  conv => cbv
  refine Br.mk (fun g2 => ?_) (fun g2 => ?_)
  ·have g2 : 6 < kind := g2
   have hno : ¬ (0 ≤ m ∧ m ≤ 31 ∧ 1 ≤ kind ∧ kind ≤ 6) := fun h => by omega
   conv => cbv
   refine RetF.mk [i6 0,i6 1] [hpB 0 1 3 3 W,hpC 1 2 270 2 n,hpP 2 L,hpP 3 D] 4 (Re.at [(0,0),(1,1),(2,2),(3,3)] []) rfl ⟨0,1,R,ws,L,D,rfl,rfl,rfl,hL,hD,.arg hno⟩
  have g2 : ¬ 6 < kind := g2
  have hyk : 0 ≤ m ∧ m ≤ 31 ∧ 1 ≤ kind ∧ kind ≤ 6 := by omega
  conv => cbv
  refine cfr (alloc_lx R n c L hL hn hR hm8) [(0,1),(1,2)] (fun r h' n' hrr => ?_)
  obtain ⟨i,s,b,L2,R2,e1,e2,e3,hL2,hAl⟩ := hrr
  subst e1 e2 e3
  cases b with
  | false =>
   conv => cbv
   rw [hc] at hAl
   refine RetF.mk [i6 0,i6 9] [hpB 0 1 3 3 W,hpC 1 2 270 2 n,hpP 2 L2,hpP 3 D] 4 (Re.at [(0,0),(1,1),(2,2),(3,3)] []) rfl ⟨0,9,R2,ws,L2,D,rfl,rfl,rfl,hL2,hD,.room i s R2 hyk hAl⟩
  | true =>
   conv => cbv
   obtain ⟨hi0,hi1,hs0,hs1⟩ := alloced_in hA.rows hAl
   obtain ⟨w,hw⟩ : ∃ w,w = wordsOf c := ⟨_,rfl⟩
   have hmw : m < w ∧ w ≠ 0 := by rw [hw,hc]; exact ofN_words hyes
   have hsw : (s.toNat : Int) * w + w ≤ 32 := by rw [hw]; exact slots_words (by rw [← hw]; exact hmw.2) (by omega)
   rw [show (s.toNat : Int) = s by omega] at hsw
   obtain ⟨sw,hsw2⟩ : ∃ sw,sw = s * w := ⟨_,rfl⟩
   have hsw0 : 0 ≤ sw := by rw [hsw2]; exact Int.mul_nonneg hs0 (by rw [hw]; exact (wordsOf_bd _).1)
   rw [← hsw2] at hsw
   refine Fit.mk (by show (-9223372036854775808 : Int) ≤ i * 32; omega) (by show i * 32 ≤ 9223372036854775807; omega) fun i32 hi32 => ?_
   have hi32 : i32 = i * 32 := hi32
   conv => cbv
   refine callF_frame (words_lx c w hw) [] rfl trivial rfl rfl (fun r h' n' ⟨e1,e2,e3⟩ => ?_)
   subst e1 e2 e3
   conv => cbv
   refine Fit.mk (by show (-9223372036854775808 : Int) ≤ s * w; rw [← hsw2]; omega) (by show s * w ≤ 9223372036854775807; rw [← hsw2]; omega) fun sw' hsw' => ?_
   have hsw' : sw' = sw := by rw [hsw2]; exact hsw'
   conv => cbv
   refine Fit.mk (by show (-9223372036854775808 : Int) ≤ i32 + sw'; omega) (by show i32 + sw' ≤ 9223372036854775807; omega) fun at_ hat => ?_
   have hat : at_ = i32 + sw' := hat
   have hat2 : at_ = 32 * i + sw := by omega
   conv => cbv
   obtain ⟨hv,hhv⟩ : ∃ hv,hv = kind + 16 * m := ⟨_,rfl⟩
   obtain ⟨ws2,hws2⟩ : ∃ ws2,ws2 = ws.set at_.toNat hv := ⟨_,rfl⟩
   have hws2l : ws2.length = ws.length := by rw [hws2,List.length_set]
   refine drawn_sound tok (by kernel_rfl) [(8,[4,3,2,1,0]),(10,[])] [0,1,2,3,4,5,6,7,8,9,10] (by kernel_rfl) ?_; conv => cbv
   refine callF_frame (header_lx kind m (by omega) (by omega) hv hhv) [] rfl trivial rfl rfl (fun r h' n' ⟨e1,e2,e3⟩ => ?_)
   subst e1 e2 e3
   conv => cbv
   refine Need.mk ⟨by show 0 ≤ at_; omega,by show at_ < W; omega⟩ ?_
   conv => cbv
   refine Need.mk (by show at_ + ((1 : Nat) : Int) ≤ (D.length : Int); omega) ?_
   conv => cbv
   refine Upd.mk fun D2 hD2 => ?_
   have hD2 : D2 = updL D at_.toNat [.int .i64 (.sym hv)] := hD2
   have hD2 : D2 = ipv ws2 := by rw [hD2,hD,updL_ipv,hws2]
   have hD2l : D2.length = ws.length := by rw [hD2,ipv_length,hws2l]
   conv => cbv
   refine Fit.mk (by show (-9223372036854775808 : Int) ≤ at_ + 1; omega) (by show at_ + 1 ≤ 9223372036854775807; omega) fun a1 ha1 => ?_
   have ha1 : a1 = at_ + 1 := ha1
   conv => cbv
   refine Fit.mk (by show (-9223372036854775808 : Int) ≤ at_ + 1; omega) (by show at_ + 1 ≤ 9223372036854775807; omega) fun a2 ha2 => ?_
   have ha2 : a2 = at_ + 1 := ha2
   conv => cbv
   refine Fit.mk (by show (-9223372036854775808 : Int) ≤ a2 + m; omega) (by show a2 + m ≤ 9223372036854775807; omega) fun a3 ha3 => ?_
   have ha3 : a3 = a2 + m := ha3
   conv => cbv
   by_cases hm0 : m = 0
   ·have hz : ipv ws2 = ipv (zer (ws.set at_.toNat (kind + 16 * m)) (at_.toNat + 1) m.toNat) := by rw [hws2,hhv,hm0]; rfl
    refine Room.within ⟨by show 0 ≤ a1; omega,by show a1 = a3; omega,by show a3 ≤ W; omega⟩ ?_
    conv => cbv
    refine Need.mk rfl ?_
    conv => cbv
    have hres := Alloct.ok (ws := ws) i s at_ R2 hyk (hc ▸ hAl) (hc ▸ ⟨hi0,hi1,hs0,hs1⟩) (by rw [hat2,hsw2,hw,hc])
    refine RetF.mk [i6 at_,i6 0] [hpB 0 1 3 3 W,hpC 1 2 270 2 n,hpP 2 L2,hpP 3 D2] 4 (Re.at [(0,0),(1,1),(2,2),(3,3)] []) rfl ⟨at_,0,R2,_,L2,D2,rfl,rfl,rfl,hL2,hD2.trans hz,hres⟩
   ·refine Room.new ⟨by show 0 ≤ a1; omega,by show a1 < a3; omega,by show a3 ≤ W; omega⟩ ?_
    conv => cbv
    refine Sum.mk fun z hz => ?_
    have hz : z = a3 - a1 := hz
    obtain ⟨ws3,hws3⟩ : ∃ ws3,ws3 = zer ws2 (at_.toNat + 1) m.toNat := ⟨_,rfl⟩
    obtain ⟨D9,hD9⟩ : ∃ D9,D9 = ipv ws3 := ⟨_,rfl⟩
    conv => cbv
    refine Need.mk ⟨by show 0 ≤ a1; omega,by show 0 ≤ z; omega,by show a1 + z * ((1 : Nat) : Int) ≤ (D2.length : Int); omega⟩ ?_
    conv => cbv
    refine Upd.mk fun D3 hD3 => ?_
    have hle : pvles D3 D9 := by
     have hD3 : D3 = updL D2 a1.toNat (repsP [.int .i64 (.lit 0)] z.toNat) := hD3
     rw [hD3,hD9,hws3,show a1.toNat = at_.toNat + 1 by omega,show z.toNat = m.toNat by omega,hD2]
     exact upd_zer _ _ _ _ (pvles_self _)
    clear hD3
    unfold pvles at hle
    have hz9 : D9 = ipv (zer (ws.set at_.toNat (kind + 16 * m)) (at_.toNat + 1) m.toNat) := by rw [hD9,hws3,hws2,hhv]
    have hres := Alloct.ok (ws := ws) i s at_ R2 hyk (hc ▸ hAl) (hc ▸ ⟨hi0,hi1,hs0,hs1⟩) (by rw [hat2,hsw2,hw,hc])
    conv => cbv
    refine RetF.mk [i6 at_,i6 0] [hpB 0 1 3 3 W,hpC 1 2 270 2 n,hpP 2 L2,hpP 3 D9] 4 (Re.at [(0,0),(1,1),(2,2),(3,3)] []) rfl ⟨at_,0,R2,_,L2,D9,rfl,rfl,rfl,hL2,hz9,hres⟩
inductive Freet (R : List Rw) (at_ : Int) : Int → List Rw → Prop
 | none (h : ¬ IsObj R at_) : Freet R at_ 8 R
 | ok (q s : Nat) (e : Rw) (he : R[q]? = some e) (hs : e.2[s]? = some true) (hat : at_ = 32 * q + s * wordsOf e.1) : Freet R at_ 0 (freed R q e.1 (e.2.set s false))
theorem freeA_lx (at_ : Int) (R : List Rw) (ws : List Int) (n W : Int) (L D : List PV) (hL : L = rpv R) (hD : D = ipv ws) (hn : n = R.length) (hR : R.length ≤ 1000) (hA : AOk R ws) (hW : W = 32 * n) : CallF (fun _ => Tryz.prog) 184 [.ptr 0 (.lit 0),i6 at_] [hpB 0 1 3 3 W,hpC 1 2 270 2 n,hpP 2 L,hpP 3 D] 4
  (fun r h n' => ∃ (e : Int) (R' : List Rw) (L' : List PV),r = .p (.int .i64 (.sym e)) ∧ h = [hpB 0 1 3 3 W,hpC 1 2 270 2 n,hpP 2 L',hpP 3 D] ∧ n' = 4 ∧ L' = rpv R' ∧ Freet R at_ e R') := by
 refine callF_of_body tok Tryz.func184 (by kernel_rfl) rfl rfl rfl ?_; conv => cbv
 refine cfr (slotB_lx R n at_ W L D hL hn hR hA.rows hW) [(0,0),(1,1),(2,2),(3,3)] (fun r h' n' hrr => ?_)
 obtain ⟨q,s,b,e1,e2,e3,hS⟩ := hrr
 subst e1 e2 e3
 cases hS with
 | no hno =>
  conv => cbv
  refine RetF.mk [i6 8] [hpB 0 1 3 3 W,hpC 1 2 270 2 n,hpP 2 L,hpP 3 D] 4 (Re.at [(0,0),(1,1),(2,2),(3,3)] []) rfl ⟨8,R,L,rfl,rfl,rfl,hL,.none hno⟩
 | off e hq0 hs0 he hu hno =>
  conv => cbv
  refine cfr (free_no_lx R n q s e.1 e.2 L hL hn hq0 he (hA.rows e (List.mem_of_getElem? he)).1 (fun _ => hu)) [(0,1),(1,2)] (fun r h' n' ⟨e1,e2,e3⟩ => ?_)
  subst e1 e2 e3
  conv => cbv
  refine RetF.mk [i6 8] [hpB 0 1 3 3 W,hpC 1 2 270 2 n,hpP 2 L,hpP 3 D] 4 (Re.at [(0,0),(1,1),(2,2),(3,3)] []) rfl ⟨8,R,L,rfl,rfl,rfl,hL,.none hno⟩
 | on e hq0 hs0 he hu hobj ha0 ha1 hat =>
  conv => cbv
  obtain ⟨R',hR'⟩ : ∃ R',R' = freed R q.toNat e.1 (e.2.set s.toNat false) := ⟨_,rfl⟩
  have hF : Freet R at_ 0 R' := by
   rw [hR']
   exact .ok q.toNat s.toNat e he hu (by rw [hat,show (s.toNat : Int) = s by omega,show (q.toNat : Int) = q by omega])
  refine cfr (free_lx R R' n q s e.1 e.2 L hL hn hR hq0 he (hA.rows e (List.mem_of_getElem? he)).1 hs0 hu hR') [(0,1),(1,2)] (fun r h' n' hrr => ?_)
  obtain ⟨L',e1,e2,e3,hL'⟩ := hrr
  subst e1 e2 e3
  conv => cbv
  refine RetF.mk [i6 0] [hpB 0 1 3 3 W,hpC 1 2 270 2 n,hpP 2 L',hpP 3 D] 4 (Re.at [(0,0),(1,1),(2,2),(3,3)] []) rfl ⟨0,R',L',rfl,rfl,rfl,hL',hF⟩
theorem usedA_lx (R : List Rw) (ws : List Int) (n W : Int) (L D : List PV) (hL : L = rpv R) (hD : D = ipv ws) (hn : n = R.length) (hR : R.length ≤ 1000) (hA : AOk R ws) (hW : W = 32 * n) (v : Int) (hv : v = (R.map fun e => (e.2.count true : Int) * wordsOf e.1).sum) : CallF (fun _ => Tryz.prog) 65 [.ptr 0 (.lit 0)] [hpB 0 1 3 3 W,hpC 1 2 270 2 n,hpP 2 L,hpP 3 D] 4
  (fun r h n' => r = .p (.int .i64 (.sym v)) ∧ h = [hpB 0 1 3 3 W,hpC 1 2 270 2 n,hpP 2 L,hpP 3 D] ∧ n' = 4) := by
 have hm8 : ∀ e ∈ R,e.2.length ≤ 8 := fun e he => (hA.rows e he).1
 refine callF_of_body tok Tryz.func65 (by kernel_rfl) rfl rfl rfl ?_; conv => cbv
 refine cfr (wordsS_lx R n L hL hn hR hm8 v hv) [(0,1),(1,2)] (fun r h' n' ⟨e1,e2,e3⟩ => ?_)
 subst e1 e2 e3
 conv => cbv
 refine RetF.mk [i6 v] [hpB 0 1 3 3 W,hpC 1 2 270 2 n,hpP 2 L,hpP 3 D] 4 (Re.at [(0,0),(1,1),(2,2),(3,3)] []) rfl ⟨rfl,rfl,rfl⟩
theorem wordsA_lx (R : List Rw) (ws : List Int) (n W : Int) (L D : List PV) (hL : L = rpv R) (hD : D = ipv ws) (hn : n = R.length) (hR : R.length ≤ 1000) (hA : AOk R ws) (hW : W = 32 * n) : CallF (fun _ => Tryz.prog) 66 [.ptr 0 (.lit 0)] [hpB 0 1 3 3 W,hpC 1 2 270 2 n,hpP 2 L,hpP 3 D] 4
  (fun r h n' => r = .p (.int .i64 (.sym W)) ∧ h = [hpB 0 1 3 3 W,hpC 1 2 270 2 n,hpP 2 L,hpP 3 D] ∧ n' = 4) := by
 refine callF_of_body tok Tryz.func66 (by kernel_rfl) rfl rfl rfl ?_; conv => cbv
 refine cfr (lenS_lx n L) [(0,1),(1,2)] (fun r h' n' ⟨e1,e2,e3⟩ => ?_)
 subst e1 e2 e3
 conv => cbv
 refine Fit.mk (by show (-9223372036854775808 : Int) ≤ n * 32; omega) (by show n * 32 ≤ 9223372036854775807; omega) fun v hv => ?_
 have hv : v = n * 32 := hv
 have hvW : v = W := by omega
 conv => cbv
 refine RetF.mk [i6 W] [hpB 0 1 3 3 W,hpC 1 2 270 2 n,hpP 2 L,hpP 3 D] 4 (Re.at [(0,0),(1,1),(2,2),(3,3)] []) rfl ⟨rfl,rfl,rfl⟩
theorem zero_ipv : ∀ k,pvles (repsP [.int .i64 (.lit 0)] k) (ipv (List.replicate k 0))
 | 0 => trivial
 | k + 1 => by
  rw [repsP,List.replicate_succ,ipv,List.map_cons]
  exact ⟨by simp [pvle,I.val],zero_ipv k⟩
theorem newA_lx (n W : Int) (h2 : 2 ≤ n) (h8 : n ≤ 128) (hW : W = 32 * n) (L D : List PV) (hL : L = rpv (List.replicate n.toNat (0,[]))) (hD : D = ipv (List.replicate W.toNat 0)) : CallF (fun _ => Tryz.prog) 130 [i6 n] [] 0
  (fun r h m => r = .tup [.ptr 0 (.lit 0),.p (.int .i64 (.lit 0))] ∧ h = [hpB 0 1 3 3 W,hpC 1 2 270 2 n,hpP 2 L,hpP 3 D] ∧ m = 4) := by
 refine callF_of_body tok Tryz.func130 (by kernel_rfl) rfl rfl rfl ?_; conv => cbv
 refine callF_frame (spanNew_lx n h2 h8 L hL) [] rfl trivial rfl rfl (fun r h' n' ⟨e1,e2,e3⟩ => ?_)
 subst e1 e2 e3
 conv => cbv
 refine Fit.mk (by show (-9223372036854775808 : Int) ≤ n * 32; omega) (by show n * 32 ≤ 9223372036854775807; omega) fun v hv => ?_
 have hv : v = n * 32 := hv
 have hvW : v = W := by omega
 conv => cbv
 refine Need.mk ⟨by show 0 ≤ v; omega,Int.le_refl _,by show v * 8 ≤ 140737488355328; omega,by show v ≤ 9223372036854775807; omega⟩ ?_
 conv => cbv
 refine Upd.mk fun D0 hD0 => ?_
 have hle : pvles D0 D := by
  have hD0 : D0 = repsP [.int .i64 (.lit 0)] v.toNat := hD0
  rw [hD0,hD,hvW]; exact zero_ipv _
 clear hD0 hD
 unfold pvles at hle
 conv => cbv
 refine RetF.mk [.ptr 0 (.lit 0),.p (.int .i64 (.lit 0))] [hpB 0 1 3 3 W,hpC 1 2 270 2 n,hpP 2 L,hpP 3 D] 4 (Re.at [(3,0),(0,1),(1,2),(2,3)] []) rfl ⟨rfl,rfl,rfl⟩
end Go.Proofs.YtcbombkaacjngaaGreatDoor
namespace Go.Proofs.YtcbombkaacjngaaGreatDoor
open Go Go.LX
set_option maxRecDepth 100000
set_option linter.unusedVariables false
set_option linter.unusedSimpArgs false
set_option maxHeartbeats 32000000
theorem set_get {α : Type} {l : List α} {i j : Nat} {x y : α} (hi : i < l.length) (h : (l.set i x)[j]? = some y) : (j = i ∧ y = x) ∨ (j ≠ i ∧ l[j]? = some y) := by
 by_cases e : i = j
 ·subst e
  rw [List.getElem?_set_self hi] at h
  exact .inl ⟨rfl,(Option.some.inj h).symm⟩
 ·rw [List.getElem?_set_ne e] at h
  exact .inr ⟨fun h => e h.symm,h⟩
def objCount (R : List Rw) : Nat := (R.map fun e => e.2.count true).sum
theorem sum_set : ∀ (l : List Nat) (i y x : Nat),l[i]? = some x → (l.set i y).sum + x = l.sum + y
 | [],i,y,x,h => by simp at h
 | z :: l,0,y,x,h => by
  have h : z = x := Option.some.inj h
  subst h
  simp only [List.set_cons_zero,List.sum_cons]; omega
 | z :: l,i + 1,y,x,h => by
  have := sum_set l i y x h
  simp only [List.set_cons_succ,List.sum_cons]; omega
theorem objCount_set {R : List Rw} {i : Nat} {e e' : Rw} (h : R[i]? = some e) : objCount (R.set i e') + e.2.count true = objCount R + e'.2.count true := by
 unfold objCount
 rw [List.map_set]
 exact sum_set _ _ _ _ (by rw [List.getElem?_map,h]; rfl)
theorem count_set {l : List Bool} : ∀ {s : Nat},l[s]? = some false → (l.set s true).count true = l.count true + 1 := by
 induction l with
 | nil => intro s h; simp at h
 | cons b l ih =>
  intro s h
  cases s with
  | zero =>
   have h : b = false := Option.some.inj h
   subst h
   simp
  | succ s =>
   have := ih (s := s) h
   rw [List.set_cons_succ,List.count_cons,List.count_cons,this]; omega
theorem count_unset {l : List Bool} : ∀ {s : Nat},l[s]? = some true → (l.set s false).count true + 1 = l.count true := by
 induction l with
 | nil => intro s h; simp at h
 | cons b l ih =>
  intro s h
  cases s with
  | zero =>
   have h : b = true := Option.some.inj h
   subst h
   simp
  | succ s =>
   have := ih (s := s) h
   rw [List.set_cons_succ,List.count_cons,List.count_cons,← this]; omega
theorem words_of_slots {c : Int} (h : slotsOf c ≠ 0) : wordsOf c ≠ 0 := by
 have := (slots_iff c).1 h
 have : c = 0 ∨ c = 1 ∨ c = 2 ∨ c = 3 := by omega
 rcases this with e | e | e | e <;> (subst e; decide)
theorem slots_le (c : Int) : slotsOf c ≤ 8 := by
 unfold slotsOf; split
 ·omega
 ·split
  ·omega
  ·split
   ·omega
   ·split <;> omega
theorem alloc_objs {R R' : List Rw} {c i s : Int} (hR : RowsOk R) (h : Alloced R c i s true R') (at_ w : Int) (hat : at_ = 32 * i + s * wordsOf c) (hw : w = wordsOf c) :
  RowsOk R' ∧ R'.length = R.length ∧ objCount R' = objCount R + 1 ∧ ¬ IsObj R at_ ∧ ∀ a v,ObjAt R' a v ↔ ObjAt R a v ∨ (a = at_ ∧ v = w) := by
 have hRn : ∀ {q : Nat} {e : Rw} {s : Nat},R[q]? = some e → e.2[s]? = some true → wordsOf e.1 ≠ 0 ∧ s < slotsOf e.1 := by
  intro q e s he hs
  have hne : e.2 ≠ [] := by intro e0; rw [e0] at hs; simp at hs
  obtain ⟨h1,h2,_⟩ := (hR e (List.mem_of_getElem? he)).2 hne
  exact ⟨h1,by have := (List.getElem?_eq_some_iff.1 hs).1; omega⟩
 have hnot : ∀ {e0 : Rw} {i s : Nat},wordsOf c ≠ 0 → s < slotsOf c → R[i]? = some e0 → (e0.2 = [] ∨ e0.1 = c ∧ e0.2[s]? = some false) → ¬ IsObj R (32 * i + s * wordsOf c) := by
  rintro e0 i s hw hsl hi hcase ⟨q,s',e,he,hs',hat'⟩
  obtain ⟨h1,h2⟩ := hRn he hs'
  have h3 := slots_words h1 h2
  have h3' := slots_words hw hsl
  have h4 : 0 ≤ (s' : Int) * wordsOf e.1 := Int.mul_nonneg (by omega) (wordsOf_bd _).1
  have h4' : 0 ≤ (s : Int) * wordsOf c := Int.mul_nonneg (by omega) (wordsOf_bd _).1
  have h5 : q = i := by have := (wordsOf_bd e.1).1; have := (wordsOf_bd c).1; omega
  subst h5
  rw [hi] at he
  cases he
  rcases hcase with h | ⟨h6,h7⟩
  ·rw [h] at hs'; simp at hs'
  ·rw [h6] at hat'
   have h8 : (s : Int) * wordsOf c = s' * wordsOf c := by omega
   have h9 := Int.eq_of_mul_eq_mul_right hw h8
   rw [show s' = s by omega,h7] at hs'
   cases hs'
 cases h with
 | old i s l h0 hi hs h1 h2 =>
  have hil := (List.getElem?_eq_some_iff.1 hi).1
  have hsl := (List.getElem?_eq_some_iff.1 hs).1
  have hne : l ≠ [] := by intro e; subst e; simp at hs
  obtain ⟨g1,g2,g3⟩ := (hR _ (List.mem_of_getElem? hi)).2 hne
  have g4 := (hR _ (List.mem_of_getElem? hi)).1
  dsimp only at g1 g2 g3 g4
  refine ⟨?_,List.length_set,?_,?_,fun a v => ⟨?_,?_⟩⟩
  ·intro e he
   rcases List.mem_or_eq_of_mem_set he with he | rfl
   ·exact hR e he
   ·refine ⟨by rw [List.length_set]; exact g4,fun _ => ⟨g1,by rw [List.length_set]; exact g2,?_⟩⟩
    exact List.mem_of_getElem? (i := s) (List.getElem?_set_self hsl)
  ·have := objCount_set (e' := (c,l.set s true)) hi
   have h5 := count_set hs
   dsimp only at this
   omega
  ·rw [hat]; exact hnot g1 (by omega) hi (.inr ⟨rfl,hs⟩)
  ·rintro ⟨q,s',e,he,hs',ha,hv⟩
   rcases set_get hil he with ⟨rfl,rfl⟩ | ⟨_,he⟩
   ·rcases set_get hsl hs' with ⟨rfl,_⟩ | ⟨_,hs'⟩
    ·exact .inr ⟨by rw [ha,hat],by rw [hv,hw]⟩
    ·exact .inl ⟨q,s',(c,l),hi,hs',ha,hv⟩
   ·exact .inl ⟨q,s',e,he,hs',ha,hv⟩
  ·rintro (⟨q,s',e,he,hs',ha,hv⟩ | ⟨rfl,rfl⟩)
   ·by_cases hq : q = i
    ·subst hq
     rw [hi] at he
     cases he
     have hss : s ≠ s' := by rintro rfl; rw [hs] at hs'; cases hs'
     exact ⟨q,s',_,List.getElem?_set_self hil,by rw [List.getElem?_set_ne hss]; exact hs',ha,hv⟩
    ·exact ⟨q,s',e,by rw [List.getElem?_set_ne (fun h => hq h.symm)]; exact he,hs',ha,hv⟩
   ·exact ⟨i,s,_,List.getElem?_set_self hil,List.getElem?_set_self hsl,hat,hw⟩
 | fresh i d h0 h2 hi h3 =>
  have hil := (List.getElem?_eq_some_iff.1 hi).1
  have g1 := words_of_slots h0
  have hk : 0 < slotsOf c := Nat.pos_of_ne_zero h0
  have hrl : (List.replicate (slotsOf c) false).length = slotsOf c := List.length_replicate
  have h00 : (List.replicate (slotsOf c) false)[0]? = some false := by rw [List.getElem?_replicate,if_pos hk]
  refine ⟨?_,List.length_set,?_,?_,fun a v => ⟨?_,?_⟩⟩
  ·intro e he
   rcases List.mem_or_eq_of_mem_set he with he | rfl
   ·exact hR e he
   ·refine ⟨by rw [List.length_set,hrl]; exact slots_le c,fun _ => ⟨g1,by rw [List.length_set,hrl],?_⟩⟩
    exact List.mem_of_getElem? (i := 0) (List.getElem?_set_self (by rw [hrl]; exact hk))
  ·have := objCount_set (e' := (c,(List.replicate (slotsOf c) false).set 0 true)) hi
   have h5 := count_set h00
   have h6 : (List.replicate (slotsOf c) false).count true = 0 := by rw [List.count_eq_zero]; intro h; rw [List.mem_replicate] at h; cases h.2
   dsimp only [List.count_nil] at this
   omega
  ·have := hnot (i := i) (s := 0) g1 hk hi (.inl rfl)
   rw [hat]; exact this
  ·rintro ⟨q,s',e,he,hs',ha,hv⟩
   rcases set_get hil he with ⟨rfl,rfl⟩ | ⟨_,he⟩
   ·rcases set_get (by rw [hrl]; exact hk) hs' with ⟨rfl,_⟩ | ⟨_,hs'⟩
    ·exact .inr ⟨by rw [ha,hat]; rfl,by rw [hv,hw]⟩
    ·rw [List.getElem?_replicate] at hs'
     split at hs' <;> cases hs'
   ·exact .inl ⟨q,s',e,he,hs',ha,hv⟩
  ·rintro (⟨q,s',e,he,hs',ha,hv⟩ | ⟨rfl,rfl⟩)
   ·by_cases hq : q = i
    ·subst hq
     rw [hi] at he
     cases he
     simp at hs'
    ·exact ⟨q,s',e,by rw [List.getElem?_set_ne (fun h => hq h.symm)]; exact he,hs',ha,hv⟩
   ·exact ⟨i,0,_,List.getElem?_set_self hil,List.getElem?_set_self (by rw [hrl]; exact hk),by rw [hat]; rfl,hw⟩
theorem full_count {R R' : List Rw} {c i s : Int} (hR : RowsOk R) (hc : slotsOf c ≠ 0) (h : Alloced R c i s false R') : R' = R ∧ R.length ≤ objCount R := by
 cases h with
 | no h => exact absurd h hc
 | full h0 h2 h3 =>
  refine ⟨rfl,?_⟩
  clear h2
  induction R with
  | nil => simp
  | cons e R ih =>
   have h5 : e.2 ≠ [] := by
    intro h
    exact h3 0 e.1 (by rw [← h]; rfl)
   have h6 := ((hR e List.mem_cons_self).2 h5).2.2
   have h7 : 0 < e.2.count true := List.count_pos_iff.2 h6
   have h8 := ih (fun x hx => hR x (List.mem_cons_of_mem _ hx)) (fun j d => h3 (j + 1) d)
   unfold objCount at h8 ⊢
   simp only [List.length_cons,List.map_cons,List.sum_cons]; omega
theorem free_objs {R : List Rw} (hR : RowsOk R) {q s : Nat} {e : Rw} (he : R[q]? = some e) (hs : e.2[s]? = some true) (at_ : Int) (hat : at_ = 32 * q + s * wordsOf e.1) :
  RowsOk (freed R q e.1 (e.2.set s false)) ∧ (freed R q e.1 (e.2.set s false)).length = R.length ∧ objCount (freed R q e.1 (e.2.set s false)) + 1 = objCount R ∧ ∀ a v,ObjAt (freed R q e.1 (e.2.set s false)) a v ↔ ObjAt R a v ∧ a ≠ at_ := by
 have hql := (List.getElem?_eq_some_iff.1 he).1
 have hsl := (List.getElem?_eq_some_iff.1 hs).1
 have hne : e.2 ≠ [] := by intro e0; rw [e0] at hs; simp at hs
 obtain ⟨g1,g2,g3⟩ := (hR _ (List.mem_of_getElem? he)).2 hne
 have g4 := (hR _ (List.mem_of_getElem? he)).1
 have hcu := count_unset hs
 have hkey : ∀ a v,ObjAt R a v → a = at_ → ∀ (q' s' : Nat) (e' : Rw),R[q']? = some e' → e'.2[s']? = some true → a = 32 * q' + s' * wordsOf e'.1 → q' = q ∧ s' = s := by
  intro a v _ ha q' s' e' he' hs' ha'
  have hne' : e'.2 ≠ [] := by intro e0; rw [e0] at hs'; simp at hs'
  obtain ⟨k1,k2,_⟩ := (hR _ (List.mem_of_getElem? he')).2 hne'
  have hsl' := (List.getElem?_eq_some_iff.1 hs').1
  have h3 := slots_words g1 (show s < slotsOf e.1 by omega)
  have h3' := slots_words k1 (show s' < slotsOf e'.1 by omega)
  have h4 : 0 ≤ (s' : Int) * wordsOf e'.1 := Int.mul_nonneg (by omega) (wordsOf_bd _).1
  have h4' : 0 ≤ (s : Int) * wordsOf e.1 := Int.mul_nonneg (by omega) (wordsOf_bd _).1
  have h5 : q' = q := by have := (wordsOf_bd e.1).1; have := (wordsOf_bd e'.1).1; omega
  subst h5
  rw [he] at he'
  cases he'
  have h8 : (s : Int) * wordsOf e.1 = s' * wordsOf e.1 := by omega
  have h9 := Int.eq_of_mul_eq_mul_right g1 h8
  exact ⟨rfl,by omega⟩
 obtain ⟨e2,he2⟩ : ∃ e2 : Rw,e2 = if (e.2.set s false).count true = 0 then (0,[]) else (e.1,e.2.set s false) := ⟨_,rfl⟩
 have hfr : freed R q e.1 (e.2.set s false) = R.set q e2 := by rw [freed,he2]
 have h2cnt : e2.2.count true = (e.2.set s false).count true := by
  rw [he2]; split
  ·rename_i h; rw [h]; rfl
  ·rfl
 have h2mark : ∀ s',e2.2[s']? = some true ↔ (e.2[s']? = some true ∧ s' ≠ s) := by
  intro s'
  have hset : (e.2.set s false)[s']? = some true ↔ (e.2[s']? = some true ∧ s' ≠ s) := by
   constructor
   ·intro h
    rcases set_get hsl h with ⟨_,h⟩ | ⟨h1,h2⟩
    ·cases h
    ·exact ⟨h2,h1⟩
   ·rintro ⟨h1,h2⟩
    rw [List.getElem?_set_ne (fun h => h2 h.symm)]; exact h1
  rw [he2]
  split
  ·rename_i h0
   rw [List.count_eq_zero] at h0
   constructor
   ·intro h; simp at h
   ·intro h; exact absurd (List.mem_of_getElem? (hset.2 h)) h0
  ·exact hset
 have h2cls : e2.2 ≠ [] → e2.1 = e.1 := by
  rw [he2]; split
  ·intro h; exact absurd rfl h
  ·intro _; rfl
 rw [hfr]
 refine ⟨?_,List.length_set,?_,fun a v => ⟨?_,?_⟩⟩
 ·intro x hx
  rcases List.mem_or_eq_of_mem_set hx with hx | rfl
  ·exact hR x hx
  ·rw [he2]
   split
   ·exact ⟨by simp,fun h => absurd rfl h⟩
   ·rename_i h0
    refine ⟨by rw [List.length_set]; exact g4,fun _ => ⟨g1,by rw [List.length_set]; exact g2,?_⟩⟩
    exact List.count_pos_iff.1 (Nat.pos_of_ne_zero h0)
 ·have := objCount_set (e' := e2) he
  omega
 ·rintro ⟨q',s',e',he',hs',ha,hv⟩
  rcases set_get hql he' with ⟨rfl,rfl⟩ | ⟨hqq,he'⟩
  ·obtain ⟨k1,k2⟩ := (h2mark s').1 hs'
   have hcl := h2cls (by intro e0; rw [e0] at hs'; simp at hs')
   rw [hcl] at ha hv
   have hob : ObjAt R a v := ⟨q',s',e,he,k1,ha,hv⟩
   exact ⟨hob,fun h => k2 (hkey a v hob h q' s' e he k1 ha).2⟩
  ·have hob : ObjAt R a v := ⟨q',s',e',he',hs',ha,hv⟩
   exact ⟨hob,fun h => hqq (hkey a v hob h q' s' e' he' hs' ha).1⟩
 ·rintro ⟨⟨q',s',e',he',hs',ha,hv⟩,hne2⟩
  by_cases hqq : q' = q
  ·subst hqq
   rw [he] at he'
   cases he'
   have hss : s' ≠ s := by rintro rfl; exact hne2 (by rw [ha,hat])
   have hm := (h2mark s').2 ⟨hs',hss⟩
   have hcl := h2cls (by intro e0; rw [e0] at hm; simp at hm)
   exact ⟨q',s',e2,List.getElem?_set_self hql,hm,by rw [hcl]; exact ha,by rw [hcl]; exact hv⟩
  ·exact ⟨q',s',e',by rw [List.getElem?_set_ne (fun h => hqq h.symm)]; exact he',hs',ha,hv⟩
theorem within_not {R : List Rw} (hR : RowsOk R) {a w b v : Int} (h : ObjAt R a w) (k : ObjAt R b v) {j : Int} (h1 : a < j) (h2 : j < a + w) : b ≠ j := by
 intro e
 subst e
 have := (k.facts hR).2.2.1
 rcases h.apart hR k with ⟨h3,_⟩ | h3 | h3 <;> omega
theorem AOk.alloct {R R' : List Rw} {ws ws' : List Int} {kind n at_ e : Int} (hA : AOk R ws) (h : Alloct R ws kind n at_ e R' ws') : AOk R' ws' ∧ R'.length = R.length := by
 cases h with
 | arg h => exact ⟨hA,rfl⟩
 | room i s R' h ha =>
  obtain ⟨rfl,_⟩ := full_count hA.rows (ofN_slots n) ha
  exact ⟨hA,rfl⟩
 | ok i s _ R' h ha hi hat =>
  obtain ⟨w,hw⟩ : ∃ w,w = wordsOf (ofN n) := ⟨_,rfl⟩
  obtain ⟨h1,h2,h3,h4,h5⟩ := alloc_objs hA.rows ha at_ w (by rw [hat]) hw
  have hobj : ObjAt R' at_ w := (h5 _ _).2 (.inr ⟨rfl,rfl⟩)
  obtain ⟨f1,f2,f3,_⟩ := hobj.facts h1
  have hnw : n < w := by rw [hw]; exact (ofN_words ⟨h.1,h.2.1⟩).1
  have hlen := hA.len
  refine ⟨⟨h1,by rw [zer_length,List.length_set,h2]; exact hlen,?_,?_⟩,h2⟩
  ·intro x hx
   obtain ⟨j,hj⟩ := List.getElem?_of_mem hx
   have hjl : j < ws.length := by have := (List.getElem?_eq_some_iff.1 hj).1; rw [zer_length,List.length_set] at this; exact this
   rw [zer_get _ _ _ _ (by rw [List.length_set]; exact hjl)] at hj
   split at hj
   ·cases hj; omega
   ·rcases set_get (by omega) hj with ⟨_,rfl⟩ | ⟨_,hj⟩
    ·omega
    ·exact hA.bd x (List.mem_of_getElem? hj)
  ·intro a v hav
   obtain ⟨k1,k2,k3,_⟩ := hav.facts h1
   have hal : a.toNat < ws.length := by omega
   rw [zer_get _ _ _ _ (by rw [List.length_set]; exact hal)]
   rcases (h5 _ _).1 hav with hold | ⟨rfl,rfl⟩
   ·have hne : a ≠ at_ := fun e => h4 (isObj_iff.2 ⟨v,e ▸ hold⟩)
    have hap := hobj.apart h1 hav
    rw [if_neg (by rcases hap with ⟨h,_⟩ | h | h <;> omega),List.getElem?_set_ne (by omega)]
    exact hA.hdr a v hold
   ·rw [if_neg (by omega),List.getElem?_set_self hal]
    exact ⟨kind,n,rfl,by omega,by omega,by omega,hnw⟩
theorem AOk.set {R : List Rw} {ws : List Int} {at_ i x k l : Int} (hA : AOk R ws) (hk : Kept R ws at_ k l) (hi : 0 ≤ i ∧ i < l) (hx : -9223372036854775808 ≤ x ∧ x ≤ 9223372036854775807) : AOk R (ws.set (at_ + 1 + i).toNat x) := by
 have hb := hk.bounds hA
 obtain ⟨w,h1,h2,h3,h4,h5,h6⟩ := hk
 have hlen := hA.len
 refine ⟨hA.rows,by rw [List.length_set]; exact hlen,?_,?_⟩
 ·intro y hy
  rcases List.mem_or_eq_of_mem_set hy with hy | rfl
  ·exact hA.bd y hy
  ·exact hx
 ·intro a v hav
  obtain ⟨k1,_⟩ := hav.facts hA.rows
  have := within_not hA.rows h1 hav (j := at_ + 1 + i) (by omega) (by omega)
  rw [List.getElem?_set_ne (by omega)]
  exact hA.hdr a v hav
theorem AOk.stored {R : List Rw} {ws ws' : List Int} {at_ i x e : Int} (hA : AOk R ws) (hx : -9223372036854775808 ≤ x ∧ x ≤ 9223372036854775807) (h : Stored R ws at_ i x e ws') : AOk R ws' := by
 cases h with
 | none h => exact hA
 | arg k l h hi => exact hA
 | ok k l h hi => exact hA.set h hi hx
theorem AOk.freet {R R' : List Rw} {ws : List Int} {at_ e : Int} (hA : AOk R ws) (h : Freet R at_ e R') : AOk R' ws ∧ R'.length = R.length := by
 cases h with
 | none h => exact ⟨hA,rfl⟩
 | ok q s e he hs hat =>
  obtain ⟨h1,h2,h3,h4⟩ := free_objs hA.rows he hs at_ hat
  exact ⟨⟨h1,by rw [h2]; exact hA.len,hA.bd,fun a v hav => hA.hdr a v ((h4 a v).1 hav).1⟩,h2⟩
theorem AOk.new (n : Nat) : AOk (List.replicate n (0,[])) (List.replicate (32 * n) 0) := by
 refine ⟨?_,by simp,?_,?_⟩
 ·intro e he
  obtain ⟨_,rfl⟩ := List.mem_replicate.1 he
  exact ⟨by simp,fun h => absurd rfl h⟩
 ·intro x hx
  obtain ⟨_,rfl⟩ := List.mem_replicate.1 hx
  omega
 ·rintro a w ⟨q,s,e,he,hs,_⟩
  obtain ⟨_,rfl⟩ := List.mem_replicate.1 (List.mem_of_getElem? he)
  simp at hs
theorem new_none (n : Nat) (a : Int) : ¬ IsObj (List.replicate n (0,[])) a := by
 rintro ⟨q,s,e,he,hs,_⟩
 obtain ⟨_,rfl⟩ := List.mem_replicate.1 (List.mem_of_getElem? he)
 simp at hs
end Go.Proofs.YtcbombkaacjngaaGreatDoor
namespace Go.Proofs.YtcbombkaacjngaaGreatDoor
open Go Go.LX
set_option maxRecDepth 100000
set_option linter.unusedVariables false
set_option linter.unusedSimpArgs false
set_option maxHeartbeats 32000000
def rowPart (q : Nat) (e : Rw) : Nat → List Int
 | 0 => []
 | s + 1 => rowPart q e s ++ (if e.2[s]? = some true then [32 * (q : Int) + s * wordsOf e.1] else [])
def objsTo (R : List Rw) : Nat → List Int
 | 0 => []
 | q + 1 => objsTo R q ++ (match R[q]? with | some e => rowPart q e (slotsOf (clsOf e)) | none => [])
theorem rowPart_length (q : Nat) (e : Rw) : ∀ s,(rowPart q e s).length = (e.2.take s).count true
 | 0 => by simp [rowPart]
 | s + 1 => by
  rw [rowPart,List.length_append,rowPart_length q e s,List.take_add_one,List.count_append]
  congr 1
  cases h : e.2[s]? with
  | none => rfl
  | some b => cases b <;> rfl
theorem objsTo_length {R : List Rw} (hR : RowsOk R) : ∀ q,(objsTo R q).length = objCount (R.take q)
 | 0 => rfl
 | q + 1 => by
  rw [objsTo,List.length_append,objsTo_length hR q,List.take_add_one]
  unfold objCount
  rw [List.map_append,List.sum_append]
  congr 1
  cases h : R[q]? with
  | none => rfl
  | some e =>
   show (rowPart q e (slotsOf (clsOf e))).length = e.2.count true + 0
   rw [rowPart_length,Nat.add_zero]
   by_cases h0 : e.2 = []
   ·rw [h0]; simp
   ·have hcl : clsOf e = e.1 := if_neg h0
    rw [hcl,List.take_of_length_le]
    rw [((hR e (List.mem_of_getElem? h)).2 h0).2.1]
    exact Nat.le_refl _
theorem objs_length {R : List Rw} (hR : RowsOk R) : (objsTo R R.length).length = objCount R := by
 rw [objsTo_length hR,List.take_length]
theorem rowPart_le (q : Nat) (e : Rw) : ∀ s,(rowPart q e s).length ≤ s
 | 0 => Nat.le_refl _
 | s + 1 => by
  have := rowPart_le q e s
  rw [rowPart,List.length_append]
  split
  ·simp; omega
  ·simp; omega
theorem objsTo_le (R : List Rw) : ∀ q,(objsTo R q).length ≤ 8 * q
 | 0 => Nat.le_refl _
 | q + 1 => by
  have := objsTo_le R q
  rw [objsTo,List.length_append]
  split
  ·rename_i e he
   have h1 := rowPart_le q e (slotsOf (clsOf e))
   have h2 := slots_le (clsOf e)
   omega
  ·simp; omega
theorem ipv_app (a b : List Int) : ipv a ++ ipv b = ipv (a ++ b) := by rw [ipv,ipv,ipv,List.map_append]
theorem objects_lx (m : Int) (R : List Rw) (n W : Int) (L D : List PV) (hL : L = rpv R) (hn : n = R.length) (hR : R.length ≤ 1000) (hok : RowsOk R) (hW : W = 32 * n) (hm : m = objCount R) : CallF (fun _ => Tryz.prog) 80 [.ptr 0 (.lit 0)] [hpB 0 1 3 3 W,hpC 1 2 270 2 n,hpP 2 L,hpP 3 D] 4
  (fun r h n' => ∃ O : List PV,r = .sl 4 3 1 (.lit 0) (.sym m) ∧ h = [hpB 0 1 3 3 W,hpC 1 2 270 2 n,hpP 2 L,hpP 3 D,hpP 4 O] ∧ n' = 5 ∧ O = ipv (objsTo R R.length)) := by
 refine callF_of_body tok Tryz.func80 (by kernel_rfl) rfl rfl rfl ?_; conv => cbv
 refine cfr (lenS_lx n L) [(0,1),(1,2)] (fun r h' n' ⟨e1,e2,e3⟩ => ?_)
 subst e1 e2 e3
 conv => cbv
 obtain ⟨f,hf⟩ : ∃ f : Nat → List Int,∀ q,f q = objsTo R q := ⟨_,fun _ => rfl⟩
 obtain ⟨g,hg⟩ : ∃ g : Nat → Int,∀ q,g q = (f q).length := ⟨_,fun _ => rfl⟩
 have f0 : f 0 = [] := hf 0
 have g0 : g 0 = 0 := by rw [hg,f0]; rfl
 have o0 : ([] : List PV) = ipv (f 0) := by rw [f0]; rfl
 refine LoopF.mk (fun k s => ∃ (i j : Int) (O : List PV),s = ⟨.ptr 0 (.lit 0) :: (undefs 2 ++ .sl 4 3 1 (.lit 0) (.sym j) :: (undefs 9 ++ .p (.int .i64 (.sym n)) :: .p (.int .i64 (.sym i)) :: undefs 33)),[hpB 0 1 3 3 W,hpC 1 2 270 2 n,hpP 2 L,hpP 3 D,hpP 4 O],5⟩ ∧ 0 ≤ i ∧ i ≤ n ∧ O = ipv (f i.toNat) ∧ j = g i.toNat ∧ k = (n - i).toNat) n.toNat _
  (Re.at [(0,0),(1,1),(2,2),(3,3)] [4]) ⟨0,0,[],rfl,by omega,by omega,o0,g0.symm,by omega⟩ ?_
 clear f0 g0 o0
 rintro k s ⟨i,j,O,rfl,hi0,hi1,hO,hj,hk⟩
 conv => cbv
 refine Br.mk (fun gi => ?_) (fun gi => ?_)
 ·have gi : i < n := gi
  obtain ⟨k',rfl⟩ : ∃ k',k = k' + 1 := ⟨k - 1,by omega⟩
  obtain ⟨e,he⟩ : ∃ e,R[i.toNat]? = some e := ⟨_,List.getElem?_eq_getElem (by omega)⟩
  obtain ⟨v,hv⟩ : ∃ v,v = clsOf e := ⟨_,rfl⟩
  obtain ⟨sn,hsn⟩ : ∃ sn,sn = slotsOf v := ⟨_,rfl⟩
  obtain ⟨sl,hsl⟩ : ∃ sl : Int,sl = sn := ⟨_,rfl⟩
  have hsn8 : sn ≤ 8 := by rw [hsn]; exact slots_le v
  conv => cbv
  refine cfr (classA_lx R n i v e L hL hn hi0 he hv) [(0,1),(1,2)] (fun r h' n' ⟨e1,e2,e3⟩ => ?_)
  subst e1 e2 e3
  conv => cbv
  refine callF_frame (slots_lx v sl (by rw [hsl,hsn])) [] rfl trivial rfl rfl (fun r h' n' ⟨e1,e2,e3⟩ => ?_)
  subst e1 e2 e3
  conv => cbv
  obtain ⟨w,hw⟩ : ∃ w,w = wordsOf v := ⟨_,rfl⟩
  have hwb := wordsOf_bd v
  rw [← hw] at hwb
  obtain ⟨p,hp⟩ : ∃ p : Nat → List Int,∀ t,p t = f i.toNat ++ rowPart i.toNat e t := ⟨_,fun _ => rfl⟩
  obtain ⟨pl,hpl⟩ : ∃ pl : Nat → Int,∀ t,pl t = (p t).length := ⟨_,fun _ => rfl⟩
  have hplb : ∀ t,t ≤ 8 → 0 ≤ pl t ∧ pl t ≤ 8008 := fun t ht => by
   have h1 := rowPart_le i.toNat e t
   have h2 := objsTo_le R i.toNat
   rw [hpl,hp,List.length_append,hf]; omega
  have p0 : O = ipv (p 0) := by rw [hO,hp,rowPart,List.append_nil]
  have pl0 : j = pl 0 := by rw [hj,hg,hpl,hp,rowPart,List.append_nil]
  have hpn : p sn = f (i.toNat + 1) := by
   rw [hp,hf,hf,objsTo,he,hsn,hv]
  refine LoopF.mk (fun k s => ∃ (t j : Int) (O2 : List PV),s = ⟨.ptr 0 (.lit 0) :: (undefs 2 ++ .sl 4 3 1 (.lit 0) (.sym j) :: .p (.int .i64 (.sym i)) :: .p (.int .i64 (.sym v)) :: (undefs 7 ++ .p (.int .i64 (.sym n)) :: .p (.int .i64 (.sym i)) :: (undefs 9 ++ .p (.int .i64 (.sym sl)) :: .p (.int .i64 (.sym t)) :: undefs 22))),[hpB 0 1 3 3 W,hpC 1 2 270 2 n,hpP 2 L,hpP 3 D,hpP 4 O2],5⟩ ∧ 0 ≤ t ∧ t ≤ sl ∧ O2 = ipv (p t.toNat) ∧ j = pl t.toNat ∧ k = (sl - t).toNat) sl.toNat _
   (Re.at [(0,0),(1,1),(2,2),(3,3),(4,4)] []) ⟨0,j,O,rfl,by omega,by omega,p0,pl0,by omega⟩ ?_
  clear p0 pl0 hO hj
  rintro k s ⟨t,j,O2,rfl,ht0,ht1,hO2,hj,hk2⟩
  conv => cbv
  refine Br.mk (fun gt => ?_) (fun gt => ?_)
  ·have gt : t < sl := gt
   obtain ⟨k'',rfl⟩ : ∃ k',k = k' + 1 := ⟨k - 1,by omega⟩
   have hjb := hplb t.toNat (by omega)
   rw [← hj] at hjb
   have hm8 := (hok e (List.mem_of_getElem? he)).1
   by_cases hu : e.2[t.toNat]? = some true
   ·have hne : e.2 ≠ [] := by intro e0; rw [e0] at hu; simp at hu
    have hve : v = e.1 := by rw [hv]; exact if_neg hne
    conv => cbv
    refine cfr (used_lx R n i t e.1 e.2 L hL hn hi0 he true ht0 hu) [(0,1),(1,2)] (fun r h' n' ⟨e1,e2,e3⟩ => ?_)
    subst e1 e2 e3
    conv => cbv
    have hwe : w = wordsOf e.1 := by rw [hw,hve]
    have hp1 : p (t.toNat + 1) = p t.toNat ++ [32 * ((i.toNat : Nat) : Int) + ((t.toNat : Nat) : Int) * wordsOf e.1] := by rw [hp,hp,rowPart,if_pos hu,List.append_assoc]
    rw [show ((i.toNat : Nat) : Int) = i by omega,show ((t.toNat : Nat) : Int) = t by omega,← hwe] at hp1
    obtain ⟨tw,htw⟩ : ∃ tw,tw = t * w := ⟨_,rfl⟩
    have htw0 : 0 ≤ tw := by rw [htw]; exact Int.mul_nonneg ht0 hwb.1
    have htw1 : tw ≤ 256 := by
     rw [htw]
     exact Int.le_trans (Int.mul_le_mul (show t ≤ 8 by omega) hwb.2 hwb.1 (by decide)) (by decide)
    refine Fit.mk (by show (-9223372036854775808 : Int) ≤ i * 32; omega) (by show i * 32 ≤ 9223372036854775807; omega) fun i32 hi32 => ?_
    have hi32 : i32 = i * 32 := hi32
    conv => cbv
    refine callF_frame (words_lx v w hw) [] rfl trivial rfl rfl (fun r h' n' ⟨e1,e2,e3⟩ => ?_)
    subst e1 e2 e3
    conv => cbv
    refine Fit.mk (by show (-9223372036854775808 : Int) ≤ t * w; rw [← htw]; omega) (by show t * w ≤ 9223372036854775807; rw [← htw]; omega) fun tw' htw' => ?_
    have htw' : tw' = tw := by rw [htw]; exact htw'
    conv => cbv
    refine Fit.mk (by show (-9223372036854775808 : Int) ≤ i32 + tw'; omega) (by show i32 + tw' ≤ 9223372036854775807; omega) fun a ha => ?_
    have ha : a = i32 + tw' := ha
    have ha2 : 32 * i + t * w = a := by rw [← htw]; omega
    rw [ha2] at hp1
    have hol : (O2.length : Int) = j := by rw [hO2,ipv_length,hj,hpl]
    conv => cbv
    refine Room.new rfl ?_
    conv => cbv
    refine Room.new ⟨?_,?_,?_⟩ ?_
    ·show (O2.length : Int) = j * 1; omega
    ·show (j + 1) * 8 ≤ 140737488355328; omega
    ·show j + 1 ≤ 9223372036854775807; omega
    conv => cbv
    refine Upd.mk fun O3 hO3 => ?_
    have hO3 : O3 = O2 ++ [.int .i64 (.sym a)] := hO3
    have hO3 : O3 = ipv (p (t.toNat + 1)) := by rw [hO3,hO2,hp1,← ipv_app]; rfl
    conv => cbv
    refine Sum.mk fun j2 hj2 => ?_
    have hj2 : j2 = j + 1 := hj2
    have hj3 : j2 = pl (t.toNat + 1) := by rw [hj2,hj,hpl,hpl,hp1,List.length_append]; rfl
    conv => cbv
    refine Fit.mk (by show (-9223372036854775808 : Int) ≤ t + 1; omega) (by show t + 1 ≤ 9223372036854775807; omega) fun t2 ht2 => ?_
    have ht2 : t2 = t + 1 := ht2
    have htt : t2.toNat = t.toNat + 1 := by omega
    rw [← htt] at hO3 hj3
    conv => cbv
    refine Again.mk k'' _ (Nat.lt_succ_self _) (Re.at [(0,0),(1,1),(2,2),(3,3),(6,4)] []) ⟨t2,j2,O3,rfl,by omega,by omega,hO3,hj3,by omega⟩
   ·have hp1 : p (t.toNat + 1) = p t.toNat := by rw [hp,hp,rowPart,if_neg hu,List.append_nil]
    conv => cbv
    refine cfr (used_no_lx R n i t e.1 e.2 L hL hn hi0 he hm8 (fun _ => hu)) [(0,1),(1,2)] (fun r h' n' ⟨e1,e2,e3⟩ => ?_)
    subst e1 e2 e3
    conv => cbv
    refine Fit.mk (by show (-9223372036854775808 : Int) ≤ t + 1; omega) (by show t + 1 ≤ 9223372036854775807; omega) fun t2 ht2 => ?_
    have ht2 : t2 = t + 1 := ht2
    have hO3 : O2 = ipv (p t2.toNat) := by rw [hO2,show t2.toNat = t.toNat + 1 by omega,hp1]
    have hj3 : j = pl t2.toNat := by rw [hj,hpl,hpl,show t2.toNat = t.toNat + 1 by omega,hp1]
    conv => cbv
    refine Again.mk k'' _ (Nat.lt_succ_self _) (Re.at [(0,0),(1,1),(2,2),(3,3),(4,4)] []) ⟨t2,j,O2,rfl,by omega,by omega,hO3,hj3,by omega⟩
  ·have gt : ¬ t < sl := gt
   have hts : t.toNat = sn := by omega
   rw [hts,hpn] at hO2
   have hj3 : j = g (i.toNat + 1) := by rw [hj,hts,hpl,hpn,hg]
   conv => cbv
   refine Fit.mk (by show (-9223372036854775808 : Int) ≤ i + 1; omega) (by show i + 1 ≤ 9223372036854775807; omega) fun i2 hi2 => ?_
   have hi2 : i2 = i + 1 := hi2
   have hii : i2.toNat = i.toNat + 1 := by omega
   rw [← hii] at hO2 hj3
   conv => cbv
   refine Again.mk k' _ (Nat.lt_succ_self _) (Re.at [(0,0),(1,1),(2,2),(3,3),(4,4)] []) ⟨i2,j,O2,rfl,by omega,by omega,hO2,hj3,by omega⟩
 ·have gi : ¬ i < n := gi
  have hend : i.toNat = R.length := by omega
  have hjm : j = m := by rw [hj,hg,hf,hend,hm,objs_length hok]
  rw [hend,hf] at hO
  conv => cbv
  refine RetF.mk [.sl 4 3 1 (.lit 0) (.sym m)] [hpB 0 1 3 3 W,hpC 1 2 270 2 n,hpP 2 L,hpP 3 D,hpP 4 O] 5 (Re.at [(0,0),(1,1),(2,2),(3,3),(4,4)] []) rfl ⟨O,rfl,rfl,rfl,hO⟩
end Go.Proofs.YtcbombkaacjngaaGreatDoor
namespace Go.Proofs.YtcbombkaacjngaaGreatDoor
open Go Go.LX
set_option maxRecDepth 100000
set_option linter.unusedVariables false
set_option linter.unusedSimpArgs false
set_option maxHeartbeats 32000000
theorem asc_eq : ∀ {a b : List Int},a.Pairwise (· < ·) → b.Pairwise (· < ·) → (∀ x,x ∈ a ↔ x ∈ b) → a = b
 | [],[],_,_,_ => rfl
 | [],y :: b,_,_,h => by have := (h y).2 List.mem_cons_self; cases this
 | x :: a,[],_,_,h => by have := (h x).1 List.mem_cons_self; cases this
 | x :: a,y :: b,ha,hb,h => by
  obtain ⟨ha1,ha2⟩ := List.pairwise_cons.1 ha
  obtain ⟨hb1,hb2⟩ := List.pairwise_cons.1 hb
  have hxy : x = y := by
   rcases List.mem_cons.1 ((h x).1 List.mem_cons_self) with e | hx
   ·exact e
   ·rcases List.mem_cons.1 ((h y).2 List.mem_cons_self) with e | hy
    ·exact e.symm
    ·have h1 := hb1 x hx
     have h2 := ha1 y hy
     omega
  subst hxy
  rw [asc_eq ha2 hb2 fun z => ⟨fun hz => ?_,fun hz => ?_⟩]
  ·rcases List.mem_cons.1 ((h z).1 (List.mem_cons_of_mem _ hz)) with e | hz'
   ·have := ha1 z hz; omega
   ·exact hz'
  ·rcases List.mem_cons.1 ((h z).2 (List.mem_cons_of_mem _ hz)) with e | hz'
   ·have := hb1 z hz; omega
   ·exact hz'
theorem rowPart_mem (q : Nat) (e : Rw) : ∀ (s : Nat) (x : Int),x ∈ rowPart q e s ↔ ∃ t : Nat,t < s ∧ e.2[t]? = some true ∧ x = 32 * (q : Int) + t * wordsOf e.1
 | 0,x => by simp [rowPart]
 | s + 1,x => by
  rw [rowPart,List.mem_append,rowPart_mem q e s x]
  constructor
  ·rintro (⟨t,h1,h2,h3⟩ | h)
   ·exact ⟨t,by omega,h2,h3⟩
   ·split at h
    ·rename_i hs
     exact ⟨s,by omega,hs,List.mem_singleton.1 h⟩
    ·cases h
  ·rintro ⟨t,h1,h2,h3⟩
   by_cases e1 : t = s
   ·subst e1
    right
    rw [if_pos h2]; exact List.mem_singleton.2 h3
   ·exact .inl ⟨t,by omega,h2,h3⟩
theorem rowPart_asc (q : Nat) (e : Rw) (hw : e.2 ≠ [] → wordsOf e.1 ≠ 0) : ∀ s : Nat,(rowPart q e s).Pairwise (· < ·)
 | 0 => .nil
 | s + 1 => by
  rw [rowPart]
  refine List.pairwise_append.2 ⟨rowPart_asc q e hw s,?_,?_⟩
  ·split
   ·exact List.pairwise_singleton _ _
   ·exact .nil
  ·intro x hx y hy
   split at hy
   ·rename_i hs
    obtain ⟨t,h1,_,h3⟩ := (rowPart_mem q e s x).1 hx
    have hy := List.mem_singleton.1 hy
    have hne : e.2 ≠ [] := by intro e0; rw [e0] at hs; simp at hs
    have hw0 := hw hne
    have := wordsOf_cases e.1
    have h4 : ((t : Int) + 1) * wordsOf e.1 ≤ (s : Int) * wordsOf e.1 := Int.mul_le_mul_of_nonneg_right (by omega) (by omega)
    rw [Int.add_mul,Int.one_mul] at h4
    omega
   ·cases hy
theorem objsTo_mem {R : List Rw} (hR : RowsOk R) : ∀ (q : Nat) (x : Int),x ∈ objsTo R q ↔ ∃ (q' t : Nat) (e : Rw),q' < q ∧ R[q']? = some e ∧ e.2[t]? = some true ∧ x = 32 * (q' : Int) + t * wordsOf e.1
 | 0,x => by simp [objsTo]
 | q + 1,x => by
  rw [objsTo,List.mem_append,objsTo_mem hR q x]
  constructor
  ·rintro (⟨q',t,e,h1,h2,h3,h4⟩ | h)
   ·exact ⟨q',t,e,by omega,h2,h3,h4⟩
   ·split at h
    ·rename_i e he
     obtain ⟨t,_,h2,h3⟩ := (rowPart_mem q e _ x).1 h
     exact ⟨q,t,e,by omega,he,h2,h3⟩
    ·cases h
  ·rintro ⟨q',t,e,h1,h2,h3,h4⟩
   by_cases e1 : q' = q
   ·subst e1
    right
    rw [h2]
    have hne : e.2 ≠ [] := by intro e0; rw [e0] at h3; simp at h3
    refine (rowPart_mem q' e _ x).2 ⟨t,?_,h3,h4⟩
    have hcl : clsOf e = e.1 := if_neg hne
    rw [hcl,← ((hR e (List.mem_of_getElem? h2)).2 hne).2.1]
    exact (List.getElem?_eq_some_iff.1 h3).1
   ·exact .inl ⟨q',t,e,by omega,h2,h3,h4⟩
theorem objsTo_asc {R : List Rw} (hR : RowsOk R) : ∀ q : Nat,(objsTo R q).Pairwise (· < ·)
 | 0 => .nil
 | q + 1 => by
  rw [objsTo]
  refine List.pairwise_append.2 ⟨objsTo_asc hR q,?_,?_⟩
  ·split
   ·rename_i e he
    exact rowPart_asc q e (fun hne => ((hR e (List.mem_of_getElem? he)).2 hne).1) _
   ·exact .nil
  ·intro x hx y hy
   obtain ⟨q',t,e,h1,h2,h3,h4⟩ := (objsTo_mem hR q x).1 hx
   have hne : e.2 ≠ [] := by intro e0; rw [e0] at h3; simp at h3
   obtain ⟨g1,g2,_⟩ := (hR e (List.mem_of_getElem? h2)).2 hne
   have g3 := slots_words g1 (show t < slotsOf e.1 by have := (List.getElem?_eq_some_iff.1 h3).1; omega)
   have g4 := (wordsOf_bd e.1).1
   split at hy
   ·rename_i e' he'
    obtain ⟨t',_,h2',h3'⟩ := (rowPart_mem q e' _ y).1 hy
    have g5 : 0 ≤ (t' : Int) * wordsOf e'.1 := Int.mul_nonneg (by omega) (wordsOf_bd _).1
    have hne0 : wordsOf e.1 ≠ 0 := g1
    omega
   ·cases hy
theorem objs_mem {R : List Rw} (hR : RowsOk R) (x : Int) : x ∈ objsTo R R.length ↔ IsObj R x := by
 rw [objsTo_mem hR]
 constructor
 ·rintro ⟨q,t,e,_,h2,h3,h4⟩; exact ⟨q,t,e,h2,h3,h4⟩
 ·rintro ⟨q,t,e,h2,h3,h4⟩; exact ⟨q,t,e,(List.getElem?_eq_some_iff.1 h2).1,h2,h3,h4⟩
theorem objs_is {R : List Rw} (hR : RowsOk R) {l : List Int} (h1 : l.Pairwise (· < ·)) (h2 : ∀ x,x ∈ l ↔ IsObj R x) : l = objsTo R R.length :=
 asc_eq h1 (objsTo_asc hR _) fun x => by rw [h2,objs_mem hR]
theorem Kept.det6 {R : List Rw} {ws : List Int} {a k l k' l' : Int} (h : Kept R ws a k l) (h' : Kept R ws a k' l') : k' = k ∧ l' = l := by
 obtain ⟨w,_,h1,h2,h3,h4,_⟩ := h
 obtain ⟨w',_,h1',h2',h3',h4',_⟩ := h'
 rw [h1] at h1'
 have h1' : k + 16 * l = k' + 16 * l' := Option.some.inj h1'
 omega
theorem Kept.obj6 {R : List Rw} {ws : List Int} {a k l : Int} (h : Kept R ws a k l) : IsObj R a := by
 obtain ⟨w,h,_⟩ := h
 exact isObj_iff.2 ⟨w,h⟩
theorem kindR_of6 {R : List Rw} {ws : List Int} {a k l v : Int} (h : Kept R ws a k l) (hv : KindR R ws a v) : v = k := by
 cases hv with
 | no hn => exact absurd h.obj6 hn
 | is k' l' h' => exact (h.det6 h').1
theorem lenR_of6 {R : List Rw} {ws : List Int} {a k l v : Int} (h : Kept R ws a k l) (hv : LenR R ws a v) : v = l := by
 cases hv with
 | no hn => exact absurd h.obj6 hn
 | is k' l' h' => exact (h.det6 h').2
structure Sim (R : List Rw) (ws vs : List Int) : Prop where
 a : AOk R ws
 b : AOk R vs
 hdr : ∀ x k l,Kept R ws x k l → Kept R vs x k l
 in_ : ∀ x k l i,Kept R ws x k l → 0 ≤ i → i < l → vs[(x + 1 + i).toNat]? = ws[(x + 1 + i).toNat]?
theorem Sim.kind {R : List Rw} {ws vs : List Int} (h : Sim R ws vs) {x v u : Int} (hv : KindR R ws x v) (hu : KindR R vs x u) : v = u := by
 cases hv with
 | no hn => cases hu with
  | no _ => rfl
  | is k l hk => exact absurd hk.obj6 hn
 | is k l hk => exact (kindR_of6 (h.hdr x v l hk) hu).symm
theorem Sim.len {R : List Rw} {ws vs : List Int} (h : Sim R ws vs) {x v u : Int} (hv : LenR R ws x v) (hu : LenR R vs x u) : v = u := by
 cases hv with
 | no hn => cases hu with
  | no _ => rfl
  | is k l hk => exact absurd hk.obj6 hn
 | is k l hk => exact (lenR_of6 (h.hdr x k v hk) hu).symm
theorem Sim.load {R : List Rw} {ws vs : List Int} (h : Sim R ws vs) {a i x e y f : Int} (hv : Loaded R ws a i x e) (hu : Loaded R vs a i y f) : x = y ∧ e = f := by
 cases hv with
 | none hn => cases hu with
  | none _ => exact ⟨rfl,rfl⟩
  | arg k l hk _ => exact absurd hk.obj6 hn
  | ok k l _ hk _ _ => exact absurd hk.obj6 hn
 | arg k l hk hi => cases hu with
  | none hn => exact absurd hk.obj6 hn
  | arg _ _ _ _ => exact ⟨rfl,rfl⟩
  | ok k' l' _ hk' hi' _ => exact absurd (by rw [(h.hdr _ _ _ hk).det6 hk' |>.2] at hi'; exact hi') hi
 | ok k l _ hk hi hx => cases hu with
  | none hn => exact absurd hk.obj6 hn
  | arg k' l' hk' hi' => exact absurd hi (by rw [(h.hdr _ _ _ hk).det6 hk' |>.2] at hi'; exact hi')
  | ok k' l' _ hk' hi' hy =>
   rw [h.in_ a k l i hk hi.1 hi.2,hx] at hy
   exact ⟨Option.some.inj hy,rfl⟩
end Go.Proofs.YtcbombkaacjngaaGreatDoor
namespace Go.Proofs.YtcbombkaacjngaaGreatDoor
open Go Go.LX
set_option maxRecDepth 100000
set_option linter.unusedVariables false
set_option linter.unusedSimpArgs false
set_option maxHeartbeats 32000000
theorem set_same {α : Type} {l : List α} {i : Nat} {x : α} (h : l[i]? = some x) : l.set i x = l := by
 apply List.ext_getElem?
 intro j
 by_cases e : i = j
 ·subst e
  rw [List.getElem?_set_self (List.getElem?_eq_some_iff.1 h).1,h]
 ·rw [List.getElem?_set_ne e]
def ROk (R : List Rw) : Prop := ∀ e ∈ R,e.2.length ≤ 8 ∧ (e.2 ≠ [] → slotsOf e.1 ≠ 0 ∧ e.2.length = slotsOf e.1)
def okAt (m : List Bool) (k : Nat) : Bool := decide (m[k]? = some true)
def flags (m : List Bool) : List PV := (List.range 8).map fun k => .bool (okAt m k)
def cpv (R : List Rw) : List PV := R.map fun e => .int .i64 (.sym (clsOf e))
def bpv : List Rw → List PV
 | [] => []
 | e :: R => flags e.2 ++ bpv R
theorem flags_length (m : List Bool) : (flags m).length = 8 := by simp [flags]
theorem flags_get {m : List Bool} {k : Nat} (h : k < 8) : (flags m)[k]? = some (.bool (okAt m k)) := by
 rw [flags,List.getElem?_map,List.getElem?_range h]; rfl
theorem cpv_length (R : List Rw) : (cpv R).length = R.length := List.length_map _
theorem cpv_get {R : List Rw} {q : Nat} {e : Rw} (h : R[q]? = some e) : (cpv R)[q]? = some (.int .i64 (.sym (clsOf e))) := by rw [cpv,List.getElem?_map,h]; rfl
theorem bpv_length : ∀ R : List Rw,(bpv R).length = 8 * R.length
 | [] => rfl
 | e :: R => by rw [bpv,List.length_append,flags_length,bpv_length R,List.length_cons]; omega
theorem bpv_get : ∀ {R : List Rw} {q : Nat} {e : Rw} {k : Nat},R[q]? = some e → k < 8 → (bpv R)[8 * q + k]? = some (.bool (okAt e.2 k))
 | [],q,e,k,h,_ => by simp at h
 | x :: R,0,e,k,h,hk => by
  have h : x = e := Option.some.inj h
  subst h
  rw [bpv,List.getElem?_append_left (by rw [flags_length]; omega)]
  simpa using flags_get (m := x.2) hk
 | x :: R,q + 1,e,k,h,hk => by
  rw [bpv,List.getElem?_append_right (by rw [flags_length]; omega),flags_length,show 8 * (q + 1) + k - 8 = 8 * q + k by omega]
  exact bpv_get (by simpa using h) hk
theorem bpv_set : ∀ {R : List Rw} {q : Nat} {e : Rw} (e' : Rw) {k : Nat} {v : Bool},R[q]? = some e → k < 8 → flags e'.2 = (flags e.2).set k (.bool v) → (bpv R).set (8 * q + k) (.bool v) = bpv (R.set q e')
 | [],q,e,e',k,v,h,_,_ => by simp at h
 | x :: R,0,e,e',k,v,h,hk,hf => by
  have h : x = e := Option.some.inj h
  subst h
  rw [bpv,List.set_cons_zero,bpv,List.set_append_left _ _ (by rw [flags_length]; omega),hf]
  simp
 | x :: R,q + 1,e,e',k,v,h,hk,hf => by
  rw [bpv,List.set_cons_succ,bpv,List.set_append_right _ _ (by rw [flags_length]; omega),flags_length,show 8 * (q + 1) + k - 8 = 8 * q + k by omega,bpv_set e' (by simpa using h) hk hf]
theorem bpv_same {R : List Rw} {q : Nat} {e : Rw} (e' : Rw) (h : R[q]? = some e) (hf : flags e'.2 = flags e.2) : bpv R = bpv (R.set q e') := by
 have h0 := bpv_set (v := okAt e.2 0) e' h (by decide : 0 < 8) (by
  rw [hf]
  have h1 := flags_get (m := e.2) (by decide : 0 < 8)
  exact (set_same h1).symm)
 rw [← h0]
 exact (set_same (bpv_get h (by decide : 0 < 8))).symm
theorem flags_set {m m' : List Bool} {k : Nat} {v : Bool} (hk : k < 8) (h1 : okAt m' k = v) (h2 : ∀ j,j ≠ k → okAt m' j = okAt m j) : flags m' = (flags m).set k (.bool v) := by
 apply List.ext_getElem?
 intro j
 by_cases hj : j < 8
 ·rw [flags_get hj]
  by_cases e : k = j
  ·subst e
   rw [List.getElem?_set_self (by rw [flags_length]; exact hj),h1]
  ·rw [List.getElem?_set_ne e,flags_get hj,h2 j (fun h => e h.symm)]
 ·rw [List.getElem?_eq_none (by rw [flags_length]; omega),List.getElem?_eq_none (by rw [List.length_set,flags_length]; omega)]
theorem okAt_set {m : List Bool} {k : Nat} {v : Bool} (hk : k < m.length) : okAt (m.set k v) k = v ∧ ∀ j,j ≠ k → okAt (m.set k v) j = okAt m j := by
 constructor
 ·unfold okAt
  rw [List.getElem?_set_self hk]
  cases v <;> rfl
 ·intro j hj
  unfold okAt
  rw [List.getElem?_set_ne (fun h => hj h.symm)]
theorem okAt_nil (k : Nat) : okAt [] k = false := by simp [okAt]
theorem cpv_set {R : List Rw} {q : Nat} (e' : Rw) {c : Int} (h : clsOf e' = c) : (cpv R).set q (.int .i64 (.sym c)) = cpv (R.set q e') := by
 rw [cpv,cpv,List.map_set,h]
theorem cpv_same {R : List Rw} {q : Nat} {e : Rw} (e' : Rw) (hq : R[q]? = some e) (h : clsOf e' = clsOf e) : cpv R = cpv (R.set q e') := by
 rw [← cpv_set e' h]
 exact (set_same (cpv_get hq)).symm
def UsedAt (R : List Rw) (i j : Int) : Prop := ∃ e : Rw,0 ≤ i ∧ R[i.toNat]? = some e ∧ 0 ≤ j ∧ e.2[j.toNat]? = some true
theorem rused_lx (i j : Int) (R : List Rw) (n : Int) (C B : List PV) (hC : C = cpv R) (hB : B = bpv R) (hn : n = R.length) (hR : R.length ≤ 1000) (hok : ROk R) : CallF (fun _ => Tryz.prog) 205 [.ptr 0 (.lit 0),i6 i,i6 j] [hpD 0 1 3 1 n 2 203 8 n,hpP 1 C,hpP 2 B] 3
  (fun r h n' => ∃ b : Bool,r = .p (.bool b) ∧ h = [hpD 0 1 3 1 n 2 203 8 n,hpP 1 C,hpP 2 B] ∧ n' = 3 ∧ (b = true ↔ UsedAt R i j)) := by
 refine callF_of_body tok Tryz.func205 (by kernel_rfl) rfl rfl rfl ?_; conv => cbv
 have hBl : B.length = 8 * R.length := by rw [hB,bpv_length]
 refine Br.mk (fun g1 => ?_) (fun g1 => ?_)
 case refine_2 =>
  have g1 : ¬ 0 ≤ i := g1
  have hno : ¬ UsedAt R i j := fun ⟨e,h,_⟩ => g1 h
  conv => cbv
  refine RetF.mk [.p (.bool false)] [hpD 0 1 3 1 n 2 203 8 n,hpP 1 C,hpP 2 B] 3 (Re.at [(0,0),(1,1),(2,2)] []) rfl ⟨false,rfl,rfl,rfl,by simp [hno]⟩
 have g1 : 0 ≤ i := g1
 conv => cbv
 refine Br.mk (fun g2 => ?_) (fun g2 => ?_)
 case refine_2 =>
  have g2 : ¬ i < n := g2
  have hno : ¬ UsedAt R i j := fun ⟨e,_,he,_⟩ => by have := (List.getElem?_eq_some_iff.1 he).1; omega
  conv => cbv
  refine RetF.mk [.p (.bool false)] [hpD 0 1 3 1 n 2 203 8 n,hpP 1 C,hpP 2 B] 3 (Re.at [(0,0),(1,1),(2,2)] []) rfl ⟨false,rfl,rfl,rfl,by simp [hno]⟩
 have g2 : i < n := g2
 conv => cbv
 refine Br.mk (fun g3 => ?_) (fun g3 => ?_)
 case refine_2 =>
  have g3 : ¬ 0 ≤ j := g3
  have hno : ¬ UsedAt R i j := fun ⟨e,_,_,h,_⟩ => g3 h
  conv => cbv
  refine RetF.mk [.p (.bool false)] [hpD 0 1 3 1 n 2 203 8 n,hpP 1 C,hpP 2 B] 3 (Re.at [(0,0),(1,1),(2,2)] []) rfl ⟨false,rfl,rfl,rfl,by simp [hno]⟩
 have g3 : 0 ≤ j := g3
 conv => cbv
 refine Br.mk (fun g4 => ?_) (fun g4 => ?_)
 case refine_2 =>
  have g4 : ¬ j < 8 := g4
  have hno : ¬ UsedAt R i j := fun ⟨e,_,he,_,h⟩ => by
   have := (List.getElem?_eq_some_iff.1 h).1
   have := (hok e (List.mem_of_getElem? he)).1
   omega
  conv => cbv
  refine RetF.mk [.p (.bool false)] [hpD 0 1 3 1 n 2 203 8 n,hpP 1 C,hpP 2 B] 3 (Re.at [(0,0),(1,1),(2,2)] []) rfl ⟨false,rfl,rfl,rfl,by simp [hno]⟩
 have g4 : j < 8 := g4
 obtain ⟨e,he⟩ : ∃ e,R[i.toNat]? = some e := ⟨_,List.getElem?_eq_getElem (by omega)⟩
 have hc := bpv_get (k := j.toNat) he (by omega)
 rw [← hB] at hc
 obtain ⟨b,hb⟩ : ∃ b,b = okAt e.2 j.toNat := ⟨_,rfl⟩
 have hbi : b = true ↔ UsedAt R i j := by
  rw [hb,okAt,decide_eq_true_eq]
  constructor
  ·intro h; exact ⟨e,g1,he,g3,h⟩
  ·rintro ⟨e',_,he',_,h⟩
   rw [he] at he'; cases he'; exact h
 rw [← hb] at hc
 conv => cbv
 refine Need.mk ⟨g1,by show i < n; omega⟩ ?_
 conv => cbv
 refine Sum.mk fun a ha => ?_
 have ha : a = i * 8 := ha
 conv => cbv
 refine Need.mk ⟨g3,by show j < ((8 : Nat) : Int); omega⟩ ?_
 conv => cbv
 refine Sum.mk fun a2 ha2 => ?_
 have ha2 : a2 = a + j := ha2
 conv => cbv
 refine Cell.at a2 _ hc (by simp [I.val]) (by omega) ?_
 conv => cbv
 refine RetF.mk [.p (.bool b)] [hpD 0 1 3 1 n 2 203 8 n,hpP 1 C,hpP 2 B] 3 (Re.at [(0,0),(1,1),(2,2)] []) rfl ⟨b,rfl,rfl,rfl,hbi⟩
end Go.Proofs.YtcbombkaacjngaaGreatDoor
namespace Go.Proofs.YtcbombkaacjngaaGreatDoor
open Go Go.LX
set_option maxRecDepth 100000
set_option linter.unusedVariables false
set_option linter.unusedSimpArgs false
set_option maxHeartbeats 32000000
theorem pvles_set6 : ∀ (L M : List PV) (j : Nat) (u v : PV),pvles L M → pvle u v → pvles (L.set j u) (M.set j v)
 | [],[],_,_,_,_,_ => trivial
 | x :: L,y :: M,0,u,v,h,k => ⟨k,h.2⟩
 | x :: L,y :: M,j + 1,u,v,h,k => ⟨h.1,pvles_set6 L M j u v h.2 k⟩
theorem okAt_get {m : List Bool} {k : Nat} {b : Bool} (h : m[k]? = some b) : okAt m k = b := by
 unfold okAt; rw [h]; cases b <;> rfl
theorem cnt0 {m : List Bool} (h8 : m.length ≤ 8) : (∀ k,k < 8 → okAt m k = false) ↔ m.count true = 0 := by
 rw [List.count_eq_zero]
 constructor
 ·intro h hm
  obtain ⟨k,hk⟩ := List.getElem?_of_mem hm
  have hkl := (List.getElem?_eq_some_iff.1 hk).1
  have := h k (by omega)
  rw [okAt_get hk] at this
  cases this
 ·intro h k _
  unfold okAt
  rw [decide_eq_false_iff_not]
  exact fun hk => h (List.mem_of_getElem? hk)
inductive Freed6 (R : List Rw) (i j : Int) : Bool → List Rw → Prop
 | no (h : ¬ UsedAt R i j) : Freed6 R i j false R
 | yes (e : Rw) (h0 : 0 ≤ i) (he : R[i.toNat]? = some e) (h1 : 0 ≤ j) (hs : e.2[j.toNat]? = some true) : Freed6 R i j true (freed R i.toNat e.1 (e.2.set j.toNat false))
theorem rfree_lx (i j : Int) (R : List Rw) (n : Int) (C B : List PV) (hC : C = cpv R) (hB : B = bpv R) (hn : n = R.length) (hR : R.length ≤ 1000) (hok : ROk R) : CallF (fun _ => Tryz.prog) 212 [.ptr 0 (.lit 0),i6 i,i6 j] [hpD 0 1 3 1 n 2 203 8 n,hpP 1 C,hpP 2 B] 3
  (fun r h n' => ∃ (b : Bool) (R' : List Rw) (C' B' : List PV),r = .p (.bool b) ∧ h = [hpD 0 1 3 1 n 2 203 8 n,hpP 1 C',hpP 2 B'] ∧ n' = 3 ∧ C' = cpv R' ∧ B' = bpv R' ∧ Freed6 R i j b R') := by
 have hBl : B.length = 8 * R.length := by rw [hB,bpv_length]
 have hCl : C.length = R.length := by rw [hC,cpv_length]
 by_cases hu : UsedAt R i j
 case neg =>
  refine callF_of_body tok Tryz.func212 (by kernel_rfl) rfl rfl rfl ?_; conv => cbv
  refine cfr (rused_lx i j R n C B hC hB hn hR hok) [(0,0),(1,1),(2,2)] (fun r h' n' hrr => ?_)
  obtain ⟨b,e1,e2,e3,hb⟩ := hrr
  obtain rfl : b = false := by
   cases b with
   | false => rfl
   | true => exact absurd (hb.1 rfl) hu
  subst e1 e2 e3
  conv => cbv
  refine RetF.mk [.p (.bool false)] [hpD 0 1 3 1 n 2 203 8 n,hpP 1 C,hpP 2 B] 3 (Re.at [(0,0),(1,1),(2,2)] []) rfl ⟨false,R,C,B,rfl,rfl,rfl,hC,hB,.no hu⟩
 case pos =>
  obtain ⟨e,h0,he,h1,hs⟩ := hu
  have hir := (List.getElem?_eq_some_iff.1 he).1
  have hjm := (List.getElem?_eq_some_iff.1 hs).1
  have hm8 := (hok e (List.mem_of_getElem? he)).1
  obtain ⟨m2,hm2⟩ : ∃ m2,m2 = e.2.set j.toNat false := ⟨_,rfl⟩
  have hfl : flags m2 = (flags e.2).set j.toNat (.bool false) := by
   obtain ⟨q1,q2⟩ := okAt_set (v := false) hjm
   rw [hm2]; exact flags_set (by omega) q1 q2
  obtain ⟨R2,hR2⟩ : ∃ R2,R2 = R.set i.toNat (e.1,m2) := ⟨_,rfl⟩
  have hR2i : R2[i.toNat]? = some (e.1,m2) := by rw [hR2,List.getElem?_set_self hir]
  have hB2 := bpv_set (v := false) (e.1,m2) he (show j.toNat < 8 by omega) hfl
  rw [← hR2,← hB] at hB2
  have hne : e.2 ≠ [] := by intro e0; rw [e0] at hs; simp at hs
  obtain ⟨g,hg⟩ : ∃ g : Nat → Bool,∀ k,g k = okAt m2 k := ⟨_,fun _ => rfl⟩
  have hcell : ∀ k,k < 8 → (bpv R2)[8 * i.toNat + k]? = some (.bool (g k)) := fun k hk => by rw [hg]; exact bpv_get hR2i hk
  have hused : UsedAt R i j := ⟨e,h0,he,h1,hs⟩
  refine callF_of_body tok Tryz.func212 (by kernel_rfl) rfl rfl rfl ?_; conv => cbv
  refine cfr (rused_lx i j R n C B hC hB hn hR hok) [(0,0),(1,1),(2,2)] (fun r h' n' hrr => ?_)
  obtain ⟨b,e1,e2,e3,hb⟩ := hrr
  obtain rfl : b = true := hb.2 hused
  subst e1 e2 e3
  conv => cbv
  refine Need.mk ⟨h0,by show i < n; omega⟩ ?_
  conv => cbv
  refine Sum.mk fun a ha => ?_
  have ha : a = i * 8 := ha
  conv => cbv
  refine Need.mk ⟨h1,by show j < ((8 : Nat) : Int); omega⟩ ?_
  conv => cbv
  refine Sum.mk fun a2 ha2 => ?_
  have ha2 : a2 = a + j := ha2
  conv => cbv
  refine Need.mk (by show a2 + ((1 : Nat) : Int) ≤ (B.length : Int); omega) ?_
  conv => cbv
  refine Upd.mk fun B1 hB1 => ?_
  have hB1 : B1 = B.set a2.toNat (.bool false) := hB1
  have hB1 : B1 = bpv R2 := by rw [hB1,show a2.toNat = 8 * i.toNat + j.toNat by omega,hB2]
  have hcell1 : ∀ k,k < 8 → B1[8 * i.toNat + k]? = some (.bool (g k)) := fun k hk => by rw [hB1]; exact hcell k hk
  conv => cbv
  refine Need.mk ⟨h0,by show i < n; omega⟩ ?_
  conv => cbv
  refine Sum.mk fun a3 ha3 => ?_
  have ha3 : a3 = i * 8 := ha3
  conv => cbv
  refine Cell.at (a3 + 0) _ (hcell1 0 (by decide)) rfl (by omega) ?_
  conv => cbv
  refine Cell.at (a3 + 1) _ (hcell1 1 (by decide)) rfl (by omega) ?_
  conv => cbv
  refine Cell.at (a3 + 2) _ (hcell1 2 (by decide)) rfl (by omega) ?_
  conv => cbv
  refine Cell.at (a3 + 3) _ (hcell1 3 (by decide)) rfl (by omega) ?_
  conv => cbv
  refine Cell.at (a3 + 4) _ (hcell1 4 (by decide)) rfl (by omega) ?_
  conv => cbv
  refine Cell.at (a3 + 5) _ (hcell1 5 (by decide)) rfl (by omega) ?_
  conv => cbv
  refine Cell.at (a3 + 6) _ (hcell1 6 (by decide)) rfl (by omega) ?_
  conv => cbv
  refine Cell.at (a3 + 7) _ (hcell1 7 (by decide)) rfl (by omega) ?_
  conv => cbv
  have hm2l : m2.length = e.2.length := by rw [hm2,List.length_set]
  refine AggEq.mk (by kernel_rfl) (fun geq => ?_) (fun geq => ?_)
  ·have hall : ∀ k,k < 8 → okAt m2 k = false := by
    simp only [eqLs] at geq
    obtain ⟨q0,q1,q2,q3,q4,q5,q6,q7,_⟩ := geq
    intro k hk
    rw [← hg]
    have : k = 0 ∨ k = 1 ∨ k = 2 ∨ k = 3 ∨ k = 4 ∨ k = 5 ∨ k = 6 ∨ k = 7 := by omega
    rcases this with e | e | e | e | e | e | e | e <;> (subst e; assumption)
   have hcnt := (cnt0 (by omega)).1 hall
   have hF : Freed6 R i j true (R.set i.toNat (0,[])) := by
    have := Freed6.yes (R := R) e h0 he h1 hs
    rwa [← hm2,freed,if_pos hcnt] at this
   have hfl0 : flags ([] : List Bool) = flags m2 := by
    unfold flags
    refine List.map_congr_left fun k hk => ?_
    rw [hall k (List.mem_range.1 hk),okAt_nil]
   have hB9 : B1 = bpv (R.set i.toNat (0,[])) := by
    rw [hB1,bpv_same (0,[]) hR2i hfl0,hR2,List.set_set]
   obtain ⟨C9,hC9⟩ : ∃ C9,C9 = cpv (R.set i.toNat (0,[])) := ⟨_,rfl⟩
   conv => cbv
   refine Need.mk ⟨h0,by show i < n; omega⟩ ?_
   conv => cbv
   refine Need.mk (by show i + ((1 : Nat) : Int) ≤ (C.length : Int); omega) ?_
   conv => cbv
   refine Upd.mk fun C1 hC1 => ?_
   have hle : pvles C1 C9 := by
    have hC1 : C1 = C.set i.toNat (.int .i64 (.lit (-1))) := hC1
    rw [hC1,hC9,hC,← cpv_set (R := R) (q := i.toNat) (c := -1) (0,[]) rfl]
    exact pvles_set6 _ _ _ _ _ (pvles_self _) (by simp [pvle,I.val])
   clear hC1
   unfold pvles at hle
   conv => cbv
   refine RetF.mk [.p (.bool true)] [hpD 0 1 3 1 n 2 203 8 n,hpP 1 C9,hpP 2 B1] 3 (Re.at [(0,0),(1,1),(2,2)] []) rfl ⟨true,_,C9,B1,rfl,rfl,rfl,hC9,hB9,hF⟩
  ·have hcnt : ¬ m2.count true = 0 := by
    intro hc
    have hall := (cnt0 (show m2.length ≤ 8 by omega)).2 hc
    refine geq ?_
    simp only [eqLs]
    simp only [hg]
    exact ⟨hall 0 (by decide),hall 1 (by decide),hall 2 (by decide),hall 3 (by decide),hall 4 (by decide),hall 5 (by decide),hall 6 (by decide),hall 7 (by decide),trivial⟩
   have hF : Freed6 R i j true R2 := by
    have := Freed6.yes (R := R) e h0 he h1 hs
    rwa [← hm2,freed,if_neg hcnt,← hR2] at this
   have hm2n : m2 ≠ [] := by intro e0; rw [e0] at hm2l; exact hne (List.length_eq_zero_iff.1 hm2l.symm)
   have hC2 : C = cpv R2 := by
    rw [hC,hR2]
    refine cpv_same (e.1,m2) he ?_
    rw [clsOf,clsOf,if_neg hm2n,if_neg hne]
   conv => cbv
   refine RetF.mk [.p (.bool true)] [hpD 0 1 3 1 n 2 203 8 n,hpP 1 C,hpP 2 B1] 3 (Re.at [(0,0),(1,1),(2,2)] []) rfl ⟨true,R2,C,B1,rfl,rfl,rfl,hC2,hB1,hF⟩
theorem slots_le6 (c : Int) : slotsOf c ≤ 8 := by
 unfold slotsOf; split
 ·omega
 ·split
  ·omega
  ·split
   ·omega
   ·split <;> omega
def wsum (R : List Rw) : Int := (R.map fun e => (e.2.count true : Int) * wordsOf e.1).sum
theorem take_ok {m : List Bool} {k : Nat} : ((m.take (k + 1)).count true : Int) = (m.take k).count true + if okAt m k then 1 else 0 := by
 rw [List.take_add_one,List.count_append]
 unfold okAt
 cases h : m[k]? with
 | none => simp
 | some b => cases b <;> simp
theorem rwords_lx (R : List Rw) (n : Int) (C B : List PV) (hC : C = cpv R) (hB : B = bpv R) (hn : n = R.length) (hR : R.length ≤ 1000) (hok : ROk R) (v : Int) (hv : v = wsum R) : CallF (fun _ => Tryz.prog) 74 [.ptr 0 (.lit 0)] [hpD 0 1 3 1 n 2 203 8 n,hpP 1 C,hpP 2 B] 3
  (fun r h n' => r = .p (.int .i64 (.sym v)) ∧ h = [hpD 0 1 3 1 n 2 203 8 n,hpP 1 C,hpP 2 B] ∧ n' = 3) := by
 obtain ⟨f,hf⟩ : ∃ f : Nat → Int,∀ k,f k = wsum (R.take k) := ⟨_,fun _ => rfl⟩
 have f0 : f (0 : Int).toNat = 0 := by rw [hf]; rfl
 refine callF_of_body tok Tryz.func74 (by kernel_rfl) rfl rfl rfl ?_; conv => cbv
 refine LoopF.mk (fun k s => ∃ (i acc : Int),s = ⟨.ptr 0 (.lit 0) :: (undefs 2 ++ .p (.int .i64 (.sym acc)) :: .p (.int .i64 (.sym i)) :: undefs 34),[hpD 0 1 3 1 n 2 203 8 n,hpP 1 C,hpP 2 B],3⟩ ∧ 0 ≤ i ∧ i ≤ n ∧ acc = f i.toNat ∧ 0 ≤ acc ∧ acc ≤ 256 * i ∧ k = (n - i).toNat) n.toNat _
  (Re.at [(0,0),(1,1),(2,2)] []) ⟨0,0,rfl,by omega,by omega,f0.symm,by omega,by omega,by omega⟩ ?_
 clear f0
 rintro k s ⟨i,acc,rfl,hi0,hi1,hacc,ha0,ha1,hk⟩
 conv => cbv
 refine Br.mk (fun gi => ?_) (fun gi => ?_)
 ·have gi : i < n := gi
  obtain ⟨k',rfl⟩ : ∃ k',k = k' + 1 := ⟨k - 1,by omega⟩
  obtain ⟨e,he⟩ : ∃ e,R[i.toNat]? = some e := ⟨_,List.getElem?_eq_getElem (by omega)⟩
  have hm8 := (hok e (List.mem_of_getElem? he)).1
  obtain ⟨w,hw⟩ : ∃ w,w = wordsOf e.1 := ⟨_,rfl⟩
  have hwb := wordsOf_bd e.1
  rw [← hw] at hwb
  obtain ⟨cv,hcv⟩ : ∃ cv,cv = clsOf e := ⟨_,rfl⟩
  have hcc := cpv_get he
  rw [← hC,← hcv] at hcc
  obtain ⟨p,hp⟩ : ∃ p : Nat → Int,∀ t,p t = acc + (((e.2.take t).count true : Nat) : Int) * w := ⟨_,fun _ => rfl⟩
  have p0 : acc = p (0 : Int).toNat := by rw [hp]; simp
  conv => cbv
  have hpb : ∀ t,t ≤ 8 → 0 ≤ p t ∧ p t ≤ acc + 256 := fun t ht => by
   have h1 : (e.2.take t).count true ≤ 8 := Nat.le_trans (List.count_le_length) (by rw [List.length_take]; omega)
   have h2 : 0 ≤ (((e.2.take t).count true : Nat) : Int) * w := Int.mul_nonneg (by omega) hwb.1
   have h3 : (((e.2.take t).count true : Nat) : Int) * w ≤ 8 * 32 := Int.mul_le_mul (by omega) hwb.2 hwb.1 (by decide)
   rw [hp]; omega
  have hp1 : ∀ t,p (t + 1) = p t + if okAt e.2 t then w else 0 := fun t => by
   rw [hp,hp,take_ok]
   split
   ·rw [Int.add_mul,Int.one_mul]; omega
   ·rw [Int.add_zero]; omega
  refine LoopF.mk (fun k s => ∃ (t acc2 : Int),s = ⟨.ptr 0 (.lit 0) :: (undefs 2 ++ .p (.int .i64 (.sym acc2)) :: .p (.int .i64 (.sym i)) :: .p (.int .i64 (.sym t)) :: undefs 33),[hpD 0 1 3 1 n 2 203 8 n,hpP 1 C,hpP 2 B],3⟩ ∧ 0 ≤ t ∧ t ≤ 8 ∧ acc2 = p t.toNat ∧ k = (8 - t).toNat) 8 _
   (Re.at [(0,0),(1,1),(2,2)] []) ⟨0,acc,rfl,by omega,by omega,p0,by omega⟩ ?_
  clear p0
  rintro kk s ⟨t,acc2,rfl,ht0,ht1,hac,hkk⟩
  have hab := hpb t.toNat (by omega)
  rw [← hac] at hab
  conv => cbv
  refine Br.mk (fun gt => ?_) (fun gt => ?_)
  ·have gt : t < 8 := gt
   obtain ⟨kk',rfl⟩ : ∃ k',kk = k' + 1 := ⟨kk - 1,by omega⟩
   have hcb := bpv_get (k := t.toNat) he (by omega)
   rw [← hB] at hcb
   have hp2 := hp1 t.toNat
   obtain ⟨b,hb⟩ : ∃ b,b = okAt e.2 t.toNat := ⟨_,rfl⟩
   rw [← hb] at hcb hp2
   conv => cbv
   refine Need.mk ⟨hi0,by show i < n; omega⟩ ?_
   conv => cbv
   refine Sum.mk fun a ha => ?_
   have ha : a = i * 8 := ha
   conv => cbv
   refine Need.mk ⟨ht0,by show t < ((8 : Nat) : Int); omega⟩ ?_
   conv => cbv
   refine Sum.mk fun a2 ha2 => ?_
   have ha2 : a2 = a + t := ha2
   conv => cbv
   refine Cell.at a2 _ hcb (by simp [I.val]) (by omega) ?_
   cases b with
   | true =>
    have hcw : w = wordsOf cv := by
     have hne : e.2 ≠ [] := by intro e0; rw [okAt,e0] at hb; simp at hb
     rw [hcv,clsOf,if_neg hne,hw]
    have hp3 : p (t.toNat + 1) = acc2 + w := by rw [hp2,hac]; rfl
    conv => cbv
    refine Need.mk ⟨hi0,by show i < n; omega⟩ ?_
    conv => cbv
    refine Cell.at i _ hcc (by simp [I.val]) rfl ?_
    conv => cbv
    refine callF_frame (refWordsA_lx cv w hcw) [] rfl trivial rfl rfl (fun r h' n' ⟨e1,e2,e3⟩ => ?_)
    subst e1 e2 e3
    conv => cbv
    refine Fit.mk (by show (-9223372036854775808 : Int) ≤ acc2 + w; omega) (by show acc2 + w ≤ 9223372036854775807; omega) fun a3 ha3 => ?_
    have ha3 : a3 = acc2 + w := ha3
    conv => cbv
    refine Fit.mk (by show (-9223372036854775808 : Int) ≤ t + 1; omega) (by show t + 1 ≤ 9223372036854775807; omega) fun t2 ht2 => ?_
    have ht2 : t2 = t + 1 := ht2
    rw [← ha3,show t.toNat + 1 = t2.toNat by omega] at hp3
    conv => cbv
    refine Again.mk kk' _ (Nat.lt_succ_self _) (Re.at [(0,0),(1,1),(2,2)] []) ⟨t2,a3,rfl,by omega,by omega,hp3.symm,by omega⟩
   | false =>
    have hp3 : p (t.toNat + 1) = acc2 := by rw [hp2,hac]; simp
    conv => cbv
    refine Fit.mk (by show (-9223372036854775808 : Int) ≤ t + 1; omega) (by show t + 1 ≤ 9223372036854775807; omega) fun t2 ht2 => ?_
    have ht2 : t2 = t + 1 := ht2
    rw [show t.toNat + 1 = t2.toNat by omega] at hp3
    conv => cbv
    refine Again.mk kk' _ (Nat.lt_succ_self _) (Re.at [(0,0),(1,1),(2,2)] []) ⟨t2,acc2,rfl,by omega,by omega,hp3.symm,by omega⟩
  ·have gt : ¬ t < 8 := gt
   have ht8 : t.toNat = 8 := by omega
   have hfin : acc2 = f (i.toNat + 1) := by
    rw [hac,ht8,hp,List.take_of_length_le hm8,hacc,hf,hf,List.take_add_one,he,hw]
    unfold wsum
    rw [List.map_append,List.sum_append]
    simp
   conv => cbv
   refine Fit.mk (by show (-9223372036854775808 : Int) ≤ i + 1; omega) (by show i + 1 ≤ 9223372036854775807; omega) fun i2 hi2 => ?_
   have hi2 : i2 = i + 1 := hi2
   rw [show i.toNat + 1 = i2.toNat by omega] at hfin
   have hpb8 := hpb 8 (by omega)
   rw [← ht8,← hac] at hpb8
   conv => cbv
   refine Again.mk k' _ (Nat.lt_succ_self _) (Re.at [(0,0),(1,1),(2,2)] []) ⟨i2,acc2,rfl,by omega,by omega,hfin,by omega,by omega,by omega⟩
 ·have gi : ¬ i < n := gi
  have hend : acc = v := by rw [hacc,hf,List.take_of_length_le (by omega),hv]
  conv => cbv
  refine RetF.mk [i6 v] [hpD 0 1 3 1 n 2 203 8 n,hpP 1 C,hpP 2 B] 3 (Re.at [(0,0),(1,1),(2,2)] []) rfl ⟨rfl,rfl,rfl⟩
end Go.Proofs.YtcbombkaacjngaaGreatDoor
namespace Go.Proofs.YtcbombkaacjngaaGreatDoor
open Go Go.LX
set_option maxRecDepth 100000
set_option linter.unusedVariables false
set_option linter.unusedSimpArgs false
set_option maxHeartbeats 32000000
theorem ralloc_lx (c : Int) (R : List Rw) (n : Int) (C B : List PV) (hC : C = cpv R) (hB : B = bpv R) (hn : n = R.length) (hR : R.length ≤ 1000) (hok : ROk R) : CallF (fun _ => Tryz.prog) 229 [.ptr 0 (.lit 0),i6 c] [hpD 0 1 3 1 n 2 203 8 n,hpP 1 C,hpP 2 B] 3
  (fun r h n' => ∃ (i s : Int) (b : Bool) (R' : List Rw) (C' B' : List PV),r = .tup [i6 i,i6 s,.p (.bool b)] ∧ h = [hpD 0 1 3 1 n 2 203 8 n,hpP 1 C',hpP 2 B'] ∧ n' = 3 ∧ C' = cpv R' ∧ B' = bpv R' ∧ Alloced R c i s b R') := by
 have hBl : B.length = 8 * R.length := by rw [hB,bpv_length]
 have hCl : C.length = R.length := by rw [hC,cpv_length]
 obtain ⟨kn,hkn⟩ : ∃ kn,kn = slotsOf c := ⟨_,rfl⟩
 obtain ⟨k,hk⟩ : ∃ k : Int,k = kn := ⟨_,rfl⟩
 have hk8 : kn ≤ 8 := by rw [hkn]; exact slots_le6 c
 refine callF_of_body tok Tryz.func229 (by kernel_rfl) rfl rfl rfl ?_; conv => cbv
 refine callF_frame (refSlotsA_lx c k (by rw [hk,hkn])) [] rfl trivial rfl rfl (fun r h' n' ⟨e1,e2,e3⟩ => ?_)
 subst e1 e2 e3
 conv => cbv
 refine Br.mk (fun g => ?_) (fun g => ?_)
 ·have g : k = 0 := g
  have hA : Alloced R c 0 0 false R := .no (by omega)
  conv => cbv
  refine RetF.mk [i6 0,i6 0,.p (.bool false)] [hpD 0 1 3 1 n 2 203 8 n,hpP 1 C,hpP 2 B] 3 (Re.at [(0,0),(1,1),(2,2)] []) rfl ⟨0,0,false,R,C,B,rfl,rfl,rfl,hC,hB,hA⟩
 have g : ¬ k = 0 := g
 have hs0 : slotsOf c ≠ 0 := by omega
 conv => cbv
 have hc03 := (slots_iff c).1 hs0
 have hcl : ∀ e : Rw,e ∈ R → clsOf e = c → e.1 = c ∧ e.2 ≠ [] ∧ e.2.length = kn := fun e he h => by
  unfold clsOf at h
  split at h
  ·omega
  ·rename_i hne
   exact ⟨h,hne,by rw [((hok e he).2 hne).2,h,hkn]⟩
 refine LoopF.mk (fun m s => ∃ (i : Int),s = ⟨.ptr 0 (.lit 0) :: .p (.int .i64 (.sym c)) :: (undefs 5 ++ .p (.int .i64 (.sym k)) :: .p (.int .i64 (.sym i)) :: undefs 83),[hpD 0 1 3 1 n 2 203 8 n,hpP 1 C,hpP 2 B],3⟩ ∧ 0 ≤ i ∧ i ≤ n ∧ (∀ j : Nat,(j : Int) < i → ∀ m : List Bool,R[j]? = some (c,m) → false ∉ m) ∧ m = (n - i).toNat) n.toNat _
  (Re.at [(0,0),(1,1),(2,2)] []) ⟨0,rfl,by omega,by omega,fun j hj => absurd hj (by omega),by omega⟩ ?_
 rintro m s ⟨i,rfl,hi0,hi1,hprev,hm⟩
 conv => cbv
 refine Br.mk (fun gi => ?_) (fun gi => ?_)
 ·have gi : i < n := gi
  obtain ⟨m',rfl⟩ : ∃ k',m = k' + 1 := ⟨m - 1,by omega⟩
  obtain ⟨e,he⟩ : ∃ e,R[i.toNat]? = some e := ⟨_,List.getElem?_eq_getElem (by omega)⟩
  have hem := List.mem_of_getElem? he
  have hm8 := (hok e hem).1
  have hcle := hcl e hem
  obtain ⟨cv,hcv⟩ : ∃ cv,cv = clsOf e := ⟨_,rfl⟩
  rw [← hcv] at hcle
  have hcc := cpv_get he
  rw [← hC,← hcv] at hcc
  have hnext : (cv = c → ∀ j : Nat,j < kn → e.2[j]? = some true) → ∀ j : Nat,(j : Int) < i + 1 → ∀ m : List Bool,R[j]? = some (c,m) → false ∉ m := fun hall j hj m hm => by
   by_cases hji : j = i.toNat
   ·subst hji
    rw [he] at hm
    have hm : e = (c,m) := Option.some.inj hm
    intro hf
    have hne : m ≠ [] := by intro e0; rw [e0] at hf; simp at hf
    have hcvc : cv = c := by rw [hcv,hm,clsOf,if_neg hne]
    obtain ⟨q1,q2,q3⟩ := hcle hcvc
    obtain ⟨t,ht⟩ := List.getElem?_of_mem hf
    have htl := (List.getElem?_eq_some_iff.1 ht).1
    have := hall hcvc t (by rw [← q3,hm]; exact htl)
    rw [hm] at this
    rw [ht] at this
    cases this
   ·exact hprev j (by omega) m hm
  conv => cbv
  refine LoopF.mk (fun m s => ∃ (t : Int),s = ⟨.ptr 0 (.lit 0) :: .p (.int .i64 (.sym c)) :: (undefs 5 ++ .p (.int .i64 (.sym k)) :: .p (.int .i64 (.sym i)) :: .p (.int .i64 (.sym t)) :: undefs 82),[hpD 0 1 3 1 n 2 203 8 n,hpP 1 C,hpP 2 B],3⟩ ∧ 0 ≤ t ∧ t ≤ k ∧ (cv = c → ∀ j : Nat,(j : Int) < t → e.2[j]? = some true) ∧ m = (k - t).toNat) k.toNat _
   (Re.at [(0,0),(1,1),(2,2)] []) ⟨0,rfl,by omega,by omega,fun _ j hj => absurd hj (by omega),by omega⟩ ?_
  rintro m s ⟨t,rfl,ht0,ht1,htr,hmm⟩
  conv => cbv
  refine Br.mk (fun gt => ?_) (fun gt => ?_)
  ·have gt : t < k := gt
   obtain ⟨m'',rfl⟩ : ∃ k',m = k' + 1 := ⟨m - 1,by omega⟩
   conv => cbv
   refine Need.mk ⟨hi0,by show i < n; omega⟩ ?_
   conv => cbv
   refine Cell.at i _ hcc (by simp [I.val]) rfl ?_
   conv => cbv
   refine Br.mk (fun gc => ?_) (fun gc => ?_)
   ·have gc : cv = c := gc
    obtain ⟨q1,q2,q3⟩ := hcle gc
    have hcb := bpv_get (k := t.toNat) he (by omega)
    rw [← hB] at hcb
    obtain ⟨b,hb⟩ : ∃ b,b = okAt e.2 t.toNat := ⟨_,rfl⟩
    rw [← hb] at hcb
    conv => cbv
    refine Need.mk ⟨hi0,by show i < n; omega⟩ ?_
    conv => cbv
    refine Sum.mk fun a ha => ?_
    have ha : a = i * 8 := ha
    conv => cbv
    refine Need.mk ⟨ht0,by show t < ((8 : Nat) : Int); omega⟩ ?_
    conv => cbv
    refine Sum.mk fun a2 ha2 => ?_
    have ha2 : a2 = a + t := ha2
    conv => cbv
    refine Cell.at a2 _ hcb (by simp [I.val]) (by omega) ?_
    have htl : t.toNat < e.2.length := by omega
    have hget : e.2[t.toNat]? = some b := by
     obtain ⟨x,hx⟩ : ∃ x,e.2[t.toNat]? = some x := ⟨_,List.getElem?_eq_getElem htl⟩
     rw [hx,hb,okAt,hx]; cases x <;> rfl
    cases b with
    | true =>
     conv => cbv
     refine Fit.mk (by show (-9223372036854775808 : Int) ≤ t + 1; omega) (by show t + 1 ≤ 9223372036854775807; omega) fun t2 ht2 => ?_
     have ht2 : t2 = t + 1 := ht2
     have htr2 : cv = c → ∀ j : Nat,(j : Int) < t2 → e.2[j]? = some true := fun hc j hj => by
      by_cases hjt : j = t.toNat
      ·rw [hjt]; exact hget
      ·exact htr hc j (by omega)
     conv => cbv
     refine Again.mk m'' _ (Nat.lt_succ_self _) (Re.at [(0,0),(1,1),(2,2)] []) ⟨t2,rfl,by omega,by omega,htr2,by omega⟩
    | false =>
     have hRe : e = (c,e.2) := by rw [← q1]
     have hA : Alloced R c i t true (R.set i.toNat (c,e.2.set t.toNat true)) := by
      have := Alloced.old (R := R) (c := c) i.toNat t.toNat e.2 hs0 (by rw [he]; exact congrArg some hRe) hget (fun j hj => htr gc j (by omega)) (fun j hj m hm => hprev j (by omega) m hm)
      rwa [show ((i.toNat : Nat) : Int) = i by omega,show ((t.toNat : Nat) : Int) = t by omega] at this
     obtain ⟨o1,o2⟩ := okAt_set (m := e.2) (v := true) htl
     have hB2 := bpv_set (v := true) (c,e.2.set t.toNat true) he (show t.toNat < 8 by omega) (flags_set (by omega) o1 o2)
     rw [← hB] at hB2
     have hne2 : e.2.set t.toNat true ≠ [] := fun h => by
      have := congrArg List.length h
      rw [List.length_set] at this
      exact q2 (List.length_eq_zero_iff.1 this)
     have hC2 : C = cpv (R.set i.toNat (c,e.2.set t.toNat true)) := by
      rw [hC]
      refine cpv_same _ he ?_
      rw [← hcv,gc,clsOf,if_neg hne2]
     conv => cbv
     refine Need.mk ⟨hi0,by show i < n; omega⟩ ?_
     conv => cbv
     refine Sum.mk fun a3 ha3 => ?_
     have ha3 : a3 = i * 8 := ha3
     conv => cbv
     refine Need.mk ⟨ht0,by show t < ((8 : Nat) : Int); omega⟩ ?_
     conv => cbv
     refine Sum.mk fun a4 ha4 => ?_
     have ha4 : a4 = a3 + t := ha4
     conv => cbv
     refine Need.mk (by show a4 + ((1 : Nat) : Int) ≤ (B.length : Int); omega) ?_
     conv => cbv
     refine Upd.mk fun B1 hB1 => ?_
     have hB1 : B1 = B.set a4.toNat (.bool true) := hB1
     have hB1 : B1 = bpv (R.set i.toNat (c,e.2.set t.toNat true)) := by rw [hB1,show a4.toNat = 8 * i.toNat + t.toNat by omega,hB2]
     conv => cbv
     refine RetF.mk [i6 i,i6 t,.p (.bool true)] [hpD 0 1 3 1 n 2 203 8 n,hpP 1 C,hpP 2 B1] 3 (Re.at [(0,0),(1,1),(2,2)] []) rfl ⟨i,t,true,_,C,B1,rfl,rfl,rfl,hC2,hB1,hA⟩
   ·have gc : ¬ cv = c := gc
    have hn2 := hnext (fun h => absurd h gc)
    conv => cbv
    refine Fit.mk (by show (-9223372036854775808 : Int) ≤ i + 1; omega) (by show i + 1 ≤ 9223372036854775807; omega) fun i2 hi2 => ?_
    have hi2 : i2 = i + 1 := hi2
    rw [← hi2] at hn2
    conv => cbv
    refine Again.mk m' _ (Nat.lt_succ_self _) (Re.at [(0,0),(1,1),(2,2)] []) ⟨i2,rfl,by omega,by omega,hn2,by omega⟩
  ·have gt : ¬ t < k := gt
   have hn2 := hnext (fun h j hj => htr h j (by omega))
   conv => cbv
   refine Fit.mk (by show (-9223372036854775808 : Int) ≤ i + 1; omega) (by show i + 1 ≤ 9223372036854775807; omega) fun i2 hi2 => ?_
   have hi2 : i2 = i + 1 := hi2
   rw [← hi2] at hn2
   conv => cbv
   refine Again.mk m' _ (Nat.lt_succ_self _) (Re.at [(0,0),(1,1),(2,2)] []) ⟨i2,rfl,by omega,by omega,hn2,by omega⟩
 ·have gi : ¬ i < n := gi
  have hfull : ∀ (j : Nat) (m : List Bool),R[j]? = some (c,m) → false ∉ m := fun j m hm => hprev j (by have := (List.getElem?_eq_some_iff.1 hm).1; omega) m hm
  conv => cbv
  refine LoopF.mk (fun m s => ∃ (i : Int),s = ⟨.ptr 0 (.lit 0) :: .p (.int .i64 (.sym c)) :: (undefs 8 ++ .p (.int .i64 (.sym i)) :: undefs 81),[hpD 0 1 3 1 n 2 203 8 n,hpP 1 C,hpP 2 B],3⟩ ∧ 0 ≤ i ∧ i ≤ n ∧ (∀ j : Nat,(j : Int) < i → ∀ d : Int,R[j]? ≠ some (d,[])) ∧ m = (n - i).toNat) n.toNat _
   (Re.at [(0,0),(1,1),(2,2)] []) ⟨0,rfl,by omega,by omega,fun j hj => absurd hj (by omega),by omega⟩ ?_
  rintro m s ⟨i,rfl,hi0,hi1,hprev2,hm⟩
  conv => cbv
  refine Br.mk (fun gi => ?_) (fun gi => ?_)
  ·have gi : i < n := gi
   obtain ⟨m',rfl⟩ : ∃ k',m = k' + 1 := ⟨m - 1,by omega⟩
   obtain ⟨e,he⟩ : ∃ e,R[i.toNat]? = some e := ⟨_,List.getElem?_eq_getElem (by omega)⟩
   have hem := List.mem_of_getElem? he
   obtain ⟨cv,hcv⟩ : ∃ cv,cv = clsOf e := ⟨_,rfl⟩
   have hcc := cpv_get he
   rw [← hC,← hcv] at hcc
   conv => cbv
   refine Need.mk ⟨hi0,by show i < n; omega⟩ ?_
   conv => cbv
   refine Cell.at i _ hcc (by simp [I.val]) rfl ?_
   conv => cbv
   refine Br.mk (fun gc => ?_) (fun gc => ?_)
   ·have gc : cv < 0 := gc
    have he2 : e.2 = [] := Classical.byContradiction fun hne => by
     have := (slots_iff e.1).1 ((hok e hem).2 hne).1
     rw [clsOf,if_neg hne] at hcv
     omega
    have heq : e = (e.1,[]) := by rw [← he2]
    obtain ⟨m2,hm2⟩ : ∃ m2,m2 = (List.replicate (slotsOf c) false).set 0 true := ⟨_,rfl⟩
    have hA : Alloced R c i 0 true (R.set i.toNat (c,m2)) := by
     have := Alloced.fresh (R := R) (c := c) i.toNat e.1 hs0 hfull (by rw [he]; exact congrArg some heq) (fun j hj d => hprev2 j (by omega) d)
     rw [hm2]
     rwa [show ((i.toNat : Nat) : Int) = i by omega] at this
    have hrl : (List.replicate (slotsOf c) false).length = slotsOf c := List.length_replicate
    have h0l : 0 < (List.replicate (slotsOf c) false).length := by rw [hrl]; omega
    obtain ⟨o1,o2⟩ := okAt_set (m := List.replicate (slotsOf c) false) (v := true) h0l
    have hB2 := bpv_set (v := true) (c,m2) he (show 0 < 8 by decide) (flags_set (by decide) (by rw [hm2]; exact o1) (fun j hj => by
     rw [hm2,o2 j hj,he2,okAt_nil,okAt,List.getElem?_replicate]
     split <;> simp))
    rw [← hB] at hB2
    have hm2n : m2 ≠ [] := fun h => by
     have := congrArg List.length (hm2.symm.trans h)
     rw [List.length_set,hrl] at this
     exact hs0 this
    have hC2 := cpv_set (R := R) (q := i.toNat) (c := c) (c,m2) (by rw [clsOf,if_neg hm2n])
    rw [← hC] at hC2
    conv => cbv
    refine drawn_sound tok (by kernel_rfl) [(12,[13,9]),(15,[])] [0,1,2,3,4,5,6,7,8,9,10,11,13,12,14,15] (by kernel_rfl) ?_; conv => cbv
    refine Need.mk ⟨hi0,by show i < n; omega⟩ ?_
    conv => cbv
    refine Need.mk ⟨hi0,by show i < n; omega⟩ ?_
    conv => cbv
    refine Sum.mk fun a ha => ?_
    have ha : a = i * 8 := ha
    conv => cbv
    refine Need.mk (by show i + ((1 : Nat) : Int) ≤ (C.length : Int); omega) ?_
    conv => cbv
    refine Upd.mk fun C1 hC1 => ?_
    have hC1 : C1 = C.set i.toNat (.int .i64 (.sym c)) := hC1
    have hC1 : C1 = cpv (R.set i.toNat (c,m2)) := by rw [hC1,hC2]
    conv => cbv
    refine Need.mk ⟨by show (0 : Int) ≤ 0; decide,by show (0 : Int) < ((8 : Nat) : Int); decide⟩ ?_
    conv => cbv
    refine Need.mk (by show a + ((1 : Nat) : Int) ≤ (B.length : Int); omega) ?_
    conv => cbv
    refine Upd.mk fun B1 hB1 => ?_
    have hB1 : B1 = B.set a.toNat (.bool true) := hB1
    have hB1 : B1 = bpv (R.set i.toNat (c,m2)) := by rw [hB1,show a.toNat = 8 * i.toNat + 0 by omega,hB2]
    conv => cbv
    refine RetF.mk [i6 i,i6 0,.p (.bool true)] [hpD 0 1 3 1 n 2 203 8 n,hpP 1 C1,hpP 2 B1] 3 (Re.at [(0,0),(1,1),(2,2)] []) rfl ⟨i,0,true,_,C1,B1,rfl,rfl,rfl,hC1,hB1,hA⟩
   ·have gc : ¬ cv < 0 := gc
    have hp2 : ∀ j : Nat,(j : Int) < i + 1 → ∀ d : Int,R[j]? ≠ some (d,[]) := fun j hj d hd => by
     by_cases hji : j = i.toNat
     ·subst hji
      rw [he] at hd
      have hd : e = (d,[]) := Option.some.inj hd
      rw [hd,clsOf,if_pos rfl] at hcv
      omega
     ·exact hprev2 j (by omega) d hd
    conv => cbv
    refine Fit.mk (by show (-9223372036854775808 : Int) ≤ i + 1; omega) (by show i + 1 ≤ 9223372036854775807; omega) fun i2 hi2 => ?_
    have hi2 : i2 = i + 1 := hi2
    rw [← hi2] at hp2
    conv => cbv
    refine Again.mk m' _ (Nat.lt_succ_self _) (Re.at [(0,0),(1,1),(2,2)] []) ⟨i2,rfl,by omega,by omega,hp2,by omega⟩
  ·have gi : ¬ i < n := gi
   have hA : Alloced R c 0 0 false R := .full hs0 hfull (fun j d hd => hprev2 j (by have := (List.getElem?_eq_some_iff.1 hd).1; omega) d hd)
   conv => cbv
   refine RetF.mk [i6 0,i6 0,.p (.bool false)] [hpD 0 1 3 1 n 2 203 8 n,hpP 1 C,hpP 2 B] 3 (Re.at [(0,0),(1,1),(2,2)] []) rfl ⟨0,0,false,R,C,B,rfl,rfl,rfl,hC,hB,hA⟩
end Go.Proofs.YtcbombkaacjngaaGreatDoor
namespace Go.Proofs.YtcbombkaacjngaaGreatDoor
open Go Go.LX
set_option maxRecDepth 100000
set_option linter.unusedVariables false
set_option linter.unusedSimpArgs false
set_option maxHeartbeats 32000000
theorem pvles_snoc6 : ∀ (L M : List PV) (u v : PV),pvles L M → pvle u v → pvles (L ++ [u]) (M ++ [v])
 | [],[],_,_,_,k => ⟨k,trivial⟩
 | x :: L,y :: M,u,v,h,k => ⟨h.1,pvles_snoc6 L M u v h.2 k⟩
theorem bpv_rep (k : Nat) : bpv (List.replicate k (0,[])) ++ flags [] = bpv (List.replicate (k + 1) (0,[])) := by
 induction k with
 | zero => rfl
 | succ k ih => rw [List.replicate_succ,bpv,List.append_assoc,ih,← bpv]; rfl
theorem cpv_rep (k : Nat) : cpv (List.replicate k (0,[])) ++ [.int .i64 (.sym (-1))] = cpv (List.replicate (k + 1) (0,[])) := by
 rw [List.replicate_succ',cpv,cpv,List.map_append]; rfl
theorem rnew_lx (n : Int) (hn : 2 ≤ n ∧ n ≤ 128) : CallF (fun _ => Tryz.prog) 203 [i6 n] [] 0
  (fun r h n' => ∃ C B : List PV,r = .tup [.ptr 0 (.lit 0),.p (.int .i64 (.lit 0))] ∧ h = [hpD 0 1 3 1 n 2 203 8 n,hpP 1 C,hpP 2 B] ∧ n' = 3 ∧ C = cpv (List.replicate n.toNat (0,[])) ∧ B = bpv (List.replicate n.toNat (0,[]))) := by
 obtain ⟨rr,hrr⟩ : ∃ rr : Nat → List Rw,∀ k,rr k = List.replicate k (0,[]) := ⟨_,fun _ => rfl⟩
 refine callF_of_body tok Tryz.func203 (by kernel_rfl) rfl rfl rfl ?_; conv => cbv
 refine Br.mk (fun g => ?_) (fun g => ?_)
 case refine_1 =>
  have gf : False := by have g : n < 2 := g; omega
  cases gf
 conv => cbv
 refine Br.mk (fun g => ?_) (fun g => ?_)
 case refine_1 =>
  have gf : False := by have g : 128 < n := g; omega
  cases gf
 conv => cbv
 refine LoopF.mk (fun m s => ∃ (i : Int) (C B : List PV),s = ⟨.p (.int .i64 (.sym n)) :: (undefs 3 ++ .ptr 0 (.lit 0) :: .p (.int .i64 (.sym i)) :: undefs 33),[hpD 0 1 3 1 i 2 203 8 i,hpP 1 C,hpP 2 B],3⟩ ∧ 0 ≤ i ∧ i ≤ n ∧ C = cpv (rr i.toNat) ∧ B = bpv (rr i.toNat) ∧ m = (n - i).toNat) n.toNat _
  (Re.at [(0,0)] [1,2]) ⟨0,[],[],rfl,by omega,by omega,by rw [hrr]; rfl,by rw [hrr]; rfl,by omega⟩ ?_
 rintro m s ⟨i,C,B,rfl,hi0,hi1,hC,hB,hm⟩
 have hCl : (C.length : Int) = i := by rw [hC,cpv_length,hrr,List.length_replicate]; omega
 have hBl : (B.length : Int) = 8 * i := by rw [hB,bpv_length,hrr,List.length_replicate]; omega
 conv => cbv
 refine Br.mk (fun gi => ?_) (fun gi => ?_)
 ·have gi : i < n := gi
  obtain ⟨m',rfl⟩ : ∃ k',m = k' + 1 := ⟨m - 1,by omega⟩
  conv => cbv
  refine drawF_of_any (by kernel_rfl) (drawAny_split 6 13 (by kernel_rfl) (drawAny_split 7 13 (by kernel_rfl) (any_of_drawn tok [(6,[12,11,10,9,8,5,4,3,2,1,0]),(7,[12,11,10,9,8,1,0]),(13,[11,10,9,8,1,0]),(14,[1,0]),(17,[1]),(20,[])] [0,1,2,3,4,5,8,9,10,11,12,6,7,13,14,15,16,17,18,19,20] (by kernel_rfl) ?_) (any_of_drawn tok [(6,[12,11,10,9,8,5,4,3,2,1,0]),(13,[11,10,9,8,5,4,3,2,1,0]),(7,[11,10,9,8,1,0]),(14,[1,0]),(17,[1]),(20,[])] [0,1,2,3,4,5,8,9,10,11,12,6,13,7,14,15,16,17,18,19,20] (by kernel_rfl) ?_)) (any_of_drawn tok [(13,[11,10,9,8,5,4,3,2,1,0]),(6,[11,10,9,8,5,4,3,2,1,0]),(7,[11,10,9,8,1,0]),(14,[1,0]),(17,[1]),(20,[])] [0,1,2,3,4,5,8,9,10,11,12,13,6,7,14,15,16,17,18,19,20] (by kernel_rfl) ?_))
  ·conv => cbv
   refine Room.new rfl ?_
   conv => cbv
   refine Room.new ⟨?_,?_,?_⟩ ?_
   ·show (C.length : Int) = i * 1; omega
   ·show (i + 1) * 8 ≤ 140737488355328; omega
   ·show i + 1 ≤ 9223372036854775807; omega
   conv => cbv
   refine Upd.mk fun C1 hC1 => ?_
   have hC1 : C1 = C ++ [.int .i64 (.lit (-1))] := hC1
   conv => cbv
   refine Sum.mk fun ic hic => ?_
   have hic : ic = i + 1 := hic
   conv => cbv
   refine Room.new rfl ?_
   conv => cbv
   refine Room.new ⟨?_,?_,?_⟩ ?_
   ·show (B.length : Int) = i * ((8 : Nat) : Int); omega
   ·show (i + 1) * 8 ≤ 140737488355328; omega
   ·show i + 1 ≤ 9223372036854775807; omega
   conv => cbv
   refine Upd.mk fun B1 hB1 => ?_
   have hB1 : B1 = B ++ flags [] := hB1
   conv => cbv
   refine Sum.mk fun ib hib => ?_
   have hib : ib = i + 1 := hib
   conv => cbv
   refine Fit.mk (by show (-9223372036854775808 : Int) ≤ i + 1; omega) (by show i + 1 ≤ 9223372036854775807; omega) fun i2 hi2 => ?_
   have hi2 : i2 = i + 1 := hi2
   obtain ⟨C9,hC9⟩ : ∃ C9,C9 = cpv (rr i2.toNat) := ⟨_,rfl⟩
   have hB9 : B1 = bpv (rr i2.toNat) := by rw [hB1,hB,hrr,hrr,show i2.toNat = i.toNat + 1 by omega,bpv_rep]
   have hle : pvles C1 C9 := by
    rw [hC1,hC9,hC,hrr,hrr,show i2.toNat = i.toNat + 1 by omega,← cpv_rep]
    exact pvles_snoc6 _ _ _ _ (pvles_self _) (by simp [pvle,I.val])
   clear hC1 hB1
   have hci : ic = i2 := by omega
   have hbi : ib = i2 := by omega
   unfold pvles at hle
   conv => cbv
   refine Again.mk m' _ (Nat.lt_succ_self _) (Re.at [(0,0),(4,1),(6,2)] []) ⟨i2,C9,B1,rfl,by omega,by omega,hC9,hB9,by omega⟩
  ·conv => cbv
   refine Room.new rfl ?_
   conv => cbv
   refine Room.new ⟨?_,?_,?_⟩ ?_
   ·show (C.length : Int) = i * 1; omega
   ·show (i + 1) * 8 ≤ 140737488355328; omega
   ·show i + 1 ≤ 9223372036854775807; omega
   conv => cbv
   refine Upd.mk fun C1 hC1 => ?_
   have hC1 : C1 = C ++ [.int .i64 (.lit (-1))] := hC1
   conv => cbv
   refine Sum.mk fun ic hic => ?_
   have hic : ic = i + 1 := hic
   conv => cbv
   refine Room.new rfl ?_
   conv => cbv
   refine Room.new ⟨?_,?_,?_⟩ ?_
   ·show (B.length : Int) = i * ((8 : Nat) : Int); omega
   ·show (i + 1) * 8 ≤ 140737488355328; omega
   ·show i + 1 ≤ 9223372036854775807; omega
   conv => cbv
   refine Upd.mk fun B1 hB1 => ?_
   have hB1 : B1 = B ++ flags [] := hB1
   conv => cbv
   refine Sum.mk fun ib hib => ?_
   have hib : ib = i + 1 := hib
   conv => cbv
   refine Fit.mk (by show (-9223372036854775808 : Int) ≤ i + 1; omega) (by show i + 1 ≤ 9223372036854775807; omega) fun i2 hi2 => ?_
   have hi2 : i2 = i + 1 := hi2
   obtain ⟨C9,hC9⟩ : ∃ C9,C9 = cpv (rr i2.toNat) := ⟨_,rfl⟩
   have hB9 : B1 = bpv (rr i2.toNat) := by rw [hB1,hB,hrr,hrr,show i2.toNat = i.toNat + 1 by omega,bpv_rep]
   have hle : pvles C1 C9 := by
    rw [hC1,hC9,hC,hrr,hrr,show i2.toNat = i.toNat + 1 by omega,← cpv_rep]
    exact pvles_snoc6 _ _ _ _ (pvles_self _) (by simp [pvle,I.val])
   clear hC1 hB1
   have hci : ic = i2 := by omega
   have hbi : ib = i2 := by omega
   unfold pvles at hle
   conv => cbv
   refine Again.mk m' _ (Nat.lt_succ_self _) (Re.at [(0,0),(5,1),(6,2)] []) ⟨i2,C9,B1,rfl,by omega,by omega,hC9,hB9,by omega⟩
  ·conv => cbv
   refine Room.new rfl ?_
   conv => cbv
   refine Room.new ⟨?_,?_,?_⟩ ?_
   ·show (C.length : Int) = i * 1; omega
   ·show (i + 1) * 8 ≤ 140737488355328; omega
   ·show i + 1 ≤ 9223372036854775807; omega
   conv => cbv
   refine Upd.mk fun C1 hC1 => ?_
   have hC1 : C1 = C ++ [.int .i64 (.lit (-1))] := hC1
   conv => cbv
   refine Sum.mk fun ic hic => ?_
   have hic : ic = i + 1 := hic
   conv => cbv
   refine Room.new rfl ?_
   conv => cbv
   refine Room.new ⟨?_,?_,?_⟩ ?_
   ·show (B.length : Int) = i * ((8 : Nat) : Int); omega
   ·show (i + 1) * 8 ≤ 140737488355328; omega
   ·show i + 1 ≤ 9223372036854775807; omega
   conv => cbv
   refine Upd.mk fun B1 hB1 => ?_
   have hB1 : B1 = B ++ flags [] := hB1
   conv => cbv
   refine Sum.mk fun ib hib => ?_
   have hib : ib = i + 1 := hib
   conv => cbv
   refine Fit.mk (by show (-9223372036854775808 : Int) ≤ i + 1; omega) (by show i + 1 ≤ 9223372036854775807; omega) fun i2 hi2 => ?_
   have hi2 : i2 = i + 1 := hi2
   obtain ⟨C9,hC9⟩ : ∃ C9,C9 = cpv (rr i2.toNat) := ⟨_,rfl⟩
   have hB9 : B1 = bpv (rr i2.toNat) := by rw [hB1,hB,hrr,hrr,show i2.toNat = i.toNat + 1 by omega,bpv_rep]
   have hle : pvles C1 C9 := by
    rw [hC1,hC9,hC,hrr,hrr,show i2.toNat = i.toNat + 1 by omega,← cpv_rep]
    exact pvles_snoc6 _ _ _ _ (pvles_self _) (by simp [pvle,I.val])
   clear hC1 hB1
   have hci : ic = i2 := by omega
   have hbi : ib = i2 := by omega
   unfold pvles at hle
   conv => cbv
   refine Again.mk m' _ (Nat.lt_succ_self _) (Re.at [(0,0),(5,1),(6,2)] []) ⟨i2,C9,B1,rfl,by omega,by omega,hC9,hB9,by omega⟩
 ·have gi : ¬ i < n := gi
  have hin : i = n := by omega
  rw [hin,hrr] at hC hB
  conv => cbv
  refine RetF.mk [.ptr 0 (.lit 0),.p (.int .i64 (.lit 0))] [hpD 0 1 3 1 n 2 203 8 n,hpP 1 C,hpP 2 B] 3 (Re.at [(0,0),(1,1),(2,2)] []) rfl ⟨C,B,rfl,rfl,rfl,hC,hB⟩
end Go.Proofs.YtcbombkaacjngaaGreatDoor
namespace Go.Proofs.YtcbombkaacjngaaGreatDoor
open Go Go.LX
set_option maxRecDepth 100000
set_option linter.unusedVariables false
set_option linter.unusedSimpArgs false
set_option maxHeartbeats 32000000
theorem Alloced.det {R R1 R2 : List Rw} {c i1 s1 i2 s2 : Int} {b1 b2 : Bool} (h : Alloced R c i1 s1 b1 R1) (k : Alloced R c i2 s2 b2 R2) : i1 = i2 ∧ s1 = s2 ∧ b1 = b2 ∧ R1 = R2 := by
 cases h with
 | no h =>
  cases k with
  | no _ => exact ⟨rfl,rfl,rfl,rfl⟩
  | old _ _ _ h0 => exact absurd h h0
  | fresh _ _ h0 => exact absurd h h0
  | full h0 => exact absurd h h0
 | old i s l h0 hi hs h1 h2 =>
  have hf : false ∈ l := List.mem_of_getElem? hs
  cases k with
  | no h => exact absurd h h0
  | old i' s' l' h0' hi' hs' h1' h2' =>
   have hf' : false ∈ l' := List.mem_of_getElem? hs'
   have e : i = i' := by
    rcases Nat.lt_trichotomy i i' with h | h | h
    ·exact absurd hf (h2' i h l hi)
    ·exact h
    ·exact absurd hf' (h2 i' h l' hi')
   subst e
   rw [hi] at hi'
   cases hi'
   have e : s = s' := by
    rcases Nat.lt_trichotomy s s' with h | h | h
    ·rw [h1' s h] at hs; cases hs
    ·exact h
    ·rw [h1 s' h] at hs'; cases hs'
   subst e
   exact ⟨rfl,rfl,rfl,rfl⟩
  | fresh i' d h0' h2' hi' h3' => exact absurd hf (h2' i l hi)
  | full h0' h2' h3' => exact absurd hf (h2' i l hi)
 | fresh i d h0 h2 hi h3 =>
  cases k with
  | no h => exact absurd h h0
  | old i' s' l' h0' hi' hs' h1' h2' => exact absurd (List.mem_of_getElem? hs') (h2 i' l' hi')
  | fresh i' d' h0' h2' hi' h3' =>
   have e : i = i' := by
    rcases Nat.lt_trichotomy i i' with h | h | h
    ·exact absurd hi (h3' i h d)
    ·exact h
    ·exact absurd hi' (h3 i' h d')
   subst e
   exact ⟨rfl,rfl,rfl,rfl⟩
  | full h0' h2' h3' => exact absurd hi (h3' i d)
 | full h0 h2 h3 =>
  cases k with
  | no h => exact absurd h h0
  | old i' s' l' h0' hi' hs' h1' h2' => exact absurd (List.mem_of_getElem? hs') (h2 i' l' hi')
  | fresh i' d' h0' h2' hi' h3' => exact absurd hi' (h3 i' d')
  | full _ _ _ => exact ⟨rfl,rfl,rfl,rfl⟩
end Go.Proofs.YtcbombkaacjngaaGreatDoor
namespace Go.Proofs.YtcbombkaacjngaaGreatDoor
open Go Go.LX
set_option maxRecDepth 100000
set_option linter.unusedVariables false
set_option linter.unusedSimpArgs false
set_option maxHeartbeats 32000000
theorem alloc_gen {R R' : List Rw} {xs xs' : List Int} {kind n i s a w : Int} (hA : AOk R xs) (h : 0 ≤ n ∧ n ≤ 31 ∧ 1 ≤ kind ∧ kind ≤ 6) (ha : Alloced R (ofN n) i s true R') (hat : a = 32 * i + s * wordsOf (ofN n)) (hw : w = wordsOf (ofN n)) (hl : xs'.length = xs.length)
  (hh : xs'[a.toNat]? = some (kind + 16 * n)) (hf : ∀ j : Nat,(j : Int) < a ∨ a + w ≤ j → xs'[j]? = xs[j]?) (hbd : ∀ x ∈ xs',-9223372036854775808 ≤ x ∧ x ≤ 9223372036854775807) :
  AOk R' xs' ∧ Kept R' xs' a kind n ∧ (∀ b k l,Kept R xs b k l → Kept R' xs' b k l ∧ b ≠ a ∧ ∀ i,0 ≤ i → i < l → xs'[(b + 1 + i).toNat]? = xs[(b + 1 + i).toNat]?) ∧ (∀ b,IsObj R' b → b = a ∨ IsObj R b) := by
 obtain ⟨h1,h2,h3,h4,h5⟩ := alloc_objs hA.rows ha a w hat hw
 have hobj : ObjAt R' a w := (h5 _ _).2 (.inr ⟨rfl,rfl⟩)
 obtain ⟨f1,f2,f3,_⟩ := hobj.facts h1
 have hnw : n < w := by rw [hw]; exact (ofN_words ⟨h.1,h.2.1⟩).1
 have hlen := hA.len
 have hold : ∀ b k l,Kept R xs b k l → Kept R' xs' b k l ∧ b ≠ a ∧ ∀ i,0 ≤ i → i < l → xs'[(b + 1 + i).toNat]? = xs[(b + 1 + i).toNat]? := by
  rintro b k l ⟨v,hb,hx,g1,g2,g3,g4⟩
  have hb' := (h5 b v).2 (.inl hb)
  have hne : b ≠ a := fun e => h4 (isObj_iff.2 ⟨v,e ▸ hb⟩)
  obtain ⟨q1,q2,q3,_⟩ := hb'.facts h1
  have hap := hobj.apart h1 hb'
  refine ⟨.mk k l v hb' ?_ g1 g2 g3 g4,hne,fun j hj0 hj1 => ?_⟩
  ·rw [hf _ (by rcases hap with ⟨h,_⟩ | h | h <;> omega)]; exact hx
  ·exact hf _ (by rcases hap with ⟨h,_⟩ | h | h <;> omega)
 have hnew : Kept R' xs' a kind n := .mk kind n w hobj hh (by omega) (by omega) h.1 hnw
 refine ⟨⟨h1,by rw [hl,h2]; exact hlen,hbd,?_⟩,hnew,hold,?_⟩
 ·intro b v hb
  rcases (h5 b v).1 hb with hb1 | ⟨rfl,rfl⟩
  ·obtain ⟨k,l,g1,g2,g3,g4,g5⟩ := hA.hdr b v hb1
   obtain ⟨⟨v',g6,g7,_⟩,_⟩ := hold b k l (.mk k l v hb1 g1 g2 g3 g4 g5)
   exact ⟨k,l,g7,g2,g3,g4,g5⟩
  ·exact ⟨kind,n,hh,by omega,by omega,h.1,hnw⟩
 ·intro b hb
  obtain ⟨v,hb⟩ := isObj_iff.1 hb
  rcases (h5 b v).1 hb with hb | ⟨hb,_⟩
  ·exact .inr (isObj_iff.2 ⟨v,hb⟩)
  ·exact .inl hb
inductive AlloctV (R : List Rw) (vs : List Int) (kind n : Int) : Int → Int → List Rw → List Int → Prop
 | arg (h : ¬ (0 ≤ n ∧ n ≤ 31 ∧ 1 ≤ kind ∧ kind ≤ 6)) : AlloctV R vs kind n 0 1 R vs
 | room (i s : Int) (R' : List Rw) (h : 0 ≤ n ∧ n ≤ 31 ∧ 1 ≤ kind ∧ kind ≤ 6) (ha : Alloced R (ofN n) i s false R') : AlloctV R vs kind n 0 9 R' vs
 | ok (i s at_ : Int) (R' : List Rw) (h : 0 ≤ n ∧ n ≤ 31 ∧ 1 ≤ kind ∧ kind ≤ 6) (ha : Alloced R (ofN n) i s true R') (hat : at_ = 32 * i + s * wordsOf (ofN n)) :
   AlloctV R vs kind n at_ 0 R' ((zer vs at_.toNat (wordsOf (ofN n)).toNat).set at_.toNat (kind + 16 * n))
theorem Sim.alloc {R R1 R2 : List Rw} {ws vs ws' vs' : List Int} {kind n a1 e1 a2 e2 : Int} (h : Sim R ws vs) (h1 : Alloct R ws kind n a1 e1 R1 ws') (h2 : AlloctV R vs kind n a2 e2 R2 vs') : a1 = a2 ∧ e1 = e2 ∧ R1 = R2 ∧ Sim R1 ws' vs' ∧ R1.length = R.length := by
 cases h1 with
 | arg h1 => cases h2 with
  | arg _ => exact ⟨rfl,rfl,rfl,h,rfl⟩
  | room _ _ _ k _ => exact absurd k h1
  | ok _ _ _ _ k _ _ => exact absurd k h1
 | room i s R' hc ha => cases h2 with
  | arg k => exact absurd hc k
  | room i2 s2 R2 k ha2 =>
   obtain ⟨_,_,_,eR⟩ := ha.det ha2
   subst eR
   obtain ⟨rfl,_⟩ := full_count h.a.rows (ofN_slots n) ha
   exact ⟨rfl,rfl,rfl,h,rfl⟩
  | ok i2 s2 _ R2 k ha2 hat2 => obtain ⟨_,_,hb,_⟩ := ha.det ha2; cases hb
 | ok i s _ R' hc ha hi hat => cases h2 with
  | arg k => exact absurd hc k
  | room i2 s2 R2 k ha2 => obtain ⟨_,_,hb,_⟩ := ha.det ha2; cases hb
  | ok i2 s2 _ R2 k ha2 hat2 =>
   obtain ⟨ei,es,_,eR⟩ := ha.det ha2
   subst ei es eR
   obtain rfl : a2 = a1 := by rw [hat,hat2]
   obtain ⟨w,hw⟩ : ∃ w,w = wordsOf (ofN n) := ⟨_,rfl⟩
   obtain ⟨q1,q2,q3,q4,q5⟩ := alloc_objs h.a.rows ha a2 w hat hw
   have hobj : ObjAt R1 a2 w := (q5 _ _).2 (.inr ⟨rfl,rfl⟩)
   obtain ⟨f1,f2,f3,_⟩ := hobj.facts q1
   have hnw : n < w := by rw [hw]; exact (ofN_words ⟨hc.1,hc.2.1⟩).1
   have hlw := h.a.len
   have hlv := h.b.len
   have hA1 := (h.a.alloct (Alloct.ok i s a2 R1 hc ha hi hat)).1
   have gw : ∀ j : Nat,j < ws.length → (zer (ws.set a2.toNat (kind + 16 * n)) (a2.toNat + 1) n.toNat)[j]? = if a2.toNat + 1 ≤ j ∧ j < a2.toNat + 1 + n.toNat then some 0 else (ws.set a2.toNat (kind + 16 * n))[j]? := fun j hj => zer_get _ _ _ _ (by rw [List.length_set]; exact hj)
   have gv : ∀ j : Nat,j < vs.length → j ≠ a2.toNat → ((zer vs a2.toNat (wordsOf (ofN n)).toNat).set a2.toNat (kind + 16 * n))[j]? = if a2.toNat ≤ j ∧ j < a2.toNat + (wordsOf (ofN n)).toNat then some 0 else vs[j]? := fun j hj hne => by
    rw [List.getElem?_set_ne (fun e => hne e.symm),zer_get _ _ _ _ hj]
   rw [← hw] at gv ⊢
   have farw : ∀ j : Nat,(j : Int) < a2 ∨ a2 + w ≤ j → (zer (ws.set a2.toNat (kind + 16 * n)) (a2.toNat + 1) n.toNat)[j]? = ws[j]? := fun j hj => by
    by_cases hjl : j < ws.length
    ·rw [gw j hjl,if_neg (by omega),List.getElem?_set_ne (by omega)]
    ·rw [List.getElem?_eq_none (by rw [zer_length,List.length_set]; omega),List.getElem?_eq_none (by omega)]
   have farv : ∀ j : Nat,(j : Int) < a2 ∨ a2 + w ≤ j → ((zer vs a2.toNat w.toNat).set a2.toNat (kind + 16 * n))[j]? = vs[j]? := fun j hj => by
    by_cases hjl : j < vs.length
    ·rw [gv j hjl (by omega),if_neg (by omega)]
    ·rw [List.getElem?_eq_none (by rw [List.length_set,zer_length]; omega),List.getElem?_eq_none (by omega)]
   obtain ⟨p1,p2,p3,p4⟩ := alloc_gen h.a hc ha hat hw (by rw [zer_length,List.length_set]) (by rw [gw _ (by omega),if_neg (by omega),List.getElem?_set_self (by omega)]) farw hA1.bd
   have hbdv : ∀ x ∈ (zer vs a2.toNat w.toNat).set a2.toNat (kind + 16 * n),-9223372036854775808 ≤ x ∧ x ≤ 9223372036854775807 := by
    intro x hx
    rcases List.mem_or_eq_of_mem_set hx with hx | rfl
    ·obtain ⟨j,hj⟩ := List.getElem?_of_mem hx
     have hjl : j < vs.length := by have := (List.getElem?_eq_some_iff.1 hj).1; rw [zer_length] at this; exact this
     rw [zer_get _ _ _ _ hjl] at hj
     split at hj
     ·cases hj; omega
     ·exact h.b.bd x (List.mem_of_getElem? hj)
    ·omega
   obtain ⟨r1,r2,r3,r4⟩ := alloc_gen h.b hc ha hat hw (by rw [List.length_set,zer_length]) (by rw [List.getElem?_set_self (by rw [zer_length]; omega)]) farv hbdv
   refine ⟨rfl,rfl,rfl,⟨p1,r1,?_,?_⟩,q2⟩
   ·intro x k' l hk
    rcases p4 x hk.obj6 with rfl | hx
    ·obtain ⟨e1,e2⟩ := p2.det6 hk
     rw [e1,e2]; exact r2
    ·obtain ⟨k0,l0,hk0⟩ := Kept.of h.a hx
     obtain ⟨e1,e2⟩ := (p3 x k0 l0 hk0).1.det6 hk
     rw [e1,e2]; exact (r3 x k0 l0 (h.hdr x k0 l0 hk0)).1
   ·intro x k' l j hk hj0 hj1
    rcases p4 x hk.obj6 with rfl | hx
    ·obtain ⟨e1,e2⟩ := p2.det6 hk
     rw [e2] at hj1
     rw [gv _ (by omega) (by omega),if_pos (by omega),gw _ (by omega),if_pos (by omega)]
    ·obtain ⟨k0,l0,hk0⟩ := Kept.of h.a hx
     obtain ⟨e1,e2⟩ := (p3 x k0 l0 hk0).1.det6 hk
     rw [e2] at hj1
     rw [(p3 x k0 l0 hk0).2.2 j hj0 hj1,(r3 x k0 l0 (h.hdr x k0 l0 hk0)).2.2 j hj0 hj1]
     exact h.in_ x k0 l0 j hk0 hj0 hj1
theorem Freet.det {R R1 R2 : List Rw} {a e1 e2 : Int} (hR : RowsOk R) (h1 : Freet R a e1 R1) (h2 : Freet R a e2 R2) : e1 = e2 ∧ R1 = R2 := by
 cases h1 with
 | none h => cases h2 with
  | none _ => exact ⟨rfl,rfl⟩
  | ok q s e he hs hat => exact absurd ⟨q,s,e,he,hs,hat⟩ h
 | ok q s e he hs hat => cases h2 with
  | none h => exact absurd ⟨q,s,e,he,hs,hat⟩ h
  | ok q' s' e' he' hs' hat' =>
   have key : ∀ {q s : Nat} {e : Rw},R[q]? = some e → e.2[s]? = some true → wordsOf e.1 ≠ 0 ∧ (s : Int) * wordsOf e.1 + wordsOf e.1 ≤ 32 ∧ 0 ≤ (s : Int) * wordsOf e.1 := fun {q s e} he hs => by
    have hne : e.2 ≠ [] := by intro e0; rw [e0] at hs; simp at hs
    obtain ⟨g1,g2,_⟩ := (hR _ (List.mem_of_getElem? he)).2 hne
    exact ⟨g1,slots_words g1 (by have := (List.getElem?_eq_some_iff.1 hs).1; omega),Int.mul_nonneg (by omega) (wordsOf_bd _).1⟩
   obtain ⟨k1,k2,k3⟩ := key he hs
   obtain ⟨k1',k2',k3'⟩ := key he' hs'
   have w1 := wordsOf_cases e.1
   have w2 := wordsOf_cases e'.1
   obtain rfl : q = q' := by omega
   rw [he] at he'
   cases he'
   have h8 : (s : Int) * wordsOf e.1 = s' * wordsOf e.1 := by omega
   have h9 := Int.eq_of_mul_eq_mul_right k1 h8
   obtain rfl : s = s' := by omega
   exact ⟨rfl,rfl⟩
theorem Sim.free {R R' : List Rw} {ws vs : List Int} {a e : Int} (h : Sim R ws vs) (hF : Freet R a e R') : Sim R' ws vs ∧ R'.length = R.length := by
 obtain ⟨h1,h2⟩ := h.a.freet hF
 obtain ⟨h3,_⟩ := h.b.freet hF
 have key : (∀ xs x k l,Kept R' xs x k l → Kept R xs x k l) ∧ (∀ xs ys x k l,Kept R' xs x k l → Kept R ys x k l → Kept R' ys x k l) := by
  cases hF with
  | none _ => exact ⟨fun _ _ _ _ hk => hk,fun _ _ _ _ _ _ hk => hk⟩
  | ok q s e he hs hat =>
   obtain ⟨_,_,_,g4⟩ := free_objs h.a.rows he hs a hat
   constructor
   ·rintro xs x k l ⟨w,q1,q2,q3,q4,q5,q6⟩
    exact .mk k l w ((g4 x w).1 q1).1 q2 q3 q4 q5 q6
   rintro xs ys x k l ⟨w,q1,q2,q3,q4,q5,q6⟩ ⟨w',r1,r2,r3,r4,r5,r6⟩
   exact .mk k l w' ((g4 x w').2 ⟨r1,((g4 x w).1 q1).2⟩) r2 r3 r4 r5 r6
 exact ⟨⟨h1,h3,fun x k l hk => key.2 ws vs x k l hk (h.hdr x k l (key.1 ws x k l hk)),fun x k l i hk => h.in_ x k l i (key.1 ws x k l hk)⟩,h2⟩
theorem kept_set6 {R : List Rw} {ws : List Int} (hA : AOk R ws) {x d k a d' k' q y : Int} (h : Kept R ws x d k) (h' : Kept R ws a d' k') (hq : 0 ≤ q ∧ q < k') : Kept R (ws.set (a + 1 + q).toNat y) x d k := by
 obtain ⟨w,q1,q2,q3,q4,q5,q6⟩ := h
 obtain ⟨w',r1,r2,r3,r4,r5,r6⟩ := h'
 have f1 := q1.facts hA.rows
 have f2 := r1.facts hA.rows
 have := within_not hA.rows r1 q1 (j := a + 1 + q) (by omega) (by omega)
 refine .mk d k w q1 ?_ q3 q4 q5 q6
 rw [List.getElem?_set_ne (by omega)]; exact q2
theorem Sim.store {R : List Rw} {ws vs ws' vs' : List Int} {a i x e f : Int} (h : Sim R ws vs) (hx : -9223372036854775808 ≤ x ∧ x ≤ 9223372036854775807) (h1 : Stored R ws a i x e ws') (h2 : Stored R vs a i x f vs') : e = f ∧ Sim R ws' vs' := by
 cases h1 with
 | none hn => cases h2 with
  | none _ => exact ⟨rfl,h⟩
  | arg k l hk _ => exact absurd hk.obj6 hn
  | ok k l hk _ => exact absurd hk.obj6 hn
 | arg k l hk hi => cases h2 with
  | none hn => exact absurd hk.obj6 hn
  | arg _ _ _ _ => exact ⟨rfl,h⟩
  | ok k' l' hk' hi' => exact absurd (by rw [(h.hdr _ _ _ hk).det6 hk' |>.2] at hi'; exact hi') hi
 | ok k l hk hi => cases h2 with
  | none hn => exact absurd hk.obj6 hn
  | arg k' l' hk' hi' => exact absurd hi (by rw [(h.hdr _ _ _ hk).det6 hk' |>.2] at hi'; exact hi')
  | ok k' l' hk' hi' =>
   have hkv := h.hdr _ _ _ hk
   have hA1 := h.a.set hk hi hx
   have hb := hk.bounds h.a
   have hlw := h.a.len
   have hlv := h.b.len
   have back : ∀ y k2 l2,Kept R (ws.set (a + 1 + i).toNat x) y k2 l2 → Kept R ws y k2 l2 := fun y k2 l2 hy => by
    obtain ⟨k0,l0,h0⟩ := Kept.of h.a hy.obj6
    obtain ⟨e1,e2⟩ := (kept_set6 h.a h0 hk hi).det6 hy
    rw [e1,e2]; exact h0
   refine ⟨rfl,⟨hA1,h.b.set hkv hi hx,fun y k2 l2 hy => kept_set6 h.b (h.hdr y k2 l2 (back y k2 l2 hy)) hkv hi,fun y k2 l2 j hy hj0 hj1 => ?_⟩⟩
   have hy0 := back y k2 l2 hy
   by_cases e : (a + 1 + i).toNat = (y + 1 + j).toNat
   ·rw [← e,List.getElem?_set_self (by omega),List.getElem?_set_self (by omega)]
   ·rw [List.getElem?_set_ne e,List.getElem?_set_ne e]
    exact h.in_ y k2 l2 j hy0 hj0 hj1
end Go.Proofs.YtcbombkaacjngaaGreatDoor
namespace Go.Proofs.YtcbombkaacjngaaGreatDoor
open Go Go.LX
set_option maxRecDepth 100000
set_option linter.unusedVariables false
set_option maxHeartbeats 32000000
def IsPow (o : Unit → Obj) : Prop := ∃ t fr,o () = .cells (Lib.pow10Tab.map fun z => Value.int .u64 z).toArray t fr
theorem one_arg {c : Ctx} {w : World} {u : LV} {xs : Array Value} (hl : [u].length = xs.size) (hrel : ∀ (i : Nat) (v : LV),[u][i]? = some v → LR c w v (xs.getD i Go.undef)) : ∃ x,xs = #[x] ∧ LR c w u x := by
 have h0 := hrel 0 u rfl
 rcases xs with ⟨l⟩
 match l,hl with
 | [x],_ => exact ⟨x,rfl,h0⟩
theorem two_args {c : Ctx} {w : World} {u v : LV} {xs : Array Value} (hl : [u,v].length = xs.size) (hrel : ∀ (i : Nat) (z : LV),[u,v][i]? = some z → LR c w z (xs.getD i Go.undef)) : ∃ x y,xs = #[x,y] ∧ LR c w u x ∧ LR c w v y := by
 have h0 := hrel 0 u rfl
 have h1 := hrel 1 v rfl
 rcases xs with ⟨l⟩
 match l,hl with
 | [x,y],_ => exact ⟨x,y,rfl,h0,h1⟩
theorem grow_below (w : World) (k : Nat) (os : Array Obj) : RowKit.Below w.heap.size w (Go.Sort.grow (w.drewN k) os) := by
 refine ⟨rfl,rfl,rfl,by simp [Go.Sort.grow],fun i hi => ?_⟩
 show (w.heap ++ os)[i]? = w.heap[i]?
 rw [Array.getElem?_append_left hi]
theorem itoa_lx (n : Int) (h0 : -9223372036854775808 ≤ n) (h1 : n ≤ 9223372036854775807) (o : Unit → Obj) (ho : IsPow o) :
  CallF (fun _ => Tryz.prog) 219 [i6 n] [(0,.fix 0 o)] 1 (fun r h n' => (∃ z : ByteArray,r = .p (.str fun _ => z) ∧ z = ⟨(Lib.itoa n).toArray⟩) ∧ h = [(0,.fix 0 o)] ∧ n' = 1) := by
 refine callF_calls (K := fun r => ∃ z : ByteArray,r = .p (.str fun _ => z) ∧ z = ⟨(Lib.itoa n).toArray⟩) ⟨_,_,Tryz.func219,by kernel_rfl,rfl⟩ fun c w xs hr hN hl hrel => ?_
 obtain ⟨x,rfl,hx⟩ := one_arg hl hrel
 have hx : x = .int .i64 n := hx.inv_int
 subst hx
 obtain ⟨m,hm,hB⟩ := hr.live 0 _ rfl
 cases m with
 | some r => exact hB.elim
 | none =>
  obtain ⟨hheap,_⟩ := hB
  obtain ⟨t,fr,hot⟩ := ho
  have htab : Lib.TabIs Tryz.prog w "internal/strconv.uint64pow10" .u64 Lib.pow10Tab := by
   have hg : Tryz.prog.globalNamed "internal/strconv.uint64pow10" = some 0 := by kernel_rfl
   unfold Lib.TabIs World.var?
   rw [hg]
   simp only [Option.bind_some,hheap,hot]
  refine (Tryz.strconv_Itoa n h0 h1 w htab).mono fun e w' ⟨he,k,os,hw⟩ => ?_
  subst hw
  exact ⟨_,_,he,⟨_,rfl,rfl⟩,grow_below w k os,fun c' => .p _ _ (.str _)⟩
theorem atoi_lx (z : ByteArray) (v : Int) (hz : z.size ≤ 9223372036854775806) (hv : Lib.atoiAll z.data.toList = .ok v) :
  CallF (fun _ => Tryz.prog) 237 [.p (.str fun _ => z)] [] 0 (fun r h n' => r = .tup [i6 v,.p .nilif] ∧ h = [] ∧ n' = 0) := by
 refine callF_calls (K := fun r => r = .tup [i6 v,.p .nilif]) ⟨_,_,Tryz.func237,by kernel_rfl,rfl⟩ fun c w xs hr hN hl hrel => ?_
 obtain ⟨x,rfl,hx⟩ := one_arg hl hrel
 have hx : x = .string z := hx.inv_str
 subst hx
 refine (Tryz.strconv_Atoi_ok z hz v hv w).mono fun e w' ⟨he,hw⟩ => ?_
 refine ⟨_,_,he,rfl,?_,fun c' => .tup _ _ rfl fun j u hj => ?_⟩
 ·rcases hw with rfl | ⟨t,rfl⟩
  ·exact RowKit.Below.refl _ _
  ·exact Lib.bytesWorld_below w _ t
 ·rcases j with _ | _ | j
  ·simp at hj; subst hj; exact .p _ _ (.int _ _ _ rfl)
  ·simp at hj; subst hj; exact .p _ _ .nilif
  ·simp at hj
theorem trimSuffix_lx (z p : ByteArray) (hz : z.size ≤ 9223372036854775807) :
  CallF (fun _ => Tryz.prog) 245 [.p (.str fun _ => z),.p (.str fun _ => p)] [] 0 (fun r h n' => (∃ y : ByteArray,r = .p (.str fun _ => y) ∧ y = ⟨(Lib.trimSuffix z.data.toList p.data.toList).toArray⟩) ∧ h = [] ∧ n' = 0) := by
 refine callF_calls (K := fun r => ∃ y : ByteArray,r = .p (.str fun _ => y) ∧ y = ⟨(Lib.trimSuffix z.data.toList p.data.toList).toArray⟩) ⟨_,_,Tryz.func245,by kernel_rfl,rfl⟩ fun c w xs hr hN hl hrel => ?_
 obtain ⟨x,y,rfl,hx,hy⟩ := two_args hl hrel
 have hx : x = .string z := hx.inv_str
 have hy : y = .string p := hy.inv_str
 subst hx hy
 refine (Tryz.strings_TrimSuffix z p w hz).mono fun e w' ⟨he,hw⟩ => ?_
 subst hw
 exact ⟨_,_,he,⟨_,rfl,rfl⟩,RowKit.Below.refl _ _,fun c' => .p _ _ (.str _)⟩
end Go.Proofs.YtcbombkaacjngaaGreatDoor
namespace Go.Proofs.YtcbombkaacjngaaGreatDoor
open Go Go.LX
set_option maxRecDepth 100000
set_option linter.unusedVariables false
set_option maxHeartbeats 32000000
theorem dec_small {u : Nat} (h : u < 10) : Lib.decDigits u = [UInt8.ofNat (48 + u)] := Lib.decDigits_one h
theorem dec_big {u : Nat} (h : ¬ u < 10) : Lib.decDigits u = Lib.decDigits (u / 10) ++ [UInt8.ofNat (48 + u % 10)] := by
 rw [Lib.decDigits,dif_neg h]
theorem digit_nat {d : Nat} (h : d < 10) : (UInt8.ofNat (48 + d)).toNat = 48 + d := by
 simp; omega
theorem parse_dec : ∀ (u : Nat),u ≤ 9223372036854775808 → ∀ r,Lib.parseUint10 0 (Lib.decDigits u ++ r) = Lib.parseUint10 u r := by
 intro u
 induction u using Nat.strongRecOn with
 | ind u ih =>
  intro hu r
  by_cases h : u < 10
  ·rw [dec_small h,List.cons_append,List.nil_append,Lib.parseUint10,digit_nat h,if_pos (by omega),if_neg (by omega),if_neg (by omega)]
   congr 1; omega
  ·rw [dec_big h,List.append_assoc,ih (u / 10) (by omega) (by omega),List.cons_append,List.nil_append,Lib.parseUint10,digit_nat (Nat.mod_lt _ (by omega)),if_pos (by omega),if_neg (by omega),if_neg (by omega)]
   congr 1; omega
theorem dec_ne (u : Nat) : Lib.decDigits u ≠ [] := by
 by_cases h : u < 10
 ·rw [dec_small h]; simp
 ·rw [dec_big h]; simp
theorem dec_dig : ∀ (u : Nat),∀ c ∈ Lib.decDigits u,48 ≤ c.toNat ∧ c.toNat ≤ 57 := by
 intro u
 induction u using Nat.strongRecOn with
 | ind u ih =>
  intro c hc
  by_cases h : u < 10
  ·rw [dec_small h] at hc
   rw [List.mem_singleton.1 hc,digit_nat h]; omega
  ·rw [dec_big h] at hc
   rcases List.mem_append.1 hc with hc | hc
   ·exact ih _ (by omega) c hc
   ·rw [List.mem_singleton.1 hc,digit_nat (Nat.mod_lt _ (by omega))]; omega
theorem itoa_dig (a : Int) : ∀ c ∈ Lib.itoa a,c.toNat = 45 ∨ (48 ≤ c.toNat ∧ c.toNat ≤ 57) := by
 intro c hc
 unfold Lib.itoa at hc
 split at hc
 ·rcases List.mem_cons.1 hc with rfl | hc
  ·exact .inl rfl
  ·exact .inr (dec_dig _ c hc)
 ·exact .inr (dec_dig _ c hc)
theorem itoa_ne (a : Int) : Lib.itoa a ≠ [] := by
 unfold Lib.itoa
 split
 ·simp
 ·exact dec_ne _
theorem atoi_itoa (a : Int) (h0 : -9223372036854775808 ≤ a) (h1 : a ≤ 9223372036854775807) : Lib.atoiAll (Lib.itoa a) = .ok a := by
 unfold Lib.itoa
 by_cases h : a < 0
 ·rw [if_pos h]
  have hp : Lib.parseMag (Lib.decDigits a.natAbs) = .ok a.natAbs := by
   rw [Lib.parseMag,if_neg (dec_ne _)]
   have := parse_dec a.natAbs (by omega) []
   rw [List.append_nil] at this
   rw [this]; rfl
  have h45 : (45 : UInt8).toNat = 45 := rfl
  have h43 : ¬ ((45 : Nat) = 43) := by omega
  simp only [Lib.atoiAll,h45,h43,or_true,if_true,hp,not_true,false_and,if_false,true_and]
  rw [if_neg (by omega)]
  congr 1; omega
 ·rw [if_neg h]
  have hp : Lib.parseMag (Lib.decDigits a.toNat) = .ok a.toNat := by
   rw [Lib.parseMag,if_neg (dec_ne _)]
   have := parse_dec a.toNat (by omega) []
   rw [List.append_nil] at this
   rw [this]; rfl
  cases e : Lib.decDigits a.toNat with
  | nil => exact absurd e (dec_ne _)
  | cons c r =>
   have hc := dec_dig a.toNat c (by rw [e]; exact List.mem_cons_self)
   rw [e] at hp
   have h43 : ¬ (c.toNat = 43) := by omega
   have h45 : ¬ (c.toNat = 45) := by omega
   simp only [Lib.atoiAll,h43,h45,or_false,if_false,hp,not_false_iff,true_and,false_and]
   rw [if_neg (by omega)]
   congr 1; omega
def enc : List Int → List UInt8
 | [] => []
 | a :: A => Lib.itoa a ++ 32 :: enc A
theorem enc_append : ∀ A B,enc (A ++ B) = enc A ++ enc B
 | [],B => rfl
 | a :: A,B => by simp [enc,enc_append A B]
theorem enc_low : ∀ (A : List Int),∀ c ∈ enc A,c.toNat < 128
 | [],c,h => by cases h
 | a :: A,c,h => by
  rw [enc] at h
  rcases List.mem_append.1 h with h | h
  ·have := itoa_dig a c h; omega
  ·rcases List.mem_cons.1 h with rfl | h
   ·decide
   ·exact enc_low A c h
theorem count_itoa (a : Int) : (Lib.itoa a).count 32 = 0 := by
 rw [List.count_eq_zero]
 intro h
 have := itoa_dig a 32 h
 have h32 : (32 : UInt8).toNat = 32 := rfl
 omega
theorem enc_count : ∀ (A : List Int),(enc A).count 32 = A.length
 | [] => rfl
 | a :: A => by rw [enc,List.count_append,count_itoa,List.count_cons,enc_count A]; simp
theorem dec_atE (l : List UInt8) (hl : ∀ c ∈ l,c.toNat < 128) (i : Nat) (c : UInt8) (h : l[i]? = some c) : Utf8.decode ⟨l.toArray⟩ i = (c.toNat,1) := by
 have hi := (List.getElem?_eq_some_iff.1 h).1
 have hc : l[i] = c := (List.getElem?_eq_some_iff.1 h).2
 have hsz : i < (ByteArray.mk l.toArray).size := by show i < l.toArray.size; simpa using hi
 have hg : (ByteArray.mk l.toArray)[i]'hsz = c := by show l.toArray[i]'_ = c; simpa using hc
 have := decode_ascii ⟨l.toArray⟩ i hsz (by rw [hg]; exact hl c (List.mem_of_getElem? h))
 rw [this,hg]
theorem greyLen_lx (A : List Int) (z : ByteArray) (ov : Bool) (hz : z = ⟨(enc A).toArray⟩) (hA : (enc A).length < 1000000) :
  CallF (fun _ => Tryz.prog) 218 [.ptr 0 (.lit 0)] [hpF 0 z ov] 1 (fun r h n => ∃ m : Int,r = .p (.int .i64 (.sym m)) ∧ m = A.length ∧ h = [hpF 0 z ov] ∧ n = 1) := by
 refine callF_of_body tok Tryz.func218 (by kernel_rfl) rfl rfl rfl ?_; conv => cbv
 obtain ⟨N,hN⟩ : ∃ N : Int,N = (enc A).length := ⟨_,rfl⟩
 refine LoopF.mk (fun k s => ∃ (pos cnt : Int),s = ⟨.ptr 0 (.lit 0) :: .undef :: .undef :: .p (.int .i64 (.sym cnt)) :: (undefs 8 ++ .ptr 1 (.lit 0) :: undefs 8),[(1,.iter (fun _ => z) (.sym pos)),hpF 0 z ov],2⟩ ∧ 0 ≤ pos ∧ pos ≤ N ∧ cnt = ((enc A).take pos.toNat).count 32 ∧ k = (N - pos).toNat) N.toNat _
  (Re.at [(0,0),(1,1)] []) ⟨0,0,rfl,by omega,by omega,by simp,by omega⟩ ?_
 rintro k s ⟨pos,cnt,rfl,hp0,hp1,hcnt,hk⟩
 have hzs : (z.size : Int) = (enc A).length := by rw [hz]; show ((enc A).toArray.size : Int) = _; simp
 conv => cbv
 by_cases hend : pos = N
 ·refine NextS.over (by show (z.size : Int) ≤ pos; omega) ?_
  conv => cbv
  refine RetF.mk [i6 cnt] [hpF 0 z ov] 1 (Re.at [(0,0)] []) rfl ⟨cnt,rfl,?_,rfl,rfl⟩
  rw [hcnt,show pos.toNat = (enc A).length by omega,List.take_length,enc_count]
 ·obtain ⟨c,hc⟩ : ∃ c,(enc A)[pos.toNat]? = some c := ⟨_,List.getElem?_eq_getElem (by omega)⟩
  have hlow := enc_low A c (List.mem_of_getElem? hc)
  have hd := dec_atE (enc A) (enc_low A) pos.toNat c hc
  rw [← hz] at hd
  refine NextS.more (by show pos < (z.size : Int); omega) ?_
  intro r p' hr hp
  have hr : r = (c.toNat : Int) := by
   have : r = ((Utf8.decode z pos.toNat).1 : Int) := hr
   rw [this,hd]
  have hp : p' = pos + 1 := by
   have : p' = pos + ((Utf8.decode z pos.toNat).2 : Int) := hp
   rw [this,hd]; rfl
  have htake : (enc A).take p'.toNat = (enc A).take pos.toNat ++ [c] := by
   rw [show p'.toNat = pos.toNat + 1 by omega,List.take_add_one,hc]; rfl
  have hcl := List.count_le_length (a := (32 : UInt8)) (l := (enc A).take pos.toNat)
  have htl : ((enc A).take pos.toNat).length ≤ (enc A).length := by rw [List.length_take]; omega
  obtain ⟨k',rfl⟩ : ∃ k',k = k' + 1 := ⟨k - 1,by omega⟩
  conv => cbv
  refine Br.mk (fun g => ?_) (fun g => ?_)
  ·have g : r = 32 := g
   have hc32 : c = 32 := UInt8.toNat_inj.1 (by show c.toNat = 32; omega)
   conv => cbv
   refine Fit.mk (by show (-9223372036854775808 : Int) ≤ cnt + 1; omega) (by show cnt + 1 ≤ 9223372036854775807; omega) ?_
   intro c2 hc2
   have hc2 : c2 = cnt + 1 := hc2
   conv => cbv
   refine Again.mk k' _ (Nat.lt_succ_self _) (Re.at [(0,0),(1,1)] []) ⟨p',c2,rfl,by omega,by omega,?_,by omega⟩
   rw [htake,List.count_append,hc32,hc2,hcnt]; simp
  ·have g : ¬ r = 32 := g
   have hc32 : ¬ c = 32 := fun h => g (by rw [hr,h]; rfl)
   conv => cbv
   refine Again.mk k' _ (Nat.lt_succ_self _) (Re.at [(0,0),(1,1)] []) ⟨p',cnt,rfl,by omega,by omega,?_,by omega⟩
   rw [htake,List.count_append,hcnt]
   have : List.count (32 : UInt8) [c] = 0 := by rw [List.count_eq_zero]; simp; exact fun h => hc32 h.symm
   rw [this]; simp
theorem ext_from (l : List UInt8) (k : Nat) : (ByteArray.mk l.toArray).extract k (ByteArray.mk l.toArray).size = ⟨(l.drop k).toArray⟩ := by
 apply ByteArray.ext
 apply Array.ext'
 rw [ByteArray.data_extract]
 show (l.toArray.extract k l.toArray.size).toList = _
 simp
 exact List.take_of_length_le (by simp)
theorem ext_upto (l : List UInt8) (k : Nat) : (ByteArray.mk l.toArray).extract 0 k = ⟨(l.take k).toArray⟩ := by
 apply ByteArray.ext
 apply Array.ext'
 rw [ByteArray.data_extract]
 show (l.toArray.extract 0 k).toList = _
 simp
theorem enc_last : ∀ (A : List Int),A ≠ [] → (enc A)[(enc A).length - 1]? = some 32
 | [],h => absurd rfl h
 | [a],_ => by simp [enc]
 | a :: b :: A,_ => by
  have ih := enc_last (b :: A) (by simp)
  have hne : 0 < (enc (b :: A)).length := by simp [enc]; omega
  rw [enc]
  have hl : (Lib.itoa a ++ 32 :: enc (b :: A)).length - 1 = (Lib.itoa a).length + (((enc (b :: A)).length - 1) + 1) := by simp; omega
  rw [hl,List.getElem?_append_right (by omega),Nat.add_sub_cancel_left,List.getElem?_cons_succ]
  exact ih
theorem enc_end (A : List Int) (a : Int) : enc (A ++ [a]) = enc A ++ (Lib.itoa a ++ [32]) := by rw [enc_append]; rfl
theorem partLast_lx (A : List Int) (a : Int) (z : ByteArray) (hz : z = ⟨(enc (A ++ [a])).toArray⟩) (hA : (enc (A ++ [a])).length < 1000000) :
  CallF (fun _ => Tryz.prog) 236 [.p (.str fun _ => z)] [] 0 (fun r h n => (∃ x y : ByteArray,r = .tup [.p (.str fun _ => x),.p (.str fun _ => y)] ∧ x = ⟨(enc A).toArray⟩ ∧ y = ⟨(Lib.itoa a).toArray⟩) ∧ h = [] ∧ n = 0) := by
 generalize hE : enc (A ++ [a]) = E at hz hA
 have hE2 := hE
 rw [enc_end] at hE2
 obtain ⟨T,hT⟩ : ∃ T : Int,T = E.length := ⟨_,rfl⟩
 obtain ⟨L,hL⟩ : ∃ L : Int,L = (enc A).length := ⟨_,rfl⟩
 obtain ⟨D,hD⟩ : ∃ D : Int,D = (Lib.itoa a).length := ⟨_,rfl⟩
 have hTL : T = L + D + 1 := by rw [hT,← hE2,hL,hD]; simp; omega
 have hD1 : 1 ≤ D := by
  have := itoa_ne a
  have : 0 < (Lib.itoa a).length := List.length_pos_iff.2 this
  omega
 have F1 : 0 < L → E[(L - 1).toNat]? = some 32 := fun h => by
  have hne : A ≠ [] := by rintro rfl; simp [enc] at hL; omega
  have := enc_last A hne
  rw [← hE2,List.getElem?_append_left (by omega),← this]; congr 1; omega
 have F2 : ∀ (p : Int) (c : UInt8),L ≤ p → p < L + D → E[p.toNat]? = some c → c ≠ 32 := fun p c h1 h2 h3 h4 => by
  rw [← hE2,List.getElem?_append_right (by omega),List.getElem?_append_left (by omega)] at h3
  have := itoa_dig a c (List.mem_of_getElem? h3)
  subst h4
  have h32 : (32 : UInt8).toNat = 32 := rfl
  omega
 have F3 : E[(T - 1).toNat]? = some 32 := by
  rw [← hE2,List.getElem?_append_right (by omega),List.getElem?_append_right (by omega),show (T - 1).toNat - (enc A).length - (Lib.itoa a).length = 0 by omega]; rfl
 have hlowE : ∀ c ∈ E,c.toNat < 128 := by rw [← hE]; exact enc_low _
 have hzs : (z.size : Int) = T := by rw [hz,hT]; show (E.toArray.size : Int) = _; simp
 refine callF_of_body tok Tryz.func236 (by kernel_rfl) rfl rfl rfl ?_; conv => cbv
 refine LoopF.mk (fun k s => ∃ (pos fr nx : Int),s = ⟨.p (.str fun _ => z) :: .undef :: .undef :: .undef :: .p (.int .i64 (.sym fr)) :: .p (.int .i64 (.sym nx)) :: .undef :: .undef :: .undef :: .ptr 0 (.lit 0) :: undefs 16,[(0,.iter (fun _ => z) (.sym pos))],1⟩ ∧ 0 ≤ pos ∧ pos ≤ T ∧ 0 ≤ fr ∧ fr ≤ T ∧ 0 ≤ nx ∧ nx ≤ T ∧ (pos = 0 → nx = 0) ∧ (0 < pos → E[(pos - 1).toNat]? = some 32 → nx = pos) ∧ (L ≤ pos → pos < T → nx = L) ∧ (pos = T → fr = L) ∧ k = (T - pos).toNat) T.toNat _
  (Re.at [(0,0)] []) ⟨0,0,0,rfl,by omega,by omega,by omega,by omega,by omega,by omega,by omega,by omega,by omega,by omega,by omega⟩ ?_
 rintro k s ⟨pos,fr,nx,rfl,hp0,hp1,hf0,hf1,hn0,hn1,P1,P2,P3,P4,hk⟩
 conv => cbv
 by_cases hend : pos = T
 ·refine NextS.over (by show (z.size : Int) ≤ pos; omega) ?_
  have hfr := P4 hend
  conv => cbv
  refine drawn_sound tok (by kernel_rfl) [(6,[2,1,0])] [0,1,2,3,4,5,6,7,8] (by kernel_rfl) ?_; conv => cbv
  refine Need.mk ⟨by simp only [I.val]; omega,by simp only [I.val]; omega,by show fr ≤ (z.size : Int); omega⟩ ?_
  conv => cbv
  refine Str.mk fun x hx => ?_
  have hx : x = z.extract 0 fr.toNat := hx
  conv => cbv
  refine Need.mk ⟨by simp only [I.val]; omega,by show fr ≤ (z.size : Int); omega⟩ ?_
  conv => cbv
  refine Str.mk fun y hy => ?_
  have hy : y = z.extract fr.toNat z.size := hy
  have hfn : fr.toNat = (enc A).length := by omega
  have hx2 : x = ⟨(enc A).toArray⟩ := by rw [hx,hz,ext_upto,hfn,← hE2,List.take_left]
  have hy2 : y = ⟨(Lib.itoa a ++ [32]).toArray⟩ := by rw [hy,hz,ext_from,hfn,← hE2,List.drop_left]
  have hys : (y.size : Int) ≤ 9223372036854775807 := by rw [hy2]; show (((Lib.itoa a ++ [32]).toArray.size : Nat) : Int) ≤ _; simp; omega
  conv => cbv
  refine callF_val (trimSuffix_lx y ⟨#[32]⟩ (by omega)) (by simp [ales,ale,renVs,renV,pvle_refl]) rfl (fun r ⟨u,hr,_⟩ => by subst hr; rfl) (fun r ⟨u,hr,hu⟩ => ?_)
  subst hr
  have hu2 : u = ⟨(Lib.itoa a).toArray⟩ := by
   rw [hu,hy2]
   have hs : Lib.hasSuffix (Lib.itoa a ++ [32]) [32] = true := by
    unfold Lib.hasSuffix; rw [List.isSuffixOf_iff_suffix]; exact List.suffix_append _ _
   show (⟨(Lib.trimSuffix (Lib.itoa a ++ [32]) [32]).toArray⟩ : ByteArray) = _
   unfold Lib.trimSuffix
   rw [if_pos hs]
   simp
  conv => cbv
  refine RetF.mk [.p (.str fun _ => x),.p (.str fun _ => u)] [] 0 (Re.at [] []) rfl ⟨⟨x,u,rfl,hx2,hu2⟩,rfl,rfl⟩
 ·obtain ⟨c,hc⟩ : ∃ c,E[pos.toNat]? = some c := ⟨_,List.getElem?_eq_getElem (by omega)⟩
  have hlow := hlowE c (List.mem_of_getElem? hc)
  have hd := dec_atE E hlowE pos.toNat c hc
  rw [← hz] at hd
  refine NextS.more (by show pos < (z.size : Int); omega) ?_
  intro r p' hr hp
  have hr : r = (c.toNat : Int) := by
   have : r = ((Utf8.decode z pos.toNat).1 : Int) := hr
   rw [this,hd]
  have hp : p' = pos + 1 := by
   have : p' = pos + ((Utf8.decode z pos.toNat).2 : Int) := hp
   rw [this,hd]; rfl
  obtain ⟨k',rfl⟩ : ∃ k',k = k' + 1 := ⟨k - 1,by omega⟩
  conv => cbv
  refine Br.mk (fun g => ?_) (fun g => ?_)
  ·have g : r = 32 := g
   have hc32 : c = 32 := UInt8.toNat_inj.1 (by show c.toNat = 32; omega)
   conv => cbv
   refine Fit.mk (by show (-9223372036854775808 : Int) ≤ pos + 1; omega) (by show pos + 1 ≤ 9223372036854775807; omega) ?_
   intro q hq
   have hq : q = pos + 1 := hq
   conv => cbv
   refine Again.mk k' _ (Nat.lt_succ_self _) (Re.at [(0,0)] []) ⟨p',nx,q,rfl,by omega,by omega,by omega,by omega,by omega,by omega,by omega,fun _ _ => by omega,fun h1 h2 => ?_,fun h1 => P3 (by omega) (by omega),by omega⟩
   have h1 : L ≤ p' := h1
   have h2 : p' < T := h2
   by_cases h3 : L ≤ pos
   ·exact absurd hc32 (F2 pos c h3 (by omega) hc)
   ·omega
  ·have g : ¬ r = 32 := g
   have hc32 : ¬ c = 32 := fun h => g (by rw [hr,h]; rfl)
   conv => cbv
   refine Again.mk k' _ (Nat.lt_succ_self _) (Re.at [(0,0)] []) ⟨p',fr,nx,rfl,by omega,by omega,by omega,by omega,by omega,by omega,by omega,fun _ h2 => ?_,fun h1 h2 => ?_,fun h1 => ?_,by omega⟩
   ·have h2 : E[(p' - 1).toNat]? = some 32 := h2
    rw [show (p' - 1).toNat = pos.toNat by omega,hc] at h2
    exact absurd (Option.some.inj h2) hc32
   ·have h1 : L ≤ p' := h1
    have h2 : p' < T := h2
    by_cases h3 : L ≤ pos
    ·exact P3 h3 (by omega)
    ·exfalso
     have h4 := F1 (by omega)
     rw [show (L - 1).toNat = pos.toNat by omega,hc] at h4
     exact hc32 (Option.some.inj h4)
   ·exfalso
    have h1 : p' = T := h1
    rw [show (T - 1).toNat = pos.toNat by omega,hc] at F3
    exact hc32 (Option.some.inj F3)
end Go.Proofs.YtcbombkaacjngaaGreatDoor
namespace Go.Proofs.YtcbombkaacjngaaGreatDoor
open Go Go.LX
set_option maxRecDepth 100000
set_option linter.unusedVariables false
set_option maxHeartbeats 32000000
def i64 (a : Int) : Prop := -9223372036854775808 ≤ a ∧ a ≤ 9223372036854775807
theorem enc_len : ∀ (A : List Int),(∀ a ∈ A,i64 a) → (enc A).length ≤ 22 * A.length
 | [],_ => Nat.le_refl _
 | a :: A,h => by
  have h1 := enc_len A fun x hx => h x (List.mem_cons_of_mem _ hx)
  have h2 := h a List.mem_cons_self
  have h3 := Lib.itoa_length_le a h2.1 h2.2
  rw [enc,List.length_append,List.length_cons,List.length_cons]; omega
theorem greyNew_lx : CallF (fun _ => Tryz.prog) 99 [] [] 0 (fun r h n => ∃ z : ByteArray,r = .ptr 0 (.lit 0) ∧ h = [hpF 0 z false] ∧ n = 1 ∧ z = ⟨(enc []).toArray⟩) := by
 refine callF_of_body tok Tryz.func99 (by kernel_rfl) rfl rfl rfl ?_; conv => cbv
 obtain ⟨z,hz⟩ : ∃ z : ByteArray,z = ⟨(enc []).toArray⟩ := ⟨_,rfl⟩
 have hz2 : (⟨#[]⟩ : ByteArray) = z := hz.symm
 refine RetF.mk [.ptr 0 (.lit 0)] [hpF 0 z false] 1 (Re.at [(0,0)] []) rfl ⟨z,rfl,rfl,rfl,hz⟩
theorem greyOver_lx (z : ByteArray) (ov : Bool) : CallF (fun _ => Tryz.prog) 221 [.ptr 0 (.lit 0)] [hpF 0 z ov] 1 (fun r h n => r = .p (.bool ov) ∧ h = [hpF 0 z ov] ∧ n = 1) := by
 refine callF_of_body tok Tryz.func221 (by kernel_rfl) rfl rfl rfl ?_; conv => cbv
 refine RetF.mk [.p (.bool ov)] [hpF 0 z ov] 1 (Re.at [(0,0)] []) rfl ⟨rfl,rfl,rfl⟩
theorem greySettle_lx (z : ByteArray) (ov : Bool) : CallF (fun _ => Tryz.prog) 222 [.ptr 0 (.lit 0)] [hpF 0 z ov] 1 (fun r h n => r = .tup [] ∧ h = [hpF 0 z false] ∧ n = 1) := by
 refine callF_of_body tok Tryz.func222 (by kernel_rfl) rfl rfl rfl ?_; conv => cbv
 refine RetF.mk [] [hpF 0 z false] 1 (Re.at [(0,0)] []) rfl ⟨rfl,rfl,rfl⟩
theorem greyPush_lx (A : List Int) (a : Int) (z : ByteArray) (ov : Bool) (o : Unit → Obj) (ho : IsPow o) (hz : z = ⟨(enc A).toArray⟩) (hA : ∀ x ∈ A,i64 x) (hA8 : A.length ≤ 8) (ha : i64 a) :
  CallF (fun _ => Tryz.prog) 178 [.ptr 1 (.lit 0),i6 a] [hpF 1 z ov,(0,.fix 0 o)] 2 (fun r h n => ∃ (b ov' : Bool) (z' : ByteArray) (A' : List Int),r = .p (.bool b) ∧ h = [hpF 1 z' ov',(0,.fix 0 o)] ∧ n = 2 ∧ z' = ⟨(enc A').toArray⟩ ∧ (A.length < 8 → b = true ∧ A' = A ++ [a] ∧ ov' = ov) ∧ (8 ≤ A.length → b = false ∧ A' = A ∧ ov' = true)) := by
 have hle := enc_len A hA
 refine callF_of_body tok Tryz.func178 (by kernel_rfl) rfl rfl rfl ?_; conv => cbv
 refine callF_frame (greyLen_lx A z ov hz (by omega)) [(0,1)] rfl (by simp [hmapOk,nget,hget,renB,okB]) rfl rfl (fun r h' n' ⟨m,e1,hm,e2,e3⟩ => ?_)
 subst e1 e2 e3
 conv => cbv
 refine Br.mk (fun g => ?_) (fun g => ?_)
 ·have g : 8 ≤ m := g
  conv => cbv
  refine RetF.mk [.p (.bool false)] [hpF 1 z true,(0,.fix 0 o)] 2 (Re.at [(0,0),(1,1)] []) rfl ⟨false,true,z,A,rfl,rfl,rfl,hz,fun h => by omega,fun _ => ⟨rfl,rfl,rfl⟩⟩
 ·have g : ¬ 8 ≤ m := g
  conv => cbv
  refine drawn_sound tok (by kernel_rfl) [(5,[3,2,1,0]),(10,[])] [0,1,2,3,4,5,6,7,8,9,10] (by kernel_rfl) ?_; conv => cbv
  refine callF_frame (itoa_lx a ha.1 ha.2 o ho) [(0,0)] rfl (by simp [hmapOk,nget,hget,renB,okB]) rfl rfl (fun r h' n' ⟨⟨y,e1,hy⟩,e2,e3⟩ => ?_)
  subst e1 e2 e3
  have hyl : (y.size : Int) ≤ 21 := by
   rw [hy]
   have := Lib.itoa_length_le a ha.1 ha.2
   show ((Lib.itoa a).toArray.size : Int) ≤ 21
   simp; omega
  have hzl : (z.size : Int) ≤ 1000000 := by rw [hz]; show ((enc A).toArray.size : Int) ≤ _; simp; omega
  conv => cbv
  refine Need.mk (by show y.size + 1 ≤ 9223372036854775807; omega) ?_
  conv => cbv
  refine Str.mk fun u hu => ?_
  have hu : u = y ++ ⟨#[32]⟩ := hu
  have hus : (u.size : Int) ≤ 22 := by rw [hu,ByteArray.size_append]; show ((y.size + 1 : Nat) : Int) ≤ 22; omega
  conv => cbv
  refine Need.mk (by show z.size + u.size ≤ 9223372036854775807; omega) ?_
  conv => cbv
  refine Str.mk fun z2 hz2 => ?_
  have hz2 : z2 = z ++ u := hz2
  have hz3 : z2 = ⟨(enc (A ++ [a])).toArray⟩ := by
   rw [hz2,hz,hu,hy,enc_end]
   apply ByteArray.ext
   simp
  conv => cbv
  refine RetF.mk [.p (.bool true)] [hpF 1 z2 ov,(0,.fix 0 o)] 2 (Re.at [(0,0),(1,1)] []) rfl ⟨true,ov,z2,A ++ [a],rfl,rfl,rfl,hz3,fun _ => ⟨rfl,rfl,rfl⟩,fun h => by omega⟩
theorem greyPop_lx (A : List Int) (z : ByteArray) (ov : Bool) (hz : z = ⟨(enc A).toArray⟩) (hA : ∀ x ∈ A,i64 x) (hA8 : A.length ≤ 8) :
  CallF (fun _ => Tryz.prog) 220 [.ptr 0 (.lit 0)] [hpF 0 z ov] 1 (fun r h n => (∃ (v : Int) (b : Bool) (z' : ByteArray) (A' : List Int),r = .tup [i6 v,.p (.bool b)] ∧ h = [hpF 0 z' ov] ∧ n = 1 ∧ z' = ⟨(enc A').toArray⟩ ∧ (A = [] ∧ v = 0 ∧ b = false ∧ A' = [] ∨ A = A' ++ [v] ∧ b = true))) := by
 have hle := enc_len A hA
 refine callF_of_body tok Tryz.func220 (by kernel_rfl) rfl rfl rfl ?_; conv => cbv
 refine callF_frame (greyLen_lx A z ov hz (by omega)) [(0,0)] rfl (by simp [hmapOk,nget,hget,renB,okB]) rfl rfl (fun r h' n' ⟨m,e1,hm,e2,e3⟩ => ?_)
 subst e1 e2 e3
 conv => cbv
 refine Br.mk (fun g => ?_) (fun g => ?_)
 ·have g : m = 0 := g
  have hA0 : A = [] := List.eq_nil_of_length_eq_zero (by omega)
  conv => cbv
  refine RetF.mk [i6 0,.p (.bool false)] [hpF 0 z ov] 1 (Re.at [(0,0)] []) rfl ⟨0,false,z,A,rfl,rfl,rfl,hz,.inl ⟨hA0,rfl,rfl,hA0⟩⟩
 ·have g : ¬ m = 0 := g
  obtain ⟨B,a,rfl⟩ : ∃ B a,A = B ++ [a] := ⟨_,_,(List.dropLast_concat_getLast (by rintro rfl; simp at hm; omega)).symm⟩
  conv => cbv
  refine callF_val (partLast_lx B a z hz (by rw [List.length_append] at *; omega)) (by simp [ales,ale,renVs,renV,pvle_refl]) rfl (fun r ⟨x,y,hr,_⟩ => by subst hr; rfl) (fun r ⟨x,y,hr,hx,hy⟩ => ?_)
  subst hr
  have haa := hA a (by simp)
  conv => cbv
  refine callF_val (atoi_lx y a (by rw [hy]; have := Lib.itoa_length_le a haa.1 haa.2; show (Lib.itoa a).toArray.size ≤ _; simp; omega) (by rw [hy]; exact atoi_itoa a haa.1 haa.2)) (by simp [ales,ale,renVs,renV,pvle_refl]) rfl (fun r hr => by subst hr; rfl) (fun r hr => ?_)
  subst hr
  conv => cbv
  refine RetF.mk [i6 a,.p (.bool true)] [hpF 0 x ov] 1 (Re.at [(0,0)] []) rfl ⟨a,true,x,B,rfl,rfl,rfl,hx,.inr ⟨rfl,rfl⟩⟩
end Go.Proofs.YtcbombkaacjngaaGreatDoor
namespace Go.Proofs.YtcbombkaacjngaaGreatDoor
open Go Go.LX Go.RowKit Go.ChangeShapes Go.WideShapes
set_option maxHeartbeats 32000000
inductive CK where
 | i (k : IntKind)
 | b
 | s
def CK.is : CK → Option TypeDesc → Bool
 | .i k,some (.int k') => decide (k = k')
 | .b,some .bool => true
 | .s,some .string => true
 | _,_ => false
def CK.ok : CK → Value → Prop
 | .i k,x => ∃ n,x = .int k n ∧ (Lit.int k n).wf = true
 | .b,x => ∃ b,x = .bool b
 | .s,x => ∃ s,x = .string s ∧ s.size ≤ maxLen
section
variable {H : Type} {enc : TypeId × Value → H} {P : Program} {W : World}
theorem ck_trod {k : CK} {t : TypeId} {base fuel : Nat} {spare : Nat → Bool} {held : Bool} {cs : List Value} {x : DataW H × List MemPlace} (hk : k.is (P.underlying t) = true) (h : DataW.trod enc P W base spare held fuel t cs = some x) : ∃ c,cs = [c] ∧ k.ok c := by
 unfold CK.is at hk
 split at hk
 ·rename_i k1 k2 hu
  have hk := of_decide_eq_true hk
  subst hk
  obtain ⟨n,h1,_,h2⟩ := DataW.trod_int hu h
  exact ⟨_,h1,n,rfl,h2⟩
 ·rename_i hu
  obtain ⟨b,h1,_⟩ := DataW.trod_bool hu h
  exact ⟨_,h1,b,rfl⟩
 ·rename_i hu
  obtain ⟨s,h1,_,h2⟩ := DataW.trod_string hu h
  exact ⟨_,h1,s,rfl,h2⟩
 ·cases hk
end
end Go.Proofs.YtcbombkaacjngaaGreatDoor
namespace Go.LX
open Go
set_option linter.unusedVariables false
set_option maxHeartbeats 32000000
theorem reach_succ {ops : Array Oper} {p : Nat} : ∀ {n q : Nat},reach ops n p q = true → reach ops (n + 1) p q = true
 | 0,q,h => by cases h
 | n + 1,q,h => by
  rw [reach] at h ⊢
  split at h
  ·rw [Array.any_eq_true'] at h ⊢
   obtain ⟨e,he,h⟩ := h
   refine ⟨e,he,?_⟩
   rw [Bool.and_eq_true,Bool.or_eq_true] at h ⊢
   exact ⟨h.1,h.2.imp id reach_succ⟩
  ·cases h
theorem reach_mono {ops : Array Oper} {p q n m : Nat} (h : reach ops n p q = true) (hm : n ≤ m) : reach ops m p q = true := by
 induction hm with
 | refl => exact h
 | step _ ih => exact reach_succ ih
def maskL (M : List Nat) : List Edge → Nat
 | [] => 0
 | e :: l => if Region.binds .any e then (2 ^ e.on ||| M.getD e.on 0) ||| maskL M l else maskL M l
def forceN {α : Type} (n : Nat) (k : Nat → α) : α :=
 match n with
 | 0 => k 0
 | m + 1 => k (m + 1)
theorem forceN_eq {α : Type} (n : Nat) (k : Nat → α) : forceN n k = k n := by cases n <;> rfl
def masksL : List Oper → List Nat → List Nat
 | [],M => M
 | o :: l,M => forceN (maskL M o.after.toList) fun v => masksL l (M ++ [v])
theorem maskL_bit {M : List Nat} {p : Nat} : ∀ {l : List Edge},(maskL M l).testBit p = true → ∃ e ∈ l,Region.binds .any e = true ∧ (e.on = p ∨ (M.getD e.on 0).testBit p = true)
 | [],h => by simp [maskL] at h
 | e :: l,h => by
  rw [maskL] at h
  split at h
  ·rename_i hb
   rw [Nat.testBit_or,Nat.testBit_or,Bool.or_eq_true,Bool.or_eq_true] at h
   rcases h with (h | h) | h
   ·rw [Nat.testBit_two_pow] at h
    exact ⟨e,List.mem_cons_self,hb,.inl (by simpa using h)⟩
   ·exact ⟨e,List.mem_cons_self,hb,.inr h⟩
   ·obtain ⟨e',he,h⟩ := maskL_bit h
    exact ⟨e',List.mem_cons_of_mem _ he,h⟩
  ·obtain ⟨e',he,h⟩ := maskL_bit h
   exact ⟨e',List.mem_cons_of_mem _ he,h⟩
def MasksOk (ops : Array Oper) (M : List Nat) : Prop := ∀ q p : Nat,(M.getD q 0).testBit p = true → q < M.length ∧ reach ops (q + 1) p q = true
theorem masksL_ok {ops : Array Oper} : ∀ (l done : List Oper) (M : List Nat),ops.toList = done ++ l → M.length = done.length → MasksOk ops M → MasksOk ops (masksL l M) ∧ (masksL l M).length = ops.size
 | [],done,M,ho,hl,hM => ⟨hM,by rw [masksL,hl,← Array.length_toList,ho,List.append_nil]⟩
 | o :: l,done,M,ho,hl,hM => by
  rw [masksL,forceN_eq]
  refine masksL_ok l (done ++ [o]) _ (by rw [ho]; simp) (by simp [hl]) fun q p h => ?_
  have hoq : ops[M.length]? = some o := by rw [← Array.getElem?_toList,ho,hl]; simp
  rw [List.getD_eq_getElem?_getD] at h
  by_cases h1 : q < M.length
  ·rw [List.getElem?_append_left h1,← List.getD_eq_getElem?_getD] at h
   exact ⟨by simp; omega,(hM q p h).2⟩
  ·by_cases h2 : q = M.length
   ·subst h2
    rw [List.getElem?_append_right (by omega)] at h
    simp only [Nat.sub_self,List.getElem?_cons_zero,Option.getD_some] at h
    obtain ⟨e,he,hb,h⟩ := maskL_bit h
    refine ⟨by simp,?_⟩
    rw [reach,hoq]
    dsimp only
    rw [Array.any_eq_true']
    refine ⟨e,by simpa using he,?_⟩
    rw [Bool.and_eq_true,Bool.or_eq_true]
    refine ⟨hb,?_⟩
    rcases h with h | h
    ·left; simp [h]
    ·right
     obtain ⟨g1,g2⟩ := hM _ _ h
     exact reach_mono g2 g1
   ·rw [List.getElem?_eq_none (by simp; omega)] at h
    simp at h
def pairOKF (ops : Array Oper) (F : List (Nat × List Nat)) (M : List Nat) (p q : Nat) : Bool :=
 p != q && ((isA (opAt ops p) && (opAt ops p).apart ops (opAt ops q) && (isA (opAt ops q) || (look F q).contains p)) || (M.getD q 0).testBit p) && (!(F.any fun e => e.2.contains p && e.2.contains q) || match (opAt ops q).dst with
  | some d => !isA (opAt ops p) || !isA (opAt ops q) || !((opAt ops p).looksAt ops).contains d
  | none => true)
def orderOKF (ops : Array Oper) (F : List (Nat × List Nat)) (M : List Nat) : List Nat → List Nat → Bool
 | _,[] => true
 | pre,q :: l => edgesOK ops pre q && selfOK ops q && l.all (fun r => pairOKF ops F M q r) && orderOKF ops F M (q :: pre) l
def drawnOKF (ops : Array Oper) (F : List (Nat × List Nat)) (order : List Nat) : Bool := orderOKF ops F (masksL ops.toList []) [] order && (List.range ops.size).all (fun j => order.contains j)
theorem pairOKF_ok {ops : Array Oper} {F : List (Nat × List Nat)} {M : List Nat} (hM : MasksOk ops M) (hl : M.length = ops.size) {p q : Nat} (h : pairOKF ops F M p q = true) : pairOK ops F p q = true := by
 unfold pairOKF at h
 unfold pairOK
 rw [Bool.and_eq_true,Bool.and_eq_true] at h ⊢
 refine ⟨⟨h.1.1,?_⟩,h.2⟩
 have h2 := h.1.2
 rw [Bool.or_eq_true] at h2 ⊢
 rcases h2 with h2 | h2
 ·exact .inr h2
 ·obtain ⟨g1,g2⟩ := hM _ _ h2
  exact .inl (reach_mono g2 (by omega))
theorem orderOKF_ok {ops : Array Oper} {F : List (Nat × List Nat)} {M : List Nat} (hM : MasksOk ops M) (hl : M.length = ops.size) : ∀ {l pre : List Nat},orderOKF ops F M pre l = true → orderOK ops F pre l = true
 | [],pre,_ => rfl
 | q :: l,pre,h => by
  rw [orderOKF,Bool.and_eq_true,Bool.and_eq_true] at h
  rw [orderOK,Bool.and_eq_true,Bool.and_eq_true]
  refine ⟨⟨h.1.1,?_⟩,orderOKF_ok hM hl h.2⟩
  rw [List.all_eq_true] at *
  exact fun r hr => pairOKF_ok hM hl (h.1.2 r hr)
theorem drawnOKF_ok {ops : Array Oper} {F : List (Nat × List Nat)} {order : List Nat} (h : drawnOKF ops F order = true) : drawnOK ops F order = true := by
 unfold drawnOKF at h
 unfold drawnOK
 rw [Bool.and_eq_true] at h ⊢
 obtain ⟨g1,g2⟩ := masksL_ok (ops := ops) ops.toList [] [] rfl rfl (fun q p h => by simp at h)
 exact ⟨orderOKF_ok g1 g2 h.1,h.2⟩
end Go.LX
namespace Go.LX
open Go
set_option maxHeartbeats 32000000
def lmem (n : Nat) : List Nat → Bool
 | [] => false
 | m :: l => match Nat.beq n m with
  | true => true
  | false => lmem n l
inductive Joined (J : LS → Prop) (n0 : Nat) (s' : LS) : Prop
 | mk (s'' : LS) (hr : Re n0 s' s'') (hj : J s'')
def JoinK (J : LS → Prop) (n0 : Nat) (K : Exit → LS → Prop) : Exit → LS → Prop
 | .normal,s' => Joined J n0 s'
 | .exit j,s' => K (.exit j) s'
 | .ret,s' => K .ret s'
 | .goto j,s' => K (.goto j) s'
 | .panic c,s' => K (.panic c) s'
 | .outgrown,s' => K .outgrown s'
inductive JoinF (n0 : Nat) (B : Unit → (Exit → LS → Prop) → Prop) (K : Exit → LS → Prop) : Prop
 | mk (J : LS → Prop) (hx : B () (JoinK J n0 K)) (hy : ∀ s,J s → K .normal s)
def headReg : Code → Nat
 | .region r _ _ => r
 | _ => 1000000
def seqK (N : LS → Prop) (K : Exit → LS → Prop) : Exit → LS → Prop
 | .normal,s' => N s'
 | .exit j,s' => K (.exit j) s'
 | .ret,s' => K .ret s'
 | .goto _,_ => False
 | .panic _,_ => False
 | .outgrown,_ => False
def blockK (id : Nat) (K : Exit → LS → Prop) (e : Exit) (s' : LS) : Prop := match e with
 | .exit j => match Nat.beq j id with
  | true => K .normal s'
  | false => K (.exit j) s'
 | .normal => K .normal s'
 | .ret => K .ret s'
 | .goto _ => False
 | .panic _ => False
 | .outgrown => False
def lcodeB (P : Unit → Program) (T : Unit → TT) (n0 : Nat) (bs : List Nat) : Code → LS → (Exit → LS → Prop) → Prop
 | .skip,s,K => K .normal s
 | .label _,s,K => K .normal s
 | .region _ ops d,s,K => match d with
  | false => lops P T ops.toList ops.toList s fun s' => K .normal s'
  | true => DrawF P (fun _ => ops) s fun s' => K .normal s'
 | .seq a b,s,K => match lmem (headReg a) bs with
  | true => JoinF n0 (fun _ K => lcodeB P T n0 bs a s (seqK (fun s' => lcodeB P T n0 bs b s' K) K)) K
  | false => lcodeB P T n0 bs a s (seqK (fun s' => lcodeB P T n0 bs b s' K) K)
 | .cond c a b,s,K => match ev s c with
  | .p (.bool c) => match c with
   | true => lcodeB P T n0 bs a s K
   | false => lcodeB P T n0 bs b s K
  | _ => False
 | .block id c,s,K => lcodeB P T n0 bs c s (blockK id K)
 | .loop c,s,K => LoopF n0 (fun _ s K => lcodeB P T n0 bs c s K) s K
 | .exit id,s,K => K (.exit id) s
 | .ret,s,K => K .ret s
 | _,_,_ => False
def lbodyB (P : Unit → Program) (T : Unit → TT) (bs : List Nat) (cd : Code) (rs : List ResultVar) (nt : Nat) (args : List LV) (h : LH) (n : Nat) (K : LV → LH → Nat → Prop) : Prop :=
 lcodeB P T n bs cd ⟨args ++ undefs (nt - llen args),h,n⟩ fun e s' => match e with
  | .normal => lres T s' rs fun vs => RetF n vs s'.h s'.n K
  | .ret => lres T s' rs fun vs => RetF n vs s'.h s'.n K
  | .exit _ => False
  | .goto _ => False
  | .panic _ => False
  | .outgrown => False
section
variable {P : Program} {T : TT} {c : Ctx} {a : Act} {w w' : World}
theorem lcodeB_sound (hT : TOK P T) {c0 : Ctx} {w0 : World} (n0 : Nat) (hn0 : c0.N = n0) (bs : List Nat) : ∀ (cd : Code) {s : LS} {K : Exit → LS → Prop} {c : Ctx} {a : Act} {w : World},Ext c0 w0 c w → St c s a w → lcodeB (fun _ => P) (fun _ => T) n0 bs cd s K → cd.wp P (PostE K c0 w0) a w
 | .skip,s,K,c,a,w,he,hs,h => wp_skip ⟨c,s,h,hs,he⟩
 | .label _,s,K,c,a,w,he,hs,h => wp_label ⟨c,s,h,hs,he⟩
 | .exit _,s,K,c,a,w,he,hs,h => wp_exit ⟨c,s,h,hs,he⟩
 | .ret,s,K,c,a,w,he,hs,h => wp_ret ⟨c,s,h,hs,he⟩
 | .region _ ops d,s,K,c,a,w,he,hs,h => by
  cases d with
  | false =>
   refine wp_region ?_
   rw [List.range_eq_range']
   refine lops_sound hT (c0 := c0) (w0 := w0) (K := fun s' => K .normal s') (fun a' w' hp => ?_) ops.size 0 (by omega) he hs (by rw [List.drop_zero]; exact h)
   obtain ⟨c',s',hK,hs',he'⟩ := hp
   exact ⟨c',s',hK,hs',he'⟩
  | true =>
   refine wp_region_draw fun t => ?_
   obtain ⟨e1,r1⟩ := hs.hr.same (w' := { w with drawn := w.drawn + 1 }) rfl rfl rfl rfl
   have hs1 : St c s a { w with drawn := w.drawn + 1 } := ⟨hs.tl,fun i u hu => (hs.tr i u hu).ext hs.hr.fresh e1,hs.df,r1,hs.nn⟩
   cases h with
   | mk h =>
    refine h c a _ t _ hs1 (fun a' w' hp => ?_)
    obtain ⟨c',s',hK,hs',he'⟩ := hp
    exact ⟨c',s',hK,hs',he.trans (e1.trans he')⟩
 | .seq x y,s,K,c,a,w,he,hs,h => by
  rw [lcodeB] at h
  have key : ∀ (K : Exit → LS → Prop),lcodeB (fun _ => P) (fun _ => T) n0 bs x s (seqK (fun s' => lcodeB (fun _ => P) (fun _ => T) n0 bs y s' K) K) → (Code.seq x y).wp P (PostE K c0 w0) a w := by
   intro K h
   refine wp_seq (wp_mono (lcodeB_sound hT n0 hn0 bs x he hs h) fun e a' w' hp => ?_)
   obtain ⟨c',s',hK,hs',he'⟩ := hp
   cases e with
   | normal => exact lcodeB_sound hT n0 hn0 bs y he' hs' hK
   | exit j => exact ⟨c',s',hK,hs',he'⟩
   | ret => exact ⟨c',s',hK,hs',he'⟩
   | goto l => exact hK.elim
   | panic ch => exact hK.elim
   | outgrown => exact hK.elim
  split at h
  ·cases h with
   | mk J hx hy =>
    refine wp_mono (key _ hx) fun e a' w' hp => ?_
    obtain ⟨c2,s2,hK,hs2,he2⟩ := hp
    cases e with
    | normal =>
     obtain ⟨s3,hre,hj⟩ := hK
     obtain ⟨hre⟩ := hre
     obtain ⟨c3,he3,hs3⟩ := hre c0 w0 c2 a' w' hn0 he2 hs2
     exact ⟨c3,s3,hy s3 hj,hs3,he3⟩
    | exit j => exact ⟨c2,s2,hK,hs2,he2⟩
    | ret => exact ⟨c2,s2,hK,hs2,he2⟩
    | goto l => exact ⟨c2,s2,hK,hs2,he2⟩
    | panic ch => exact ⟨c2,s2,hK,hs2,he2⟩
    | outgrown => exact ⟨c2,s2,hK,hs2,he2⟩
  ·exact key _ h
 | .cond co x y,s,K,c,a,w,he,hs,h => by
  rw [lcodeB] at h
  split at h
  ·rename_i b hb
   have hv : a.eval co = .bool b := LR.inv_bool (hb ▸ hs.ev co)
   cases b with
   | true => exact wp_cond_true hv (lcodeB_sound hT n0 hn0 bs x he hs h)
   | false => exact wp_cond_false hv (lcodeB_sound hT n0 hn0 bs y he hs h)
  ·exact h.elim
 | .block id x,s,K,c,a,w,he,hs,h => by
  refine wp_block (wp_mono (lcodeB_sound hT n0 hn0 bs x he hs h) fun e a' w' hp => ?_)
  obtain ⟨c',s',hK,hs',he'⟩ := hp
  cases e with
  | normal => exact ⟨c',s',hK,hs',he'⟩
  | exit j =>
   show if j = id then _ else _
   unfold blockK at hK
   dsimp only at hK
   by_cases hj : j = id
   ·rw [if_pos hj]
    subst hj
    rw [Nat.beq_refl] at hK
    exact ⟨c',s',hK,hs',he'⟩
   ·rw [if_neg hj]
    rw [nbeq hj] at hK
    exact ⟨c',s',hK,hs',he'⟩
  | ret => exact ⟨c',s',hK,hs',he'⟩
  | goto l => exact hK.elim
  | panic ch => exact hK.elim
  | outgrown => exact hK.elim
 | .loop x,s,K,c,a,w,he,hs,h => by
  cases h with
  | mk V k0 s0 h0 hv hr =>
   obtain ⟨h0⟩ := h0
   obtain ⟨c',he',hs'⟩ := h0 c0 w0 c a w hn0 he hs
   refine wp_loop_ghost (fun n a w => ∃ s c,V n s ∧ Ext c0 w0 c w ∧ St c s a w) k0 ⟨s0,c',hv,he',hs'⟩ fun n a w hI => ?_
   obtain ⟨s1,c1,hv1,he1,hs1⟩ := hI
   refine wp_mono (lcodeB_sound hT n0 hn0 bs x he1 hs1 (hr n s1 hv1)) fun e a' w' hp => ?_
   obtain ⟨c2,s2,hK,hs2,he2⟩ := hp
   cases e with
   | normal =>
    obtain ⟨k3,s3,hm3,hre,hv3⟩ := hK
    obtain ⟨hre⟩ := hre
    obtain ⟨c3,he3,hs3⟩ := hre c0 w0 c2 a' w' hn0 he2 hs2
    exact ⟨k3,hm3,s3,c3,hv3,he3,hs3⟩
   | exit j => exact ⟨c2,s2,hK,hs2,he2⟩
   | ret => exact ⟨c2,s2,hK,hs2,he2⟩
   | goto l => exact ⟨c2,s2,hK,hs2,he2⟩
   | panic ch => exact ⟨c2,s2,hK,hs2,he2⟩
   | outgrown => exact ⟨c2,s2,hK,hs2,he2⟩
  | rounds m h =>
   refine wp_loop_rounds m ?_
   induction m generalizing s c a w with
   | zero => exact h.elim
   | succ m ih =>
    refine wp_mono (lcodeB_sound hT n0 hn0 bs x he hs h) fun e a' w' hp => ?_
    obtain ⟨c',s',hK,hs',he'⟩ := hp
    cases e with
    | normal => exact ih s' c' a' w' he' hs' hK
    | exit j => exact ⟨c',s',hK,hs',he'⟩
    | ret => exact ⟨c',s',hK,hs',he'⟩
    | goto l => exact ⟨c',s',hK,hs',he'⟩
    | panic ch => exact ⟨c',s',hK,hs',he'⟩
    | outgrown => exact ⟨c',s',hK,hs',he'⟩
 | .rangeFunc _ _ _ _,s,K,c,a,w,he,hs,h => h.elim
 | .scope _,s,K,c,a,w,he,hs,h => h.elim
 | .goto _,s,K,c,a,w,he,hs,h => h.elim
 | .refuse _,s,K,c,a,w,he,hs,h => h.elim
theorem callF_of_bodyB (hT : TOK P T) {f : Nat} {fn : Func} {cd : Code} {args : List LV} {h : LH} {n : Nat} {K : LV → LH → Nat → Prop} (hf : P.funcs[f]? = some fn) (hname : (fn.name == "runtime.NumGoroutine") = false) (hb : fn.body = some cd)
  {rs : List ResultVar} {nt : Nat} (hrs : fn.results.toList = rs) (hnt : fn.ntmps = nt) (bs : List Nat) (hbody : lbodyB (fun _ => P) (fun _ => T) bs cd rs nt args h n K) : CallF (fun _ => P) f args h n K := by
 refine .mk ⟨fn,cd,hf,hname,hb⟩ fun c w xs hr hN hl hrel => ?_
 refine calls_of_wp hf hb ?_
 subst hrs hnt
 unfold lbodyB at hbody
 have hs : St c ⟨args ++ undefs (fn.ntmps - llen args),h,n⟩ { tmps := xs ++ Array.replicate (fn.ntmps - xs.size) undef,defers := [] } w := by
  refine ⟨by simp [undefs_length,llen_eq,hl],fun i u hu => ?_,rfl,hr,hN⟩
  dsimp only at hu ⊢
  by_cases hi : i < args.length
  ·rw [List.getElem?_append_left hi] at hu
   have := hrel i u hu
   rw [Array.getD_eq_getD_getElem?] at this ⊢
   rw [Array.getElem?_append_left (by omega)]
   exact this
  ·rw [List.getElem?_append_right (by omega)] at hu
   rw [undefs_get _ _ _ hu]; exact .undef _
 refine wp_mono (lcodeB_sound hT n hN bs cd (Ext.refl hr) hs hbody) fun e a' w' hp => ?_
 obtain ⟨c',s',hK,hs',he'⟩ := hp
 have fin : lres (fun _ => T) s' fn.results.toList (fun rs => RetF n rs s'.h s'.n K) → a'.defers = [] ∧ ∃ v,(results fn a'.tmps).run P w' = .ok v w' ∧
   (fun (e : Ending) w' => ∃ (c' : Ctx) (r : LV) (v : Value) (h' : LH) (n' : Nat),e = .returned v ∧ K r h' n' ∧ HR c' w' h' ∧ c'.N = n' ∧ LR c' w' r v ∧ Ext c w c' w') (.returned v) w' := by
  intro hres
  refine ⟨hs'.df,?_⟩
  obtain ⟨us,vs,h1,h2,h3⟩ := lres_sound hT hs' _ hres
  obtain ⟨rs',h',n',⟨hre⟩,hlr,hk⟩ := h3
  have hs2 : St c' ⟨us,s'.h,s'.n⟩ { tmps := vs.toArray,defers := [] } w' := ⟨by simpa using h2.1,fun i u hu => (Rel2.getD (x := vs.toArray) (by simpa using h2)).2 i u hu,rfl,hs'.hr,hs'.nn⟩
  obtain ⟨c2,he2,hs3⟩ := hre c w c' _ w' hN he' hs2
  refine ⟨if h : vs.toArray.size = 1 then vs.toArray[0] else .tuple vs.toArray,?_,c2,one rs',_,h',n',rfl,hk,hs3.hr,hs3.nn,?_,he2⟩
  ·rw [results_eq,Sem.run_bind,Array.mapM_eq_mapM_toList,Sem.run_map,h1]
   rfl
  ·have hr3 : Rel2 c2 w' rs' vs := by
    have := Rel2.ofD hs3.tl hs3.tr
    simpa using this
   cases rs' with
   | nil =>
    have : vs = [] := List.eq_nil_of_length_eq_zero hr3.1.symm
    subst this
    exact .tup [] #[] rfl (fun j u hu => by simp at hu)
   | cons u rs =>
    obtain ⟨y,ys,rfl,h5,h6⟩ := hr3.head
    cases rs with
    | nil =>
     have : ys = [] := List.eq_nil_of_length_eq_zero h6.1.symm
     subst this
     simpa [one] using h5
    | cons u2 rs =>
     have hne : ¬ (y :: ys).toArray.size = 1 := by
      have := h6.1
      simp at this ⊢
      intro h; rw [h] at this; simp at this
     rw [dif_neg hne]
     exact .tup _ _ (by simpa using hr3.1) (Rel2.getD (x := (y :: ys).toArray) (by simpa using hr3)).2
 cases e with
 | normal => exact fin hK
 | ret => exact fin hK
 | exit j => exact hK.elim
 | goto l => exact hK.elim
 | panic ch => exact hK.elim
 | outgrown => exact hK.elim
end
theorem Br.yes {p : Unit → Prop} {K : Bool → Prop} (h : p ()) (hk : K true) : Br p K := .mk (fun _ => hk) (fun n => absurd h n)
theorem Br.no {p : Unit → Prop} {K : Bool → Prop} (h : ¬ p ()) (hk : K false) : Br p K := .mk (fun y => absurd y h) (fun _ => hk)
end Go.LX
namespace Go.Proofs.YtcbombkaacjngaaGreatDoor
open Go Go.LX
set_option maxRecDepth 100000
set_option linter.unusedVariables false
set_option linter.unusedSimpArgs false
set_option maxHeartbeats 32000000
inductive Meant (w : Int) : LV → Prop
 | place (x : Int) (h : w % 2 = 1) (hx : x = (w - 1) / 2) : Meant w (.iface 249 (.p (.int .i64 (.sym x))))
 | number (x : Int) (h : ¬ w % 2 = 1) (hx : x = w / 2) : Meant w (.iface 283 (.p (.int .i64 (.sym x))))
theorem and1_bv (x : Int) : IntKind.i64.wrap ((BitVec.ofInt 64 x &&& BitVec.ofInt 64 1).toNat : Int) = x % 2 := and1_i64 x
theorem meaning_lx (w : Int) (hw : -9223372036854775808 ≤ w ∧ w ≤ 9223372036854775807) : CallF (fun _ => Tryz.prog) 196 [i6 w] [] 0 (fun r h n => Meant w r ∧ h = [] ∧ n = 0) := by
 refine callF_of_body tok Tryz.func196 (by kernel_rfl) rfl rfl rfl ?_; conv => cbv
 refine Sum.mk fun u hu => ?_
 have hu : u = w % 2 := hu.trans (and1_bv w)
 conv => cbv
 refine Br.mk (fun g => ?_) (fun g => ?_)
 ·have g : u = 1 := g
  conv => cbv
  refine Fit.mk (by show (-9223372036854775808 : Int) ≤ w - 1; omega) (by show w - 1 ≤ 9223372036854775807; omega) fun v hv => ?_
  have hv : v = w - 1 := hv
  conv => cbv
  have hdv : v.tdiv 2 = (w - 1) / 2 := by rw [hv]; exact Int.tdiv_eq_ediv_of_dvd (by omega)
  refine Fit.mk (by show (-9223372036854775808 : Int) ≤ v.tdiv 2; omega) (by show v.tdiv 2 ≤ 9223372036854775807; omega) fun y hy => ?_
  have hy : y = (w - 1) / 2 := hy.trans hdv
  conv => cbv
  refine RetF.mk [.iface 249 (.p (.int .i64 (.sym y)))] [] 0 (Re.at [] []) rfl ⟨.place y (by omega) hy,rfl,rfl⟩
 ·have g : ¬ u = 1 := g
  conv => cbv
  have hdv : w.tdiv 2 = w / 2 := Int.tdiv_eq_ediv_of_dvd (by omega)
  refine Fit.mk (by show (-9223372036854775808 : Int) ≤ w.tdiv 2; omega) (by show w.tdiv 2 ≤ 9223372036854775807; omega) fun y hy => ?_
  conv => cbv
  refine RetF.mk [.iface 283 (.p (.int .i64 (.sym y)))] [] 0 (Re.at [] []) rfl ⟨.number y (by omega) (hy.trans hdv),rfl,rfl⟩
theorem isPtr_lx (w : Int) (hw : -9223372036854775808 ≤ w ∧ w ≤ 9223372036854775807) : CallF (fun _ => Tryz.prog) 125 [i6 w] [] 0 (fun r h n => ∃ b : Bool,r = .p (.bool b) ∧ h = [] ∧ n = 0 ∧ (b = true ↔ w % 2 = 1)) := by
 refine callF_of_body tok Tryz.func125 (by kernel_rfl) rfl rfl rfl ?_; conv => cbv
 refine callF_frame (meaning_lx w hw) [] rfl trivial rfl rfl (fun r h' n' hrr => ?_)
 obtain ⟨hm,e2,e3⟩ := hrr
 subst e2 e3
 cases hm with
 | place x h hx =>
  conv => cbv
  refine RetF.mk [.p (.bool true)] [] 0 (Re.at [] []) rfl ⟨true,rfl,rfl,rfl,fun _ => h,fun _ => rfl⟩
 | number x h hx =>
  conv => cbv
  refine RetF.mk [.p (.bool false)] [] 0 (Re.at [] []) rfl ⟨false,rfl,rfl,rfl,fun k => (by cases k),fun k => absurd k h⟩
theorem atV_lx (w : Int) (hw : -9223372036854775808 ≤ w ∧ w ≤ 9223372036854775807) : CallF (fun _ => Tryz.prog) 135 [i6 w] [] 0 (fun r h n => ∃ x : Int,r = .p (.int .i64 (.sym x)) ∧ h = [] ∧ n = 0 ∧ (w % 2 = 1 → x = (w - 1) / 2) ∧ (¬ w % 2 = 1 → x = -1)) := by
 refine callF_of_body tok Tryz.func135 (by kernel_rfl) rfl rfl rfl ?_; conv => cbv
 refine callF_frame (meaning_lx w hw) [] rfl trivial rfl rfl (fun r h' n' hrr => ?_)
 obtain ⟨hm,e2,e3⟩ := hrr
 subst e2 e3
 cases hm with
 | place x h hx =>
  conv => cbv
  refine RetF.mk [i6 x] [] 0 (Re.at [] []) rfl ⟨x,rfl,rfl,rfl,fun _ => hx,fun k => absurd h k⟩
 | number x h hx =>
  conv => cbv
  refine RetF.mk [i6 (-1)] [] 0 (Re.at [] []) rfl ⟨-1,rfl,rfl,rfl,fun k => absurd k h,fun _ => rfl⟩
end Go.Proofs.YtcbombkaacjngaaGreatDoor
namespace Go.Proofs.YtcbombkaacjngaaGreatDoor
open Go Go.LX
set_option maxRecDepth 100000
set_option linter.unusedVariables false
set_option linter.unusedSimpArgs false
set_option maxHeartbeats 32000000
def objs (R : List Rw) : List Int := objsTo R R.length
def K1 (R : List Rw) (ws : List Int) : Prop := ∀ a k l,Kept R ws a k l → 1 ≤ k
structure HM (R : List Rw) (ws C G : List Int) (N W : Int) (L D Q : List PV) (z : ByteArray) : Prop where
 a : AOk R ws
 k : K1 R ws
 n : N = R.length
 r : R.length ≤ 1000
 w : W = 32 * N
 l : L = rpv R
 d : D = ipv ws
 q : Q = ipv C
 c : (C.length : Int) = W
 z : z = ⟨(enc G).toArray⟩
 g : ∀ x ∈ G,0 ≤ x ∧ x < W
 g8 : G.length ≤ 8
def shade (R : List Rw) (ph a : Int) (s : List Int × List Int × Bool) : List Int × List Int × Bool :=
 if ph = 1 ∧ a ∈ objs R ∧ s.1[a.toNat]? = some 0 then (s.1.set a.toNat 1,if s.2.1.length < 8 then (s.2.1 ++ [a],s.2.2) else (s.2.1,true)) else s
theorem obj_iff {R : List Rw} {ws : List Int} (hA : AOk R ws) (a : Int) : a ∈ objs R ↔ IsObj R a := objs_mem hA.rows a
theorem obj_bd {R : List Rw} {ws : List Int} (hA : AOk R ws) {a : Int} (h : a ∈ objs R) : 0 ≤ a ∧ a < 32 * R.length := by
 obtain ⟨k,l,hk⟩ := Kept.of hA ((obj_iff hA a).1 h)
 have := hk.bounds hA
 omega
theorem HM.g64 {R : List Rw} {ws C G : List Int} {N W : Int} {L D Q : List PV} {z : ByteArray} (h : HM R ws C G N W L D Q z) : ∀ x ∈ G,i64 x := by
 intro x hx
 have h1 := h.g x hx; have h2 := h.w; have h3 := h.n; have h4 := h.r
 exact ⟨by omega,by omega⟩
theorem HM.shade {R : List Rw} {ws C G C' G' : List Int} {N W : Int} {L D Q Q' : List PV} {z z' : ByteArray} {ph a : Int} {ov ov' : Bool} (h : HM R ws C G N W L D Q z) (hs : (C',G',ov') = shade R ph a (C,G,ov)) (hQ : Q' = ipv C') (hz : z' = ⟨(enc G').toArray⟩) : HM R ws C' G' N W L D Q' z' := by
 unfold Go.Proofs.YtcbombkaacjngaaGreatDoor.shade at hs
 split at hs
 ·rename_i hc
  have hb := obj_bd h.a hc.2.1
  have hn := h.n; have hw := h.w
  split at hs
  ·rename_i h8
   have h8 : G.length < 8 := h8
   have hl8 : (G ++ [a]).length ≤ 8 := by rw [List.length_append]; show G.length + 1 ≤ 8; omega
   cases hs
   refine ⟨h.a,h.k,h.n,h.r,h.w,h.l,h.d,hQ,by rw [List.length_set]; exact h.c,hz,fun x hx => ?_,hl8⟩
   rcases List.mem_append.1 hx with hx | hx
   ·exact h.g x hx
   ·rw [List.mem_singleton.1 hx]; omega
  ·cases hs
   exact ⟨h.a,h.k,h.n,h.r,h.w,h.l,h.d,hQ,by rw [List.length_set]; exact h.c,hz,h.g,h.g8⟩
 ·cases hs
  exact ⟨h.a,h.k,h.n,h.r,h.w,h.l,h.d,hQ,h.c,hz,h.g,h.g8⟩
theorem ipv_set (l : List Int) (i : Nat) (x : Int) : (ipv l).set i (.int .i64 (.sym x)) = ipv (l.set i x) := by
 unfold ipv
 rw [List.map_set]
theorem arena_lx (R : List Rw) (ws C G : List Int) (N W ph sp cy : Int) (L D Q : List PV) (z : ByteArray) (ov : Bool) : CallF (fun _ => Tryz.prog) 54 [.ptr 0 (.lit 0)] [hpA 0 1 5 6 3 W ph sp cy,hpB 1 2 4 3 W,hpC 2 3 270 2 N,hpP 3 L,hpP 4 D,hpF 5 z ov,hpP 6 Q] 7 (fun r h n => r = .ptr 1 (.lit 0) ∧ h = [hpA 0 1 5 6 3 W ph sp cy,hpB 1 2 4 3 W,hpC 2 3 270 2 N,hpP 3 L,hpP 4 D,hpF 5 z ov,hpP 6 Q] ∧ n = 7) := by
 refine callF_of_body tok Tryz.func54 (by kernel_rfl) rfl rfl rfl ?_; conv => cbv
 refine RetF.mk [.ptr 1 (.lit 0)] [hpA 0 1 5 6 3 W ph sp cy,hpB 1 2 4 3 W,hpC 2 3 270 2 N,hpP 3 L,hpP 4 D,hpF 5 z ov,hpP 6 Q] 7 (Re.at [(0,0),(1,1),(2,2),(3,3),(4,4),(5,5),(6,6)] []) rfl ⟨rfl,rfl,rfl⟩
theorem phase_lx (R : List Rw) (ws C G : List Int) (N W ph sp cy : Int) (L D Q : List PV) (z : ByteArray) (ov : Bool) : CallF (fun _ => Tryz.prog) 56 [.ptr 0 (.lit 0)] [hpA 0 1 5 6 3 W ph sp cy,hpB 1 2 4 3 W,hpC 2 3 270 2 N,hpP 3 L,hpP 4 D,hpF 5 z ov,hpP 6 Q] 7 (fun r h n => r = .p (.int .i64 (.sym ph)) ∧ h = [hpA 0 1 5 6 3 W ph sp cy,hpB 1 2 4 3 W,hpC 2 3 270 2 N,hpP 3 L,hpP 4 D,hpF 5 z ov,hpP 6 Q] ∧ n = 7) := by
 refine callF_of_body tok Tryz.func56 (by kernel_rfl) rfl rfl rfl ?_; conv => cbv
 refine RetF.mk [i6 ph] [hpA 0 1 5 6 3 W ph sp cy,hpB 1 2 4 3 W,hpC 2 3 270 2 N,hpP 3 L,hpP 4 D,hpF 5 z ov,hpP 6 Q] 7 (Re.at [(0,0),(1,1),(2,2),(3,3),(4,4),(5,5),(6,6)] []) rfl ⟨rfl,rfl,rfl⟩
theorem cyclesH_lx (R : List Rw) (ws C G : List Int) (N W ph sp cy : Int) (L D Q : List PV) (z : ByteArray) (ov : Bool) : CallF (fun _ => Tryz.prog) 81 [.ptr 0 (.lit 0)] [hpA 0 1 5 6 3 W ph sp cy,hpB 1 2 4 3 W,hpC 2 3 270 2 N,hpP 3 L,hpP 4 D,hpF 5 z ov,hpP 6 Q] 7 (fun r h n => r = .p (.int .i64 (.sym cy)) ∧ h = [hpA 0 1 5 6 3 W ph sp cy,hpB 1 2 4 3 W,hpC 2 3 270 2 N,hpP 3 L,hpP 4 D,hpF 5 z ov,hpP 6 Q] ∧ n = 7) := by
 refine callF_of_body tok Tryz.func81 (by kernel_rfl) rfl rfl rfl ?_; conv => cbv
 refine RetF.mk [i6 cy] [hpA 0 1 5 6 3 W ph sp cy,hpB 1 2 4 3 W,hpC 2 3 270 2 N,hpP 3 L,hpP 4 D,hpF 5 z ov,hpP 6 Q] 7 (Re.at [(0,0),(1,1),(2,2),(3,3),(4,4),(5,5),(6,6)] []) rfl ⟨rfl,rfl,rfl⟩
theorem is_lx (R : List Rw) (ws C G : List Int) (N W ph sp cy : Int) (L D Q : List PV) (z : ByteArray) (ov : Bool) (h : HM R ws C G N W L D Q z) (a c : Int) : CallF (fun _ => Tryz.prog) 177 [.ptr 0 (.lit 0),i6 a,i6 c] [hpA 0 1 5 6 3 W ph sp cy,hpB 1 2 4 3 W,hpC 2 3 270 2 N,hpP 3 L,hpP 4 D,hpF 5 z ov,hpP 6 Q] 7 (fun r h n => ∃ b : Bool,r = .p (.bool b) ∧ h = [hpA 0 1 5 6 3 W ph sp cy,hpB 1 2 4 3 W,hpC 2 3 270 2 N,hpP 3 L,hpP 4 D,hpF 5 z ov,hpP 6 Q] ∧ n = 7 ∧ (b = true ↔ a ∈ objs R ∧ C[a.toNat]? = some c)) := by
 have hCl := h.c; have hWn := h.w; have hNr := h.n
 have hQl : Q.length = C.length := by rw [h.q,ipv_length]
 refine callF_of_body tok Tryz.func177 (by kernel_rfl) rfl rfl rfl ?_; conv => cbv
 refine cfr (arena_lx R ws C G N W ph sp cy L D Q z ov) [(0,0),(1,1),(2,2),(3,3),(4,4),(5,5),(6,6)] (fun r h' n' ⟨e1,e2,e3⟩ => ?_)
 subst e1 e2 e3
 conv => cbv
 refine cfr (kind_lx R ws N a W L D h.l h.d h.n h.r h.a h.w) [(0,1),(1,2),(2,3),(3,4)] (fun r h' n' hrr => ?_)
 obtain ⟨v,e1,e2,e3,hv⟩ := hrr
 subst e1 e2 e3
 conv => cbv
 refine Br.mk (fun g => ?_) (fun g => ?_)
 ·have g : v ≠ 0 := g
  obtain ⟨l,hk⟩ : ∃ l,Kept R ws a v l := by
   cases hv with
   | no hn => exact absurd rfl g
   | is k l hk => exact ⟨l,hk⟩
  have hb := hk.bounds h.a
  have ho : a ∈ objs R := (obj_iff h.a a).2 hk.obj6
  obtain ⟨x,hx⟩ : ∃ x,C[a.toNat]? = some x := ⟨_,List.getElem?_eq_getElem (by omega)⟩
  have hq : Q[a.toNat]? = some (.int .i64 (.sym x)) := by rw [h.q]; exact ipv_get hx
  conv => cbv
  refine Need.mk ⟨by show 0 ≤ a; omega,by show a < W; omega⟩ ?_
  conv => cbv
  refine Cell.at a _ hq (by simp [I.val]) rfl ?_
  conv => cbv
  refine Br.mk (fun g2 => ?_) (fun g2 => ?_)
  ·have g2 : x = c := g2
   conv => cbv
   refine RetF.mk [.p (.bool true)] [hpA 0 1 5 6 3 W ph sp cy,hpB 1 2 4 3 W,hpC 2 3 270 2 N,hpP 3 L,hpP 4 D,hpF 5 z ov,hpP 6 Q] 7 (Re.at [(0,0),(1,1),(2,2),(3,3),(4,4),(5,5),(6,6)] []) rfl ⟨true,rfl,rfl,rfl,fun _ => ⟨ho,by rw [hx,g2]⟩,fun _ => rfl⟩
  ·have g2 : ¬ x = c := g2
   conv => cbv
   refine RetF.mk [.p (.bool false)] [hpA 0 1 5 6 3 W ph sp cy,hpB 1 2 4 3 W,hpC 2 3 270 2 N,hpP 3 L,hpP 4 D,hpF 5 z ov,hpP 6 Q] 7 (Re.at [(0,0),(1,1),(2,2),(3,3),(4,4),(5,5),(6,6)] []) rfl ⟨false,rfl,rfl,rfl,fun k => (by cases k),fun h => absurd (Option.some.inj (hx.symm.trans h.2)) g2⟩
 ·have g : ¬ v ≠ 0 := g
  have hno : ¬ a ∈ objs R := by
   intro ho
   cases hv with
   | no hn => exact hn ((obj_iff h.a a).1 ho)
   | is k l hk => have := h.k a v l hk; omega
  conv => cbv
  refine RetF.mk [.p (.bool false)] [hpA 0 1 5 6 3 W ph sp cy,hpB 1 2 4 3 W,hpC 2 3 270 2 N,hpP 3 L,hpP 4 D,hpF 5 z ov,hpP 6 Q] 7 (Re.at [(0,0),(1,1),(2,2),(3,3),(4,4),(5,5),(6,6)] []) rfl ⟨false,rfl,rfl,rfl,fun k => (by cases k),fun h => absurd h.1 hno⟩
theorem shade_lx (R : List Rw) (ws C G : List Int) (N W ph sp cy : Int) (L D Q : List PV) (z : ByteArray) (ov : Bool) (h : HM R ws C G N W L D Q z) (o : Unit → Obj) (ho : IsPow o) (a : Int) : CallF (fun _ => Tryz.prog) 100 [.ptr 0 (.lit 0),i6 a] [hpA 0 1 5 6 3 W ph sp cy,hpB 1 2 4 3 W,hpC 2 3 270 2 N,hpP 3 L,hpP 4 D,hpF 5 z ov,hpP 6 Q,(7,.fix 0 o)] 8 (fun r h n => ∃ (C' G' : List Int) (ov' : Bool) (Q' : List PV) (z' : ByteArray),r = .tup [] ∧ h = [hpA 0 1 5 6 3 W ph sp cy,hpB 1 2 4 3 W,hpC 2 3 270 2 N,hpP 3 L,hpP 4 D,hpF 5 z' ov',hpP 6 Q',(7,.fix 0 o)] ∧ n = 8 ∧ HM R ws C' G' N W L D Q' z' ∧ (C',G',ov') = shade R ph a (C,G,ov)) := by
 have hCl := h.c; have hWn := h.w; have hNr := h.n; have hRr := h.r
 have hQl : Q.length = C.length := by rw [h.q,ipv_length]
 refine callF_of_body tok Tryz.func100 (by kernel_rfl) rfl rfl rfl ?_; conv => cbv
 refine cfr (phase_lx R ws C G N W ph sp cy L D Q z ov) [(0,0),(1,1),(2,2),(3,3),(4,4),(5,5),(6,6)] (fun r h' n' ⟨e1,e2,e3⟩ => ?_)
 subst e1 e2 e3
 conv => cbv
 refine Br.mk (fun g => ?_) (fun g => ?_)
 ·have g : ph ≠ 1 := g
  conv => cbv
  refine RetF.mk [] [hpA 0 1 5 6 3 W ph sp cy,hpB 1 2 4 3 W,hpC 2 3 270 2 N,hpP 3 L,hpP 4 D,hpF 5 z ov,hpP 6 Q,(7,.fix 0 o)] 8 (Re.at [(0,0),(1,1),(2,2),(3,3),(4,4),(5,5),(6,6),(7,7)] []) rfl ⟨C,G,ov,Q,z,rfl,rfl,rfl,h,by unfold Go.Proofs.YtcbombkaacjngaaGreatDoor.shade; rw [if_neg (fun k => g k.1)]⟩
 ·have g : ¬ ph ≠ 1 := g
  have g : ph = 1 := by omega
  conv => cbv
  refine CallF.le (args0 := [.ptr 0 (.lit 0),i6 a,i6 0]) (cfr (is_lx R ws C G N W ph sp cy L D Q z ov h a 0) [(0,0),(1,1),(2,2),(3,3),(4,4),(5,5),(6,6)] (fun r h' n' hrr => ?_)) (by simp [ales,ale,pvle,I.val])
  obtain ⟨b,e1,e2,e3,hb⟩ := hrr
  subst e1 e2 e3
  cases b with
  | false =>
   conv => cbv
   refine RetF.mk [] [hpA 0 1 5 6 3 W ph sp cy,hpB 1 2 4 3 W,hpC 2 3 270 2 N,hpP 3 L,hpP 4 D,hpF 5 z ov,hpP 6 Q,(7,.fix 0 o)] 8 (Re.at [(0,0),(1,1),(2,2),(3,3),(4,4),(5,5),(6,6),(7,7)] []) rfl ⟨C,G,ov,Q,z,rfl,rfl,rfl,h,by unfold Go.Proofs.YtcbombkaacjngaaGreatDoor.shade; rw [if_neg (fun k => by have := hb.2 k.2; cases this)]⟩
  | true =>
   have hbd := obj_bd h.a (hb.1 rfl).1
   conv => cbv
   refine Need.mk ⟨by show 0 ≤ a; omega,by show a < W; omega⟩ ?_
   conv => cbv
   refine Need.mk (by show a + 1 ≤ (Q.length : Int); omega) ?_
   conv => cbv
   refine Upd.mk fun Q2 hQ2 => ?_
   obtain ⟨Q3,hQ3⟩ : ∃ Q3,Q3 = ipv (C.set a.toNat 1) := ⟨_,rfl⟩
   have hle : pvles Q2 Q3 := by
    have hQ2 : Q2 = Q.set a.toNat (.int .i64 (.lit 1)) := hQ2
    rw [hQ2,hQ3,h.q,← ipv_set]
    exact pvles_set _ _ _ _ _ (pvles_refl _) (by simp [pvle,I.val])
   unfold pvles at hle
   clear hQ2
   conv => cbv
   refine cfr (greyPush_lx G a z ov o ho h.z h.g64 h.g8 ⟨by omega,by omega⟩) [(0,7),(1,5)] (fun r h' n' hrr => ?_)
   obtain ⟨b2,ov',z',G',e1,e2,e3,hz',hp1,hp2⟩ := hrr
   subst e1 e2 e3
   have hsh : (C.set a.toNat 1,G',ov') = Go.Proofs.YtcbombkaacjngaaGreatDoor.shade R ph a (C,G,ov) := by
    unfold Go.Proofs.YtcbombkaacjngaaGreatDoor.shade
    rw [if_pos ⟨g,hb.1 rfl⟩]
    dsimp only
    split
    ·obtain ⟨_,q1,q2⟩ := hp1 (by assumption)
     rw [q1,q2]
    ·obtain ⟨_,q1,q2⟩ := hp2 (by omega)
     rw [q1,q2]
   conv => cbv
   refine RetF.mk [] [hpA 0 1 5 6 3 W ph sp cy,hpB 1 2 4 3 W,hpC 2 3 270 2 N,hpP 3 L,hpP 4 D,hpF 5 z' ov',hpP 6 Q3,(7,.fix 0 o)] 8 (Re.at [(0,0),(1,1),(2,2),(3,3),(4,4),(5,5),(6,6),(7,7)] []) rfl ⟨_,G',ov',Q3,z',rfl,rfl,rfl,h.shade hsh hQ3 hz',hsh⟩
def shadeW (R : List Rw) (ph w : Int) (s : List Int × List Int × Bool) : List Int × List Int × Bool := if w % 2 = 1 then shade R ph ((w - 1) / 2) s else s
theorem shadeWord_lx (R : List Rw) (ws C G : List Int) (N W ph sp cy : Int) (L D Q : List PV) (z : ByteArray) (ov : Bool) (h : HM R ws C G N W L D Q z) (o : Unit → Obj) (ho : IsPow o) (w : Int) (hw : -9223372036854775808 ≤ w ∧ w ≤ 9223372036854775807) : CallF (fun _ => Tryz.prog) 59 [.ptr 0 (.lit 0),i6 w] [hpA 0 1 5 6 3 W ph sp cy,hpB 1 2 4 3 W,hpC 2 3 270 2 N,hpP 3 L,hpP 4 D,hpF 5 z ov,hpP 6 Q,(7,.fix 0 o)] 8 (fun r h n => ∃ (C' G' : List Int) (ov' : Bool) (Q' : List PV) (z' : ByteArray),r = .tup [] ∧ h = [hpA 0 1 5 6 3 W ph sp cy,hpB 1 2 4 3 W,hpC 2 3 270 2 N,hpP 3 L,hpP 4 D,hpF 5 z' ov',hpP 6 Q',(7,.fix 0 o)] ∧ n = 8 ∧ HM R ws C' G' N W L D Q' z' ∧ (C',G',ov') = shadeW R ph w (C,G,ov)) := by
 refine callF_of_body tok Tryz.func59 (by kernel_rfl) rfl rfl rfl ?_; conv => cbv
 refine callF_frame (isPtr_lx w hw) [] rfl trivial rfl rfl (fun r h' n' hrr => ?_)
 obtain ⟨b,e1,e2,e3,hb⟩ := hrr
 subst e1 e2 e3
 cases b with
 | false =>
  have hb : ¬ w % 2 = 1 := fun k => by have := hb.2 k; cases this
  conv => cbv
  refine RetF.mk [] [hpA 0 1 5 6 3 W ph sp cy,hpB 1 2 4 3 W,hpC 2 3 270 2 N,hpP 3 L,hpP 4 D,hpF 5 z ov,hpP 6 Q,(7,.fix 0 o)] 8 (Re.at [(0,0),(1,1),(2,2),(3,3),(4,4),(5,5),(6,6),(7,7)] []) rfl ⟨C,G,ov,Q,z,rfl,rfl,rfl,h,by unfold shadeW; rw [if_neg (by omega)]⟩
 | true =>
  have hb : w % 2 = 1 := hb.1 rfl
  conv => cbv
  refine callF_frame (atV_lx w hw) [] rfl trivial rfl rfl (fun r h' n' hrr => ?_)
  obtain ⟨x,e1,e2,e3,hx⟩ := hrr
  subst e1 e2 e3
  have hx : x = (w - 1) / 2 := hx.1 hb
  conv => cbv
  refine cfr (shade_lx R ws C G N W ph sp cy L D Q z ov h o ho x) [(0,0),(1,1),(2,2),(3,3),(4,4),(5,5),(6,6),(7,7)] (fun r h' n' hrr => ?_)
  obtain ⟨C',G',ov',Q',z',e1,e2,e3,h2,hs⟩ := hrr
  subst e1 e2 e3
  conv => cbv
  refine RetF.mk [] [hpA 0 1 5 6 3 W ph sp cy,hpB 1 2 4 3 W,hpC 2 3 270 2 N,hpP 3 L,hpP 4 D,hpF 5 z' ov',hpP 6 Q',(7,.fix 0 o)] 8 (Re.at [(0,0),(1,1),(2,2),(3,3),(4,4),(5,5),(6,6),(7,7)] []) rfl ⟨C',G',ov',Q',z',rfl,rfl,rfl,h2,by unfold shadeW; rw [if_pos hb,← hx]; exact hs⟩
end Go.Proofs.YtcbombkaacjngaaGreatDoor
