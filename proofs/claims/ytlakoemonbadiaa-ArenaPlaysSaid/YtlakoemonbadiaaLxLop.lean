/-
  All operations in one sentence.
-/
import Derived.Test.YtlakoemonbadiaaLxApp
namespace Go.LX
open Go

section
variable {P : Program} {T : TT} {o : Oper} {s : LS} {K : LS → Prop} {c : Ctx} {a : Act} {w w' : World} {Q : Exit → Act → World → Prop}

set_option maxHeartbeats 1000000 in
theorem lop_sound (hT : TOK P T) (hs : St c s a w) (h : lop (fun _ => P) (fun _ => T) o s K) : o.wp P a w (Post K c w) Q := by
  unfold lop at h
  split at h
  · rename_i x ho; exact lop_move (.inl ho) hs h
  · rename_i x ho; exact lop_move (.inr ho) hs h
  · rename_i c0 x y ho
    split at h
    · rename_i b hb
      refine lop_pick ho hs hb ?_
      cases b <;> exact h
    · exact h.elim
  · rename_i op t x y t2 ho; exact lop_bin hT ho hs h
  · rename_i op t x ho
    split at h
    · split at h
      · rename_i b hb
        refine lop_not ho hs hb ?_
        cases b <;> exact h
      · exact h.elim
    · split at h
      · rename_i k e hb; exact lop_neg ho hs hb h
      · exact h.elim
    · exact h.elim
  · rename_i x ho; exact lop_nilCheck ho hs h
  · rename_i t ho
    split at h
    · rename_i ti ht
      split at h
      · split at h
        · rename_i l hz; exact lop_allocB hT ht hz ho hs h
        · exact h.elim
      · exact lop_alloc hT ht ho hs h
    · exact h.elim
  · rename_i t x ho
    split at h
    · rename_i hok; exact lop_box ho hs hok h
    · exact h.elim
  · rename_i t parts ho
    split at h
    · rename_i ti ht
      split at h
      · rename_i hk
        split at h
        · rename_i cs hf; exact lop_build hT ht hk ho hs hf h
        · exact h.elim
      · exact h.elim
    · exact h.elim
  · rename_i t len parts ho
    split at h
    · rename_i ti ht
      split at h
      · rename_i e hk
        split at h
        · rename_i te hte
          split at h
          · rename_i h1 h2 h3
            split at h
            · rename_i cs hf
              have h2 := Nat.eq_of_beq_eq_true h2
              rw [llen_eq, pvs_length] at h2
              exact lop_buildSlice hT ht hk hte (Nat.le_of_ble_eq_true h1) ho hs hf h2 (Nat.le_of_ble_eq_true h3) h
            · exact h.elim
          · exact h.elim
        · exact h.elim
      · exact h.elim
    · exact h.elim
  · rename_i t x ho
    split at h
    · rename_i ti ht; exact lop_load hT ht ho hs h
    · exact h.elim
  · rename_i t x y ho
    split at h
    · rename_i ti ht; exact lop_store hT ht ho hs h
    · exact h.elim
  · rename_i t x f ho
    split at h
    · rename_i ti ht
      split at h
      · rename_i fs hk
        split at h
        · rename_i off ft hf
          split at h
          · rename_i tf htf
            split at h
            · rename_i h1; exact lop_fieldAddr hT ht hk hf htf (Nat.le_of_ble_eq_true h1) ho hs h
            · exact h.elim
          · exact h.elim
        · exact h.elim
      · exact h.elim
    · exact h.elim
  · rename_i t x f ho
    split at h
    · rename_i ti ht
      split at h
      · rename_i fs hk
        split at h
        · rename_i off ft hf
          split at h
          · rename_i tf htf
            split at h
            · rename_i l hl
              split at h
              · rename_i vs hg; exact lop_field hT ht hk hf htf ho hs hl hg h
              · exact h.elim
            · exact h.elim
          · exact h.elim
        · exact h.elim
      · exact h.elim
    · exact h.elim
  · rename_i t x y ho
    split at h
    · rename_i ti ht
      split at h
      · rename_i k i hi
        split at h
        · rename_i e hk
          split at h
          · rename_i te hte; exact lop_indexAddr hT ht hk hte hi ho hs h
          · exact h.elim
        · rename_i n e hk
          split at h
          · rename_i te hte
            split at h
            · rename_i b o' hx
              split at h
              · rename_i B hB; exact lop_indexArr hT ht hk hte hi ho hs hx ⟨B, hB⟩ h
              · exact h.elim
            · exact h.elim
          · exact h.elim
        · exact h.elim
      · exact h.elim
    · exact h.elim
  · rename_i t x y ho
    split at h
    · rename_i ti ht
      split at h
      · rename_i hk
        split at h
        · rename_i z k i hx hi; exact lop_index hT ht hk hx hi ho hs h
        · exact h.elim
      · exact h.elim
    · exact h.elim
  · rename_i t x lo hi ho
    split at h
    · rename_i ti ht
      split at h
      · rename_i hk
        split at h
        · rename_i z hx; exact lop_sliceStr hT ht hk hx ho hs h
        · exact h.elim
      · rename_i e hk
        split at h
        · rename_i te hte; exact lop_sliceSl hT ht hk hte ho hs h
        · exact h.elim
      · exact h.elim
    · exact h.elim
  · rename_i src dst x ho
    split at h
    · rename_i ts ti hts ht
      split at h
      · rename_i k hk
        split at h
        · rename_i k' e hev; exact lop_convInt hT hts ht ho hs hk h hev
        · exact h.elim
      · rename_i hk
        split at h
        · rename_i k' e hev; exact lop_convRune hT hts ht ho hs hk hev h
        · rename_i z hev; exact lop_convStr hT hts ht ho hs hk hev h
        · exact lop_convBytes hT hts ht ho hs hk h
      · exact h.elim
    · exact h.elim
  · rename_i t len cap ho
    split at h
    · rename_i ti ht
      split at h
      · rename_i e hk
        split at h
        · rename_i te hte
          split at h
          · rename_i h1 h2
            split at h
            · rename_i kn n km m hn hm; exact lop_makeSlice hT ht hk hte h1 h2 hn hm ho hs h
            · exact h.elim
          · exact h.elim
        · exact h.elim
      · exact h.elim
    · exact h.elim
  · rename_i t x ho
    split at h
    · rename_i ti ht
      split at h
      · exact h.elim
      · rename_i hk; exact lop_makeInterface hT ht hk ho hs h
    · exact h.elim
  · rename_i x xt t ok ho
    split at h
    · split at h
      · rename_i ti ht
        split at h
        · exact h.elim
        · rename_i hk; exact lop_typeAssert hT ht hk ho hs h
      · exact h.elim
    · exact h.elim
  · rename_i x i ho
    split at h
    · rename_i l hl
      split at h
      · rename_i v hv; exact lop_extract ho hs hl hv h
      · exact h.elim
    · exact h.elim
  · rename_i t x ho
    split at h
    · rename_i ti ht
      split at h
      · rename_i z hk hx; exact lop_range hT ht hk hx ho hs h
      · exact h.elim
    · exact h.elim
  · rename_i x isS ho
    split at h
    · split at h
      · rename_i b m hx
        split at h
        · rename_i z pos hB
          split at h
          · rename_i h0; exact lop_next ho hs (of_decide_eq_true h0) hx hB h
          · exact h.elim
        · exact h.elim
      · exact h.elim
    · exact h.elim
  · rename_i fn first cap ho
    split at h
    · rename_i f hf; exact lop_makeFunc ho hf hs h
    · exact h.elim
  · rename_i cl ho
    split at h
    · rename_i f hcl; exact lop_call ho hcl hs h
    · rename_i b hcl
      split at h
      · rename_i x hargs
        split at h
        · rename_i t hty
          split at h
          · rename_i ti ht; exact lop_len hT ho hcl hargs hty ht hs h
          · exact h.elim
        · exact h.elim
      · rename_i x y hargs
        split at h
        · rename_i t u hty
          split at h
          · rename_i ti ht htu
            have htu := Nat.eq_of_beq_eq_true htu
            subst htu
            split at h
            · rename_i e hk
              split at h
              · rename_i te hte
                exact lop_append hT ho hcl hargs (by cases h0 : cl.argTypes; rw [h0] at hty; simp at hty; rw [hty]) ht hk hte hs h
              · exact h.elim
            · exact h.elim
          · rename_i ti ht htu
            split at h
            · rename_i e hk hk'
              split at h
              · rename_i te hte
                exact lop_appendS hT ho hcl hargs (by cases h0 : cl.argTypes; rw [h0] at hty; simp at hty; rw [hty]) ht hk hk' hte hs h
              · exact h.elim
            · exact h.elim
          · exact h.elim
        · exact h.elim
      · rename_i x hargs
        split at h
        · rename_i t hty
          split at h
          · rename_i ti ht; exact lop_cap hT ho hcl hargs hty ht hs h
          · exact h.elim
        · exact h.elim
      · rename_i k x k' y hargs; exact lop_min ho hcl hargs hs h
      · rename_i k x k' y hargs; exact lop_max ho hcl hargs hs h
      · rename_i x hargs
        split at h
        · rename_i t hty
          split at h
          · rename_i ti ht
            split at h
            · rename_i e hk
              split at h
              · rename_i te hte; exact lop_clear hT ho hcl hargs hty ht hk hte hs h
              · exact h.elim
            · exact h.elim
          · exact h.elim
        · exact h.elim
      · exact h.elim
    · exact h.elim
  · exact h.elim
end
end Go.LX
