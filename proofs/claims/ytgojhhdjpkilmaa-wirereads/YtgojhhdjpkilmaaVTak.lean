import Derived.Test.YtgojhhdjpkilmaaVRd3
namespace Go.Proofs.Ytgojhhdjpkilmaa.Wi
open Go.RowKit Go.Sort
attribute [local go_sem ↓] Go.wp_at_zero Go.wp_at_succ

theorem f300 : form 300 = [172, 2] := by rw [form_great (by decide), form_small (by decide)]; rfl
theorem fm1 : form (fold (-1)) = [1] := by rw [show fold (-1) = 1 from rfl, form_small (by decide)]; rfl
theorem fl_map (l : List UInt8) : fl EB l = l.map bv := by
  induction l with
  | nil => rfl
  | cons x l ih => rw [fl_cons, ih]; rfl
/-- Bytes that were laid by a literal. -/
theorem ls_lit {w : World} {b n : Nat} {cs : Array Value} {te : TypeId} (l : List UInt8) (h : w.heap[b]? = some (.cells cs te (0, 0))) (hc : cs.toList = l.map bv) (hn : n = l.length) (c : Nat) : Ls EB w (.slice (some ⟨b, 0, none⟩) n c) l := by
  subst hn
  refine Or.inr ⟨b, 0, c, rfl, (Array.getElem?_eq_some_iff.1 h).1, fun j u hj => ?_⟩
  rw [fl_map, ← hc] at hj
  rw [Nat.zero_add]
  simp only [World.cell?, h]
  simpa using hj
set_option maxHeartbeats 4000000 in
theorem taken_any (w : World) : Calls Try.prog 8 #[] w fun e w' => e = .returned (.bool true) ∧ Below w.heap.size w w' := by
  have hst := @to_text
  go_enter Try.func8, Try.ntmps8
  go_wp2_with fail
  refine (newwriter_any _).mono ?_
  rintro r w1 ⟨wb, rfl, hge, hW, hg⟩
  have W1 := hid hW
  have GE := hid hge
  have B1 := hid hg.below
  clear hW hg hge
  go_wp2_with fail
  have hls : Ls EB (w1.alloc (.cells #[.int .u8 172, .int .u8 2, .int .u8 7] 5)) (.slice (some ⟨w1.heap.size, 0, none⟩) 3 3) [172, 2, 7] := ls_lit [172, 2, 7] (heap_new' _ _) rfl rfl 3
  have hnr := newreader_any _ hls (by simp)
  have hal := ((Gr.refl w1).alloc (.cells #[.int .u8 172, .int .u8 2, .int .u8 7] 5)).below
  refine hnr.mono ?_
  rintro r w2 ⟨rb, d, rfl, hge2, hR, hd, hb2⟩
  have B12 : Hid (Below w1.heap.size w1 w2) := hal.trans (hb2.mono hal.size)
  have R2 := hid hR
  have W2 := hid (W1.out.below B12.out)
  have RG : Hid (w1.heap.size ≤ rb) := Nat.le_trans hal.size hge2
  have hwr : Hid (wb < w1.heap.size) := W1.out.lt
  have D2 : Hid (∀ k, d.ownBlock = some k → w1.heap.size ≤ k) := fun k hk => Nat.le_trans hal.size (hd k hk)
  clear hnr hls hal hge2 hR hd hb2
  go_wp2_with fail
  refine (wnum_nil 1 _).mono ?_
  rintro r w3 ⟨rfl, rfl⟩
  go_wp2_with fail
  refine (wint_nil 1 (by decide) (by decide) _).mono ?_
  rintro r w3 ⟨rfl, rfl⟩
  go_wp2_with fail
  refine (wbyte_nil _ _).mono ?_
  rintro r w3 ⟨rfl, rfl⟩
  go_wp2_with fail
  refine (wbytes_nil _ _).mono ?_
  rintro r w4 ⟨rfl, h4⟩
  have B4 : Hid (Gr w3 w4) := by rw [h4]; exact (Gr.refl _).alloc _
  have W4 := hid (W2.out.gr B4.out)
  have R4 := hid (R2.out.gr B4.out)
  clear h4
  go_wp2_with fail
  refine (rend_nil _).mono ?_
  rintro r w5 ⟨rfl, rfl⟩
  go_wp2_with fail
  refine (wdata_nil _).mono ?_
  rintro r w5 ⟨rfl, rfl⟩
  go_wp2_with fail
  refine (werr_nil _).mono ?_
  rintro r w5 ⟨rfl, rfl⟩
  go_wp2_with fail
  refine (rnum_nil 9 _).mono ?_
  rintro r w5 ⟨rfl, rfl⟩
  go_wp2_with fail
  refine (rint_nil _).mono ?_
  rintro r w5 ⟨rfl, rfl⟩
  go_wp2_with fail
  refine (rbyte_nil _).mono ?_
  rintro r w5 ⟨rfl, rfl⟩
  go_wp2_with fail
  refine (rbytes_nil 9 _).mono ?_
  rintro r w5 ⟨rfl, rfl⟩
  go_wp2_with fail
  refine (rat_nil _).mono ?_
  rintro r w5 ⟨rfl, rfl⟩
  go_wp2_with fail
  refine (rerr_nil _).mono ?_
  rintro r w5 ⟨rfl, rfl⟩
  go_wp2_with fail
  refine (wnum_any 300 (by decide) _ W4.out (by simp)).mono ?_
  rintro r w6 ⟨v6, rfl, h6, t6⟩
  have hp6 : put 0 [] (form 300) = [172, 2] := by rw [f300]; rfl
  rw [hp6] at h6
  have W6 := hid h6
  have T6 := hid t6
  clear h6 t6 hp6
  go_wp2_with fail
  refine (wint_any (-1) (by decide) (by decide) _ W6.out (by simp)).mono ?_
  rintro r w7 ⟨v7, rfl, h7, t7⟩
  have hp7 : put 0 [172, 2] (form (fold (-1))) = [172, 2, 1] := by rw [fm1]; rfl
  rw [hp7] at h7
  have W7 := hid h7
  have T7 := hid (T6.out.trans t7)
  clear h7 t7 hp7 W6
  go_wp2_with fail
  refine (wdata_any _ W7.out (by simp)).mono ?_
  rintro r w8 ⟨d8, rfl, h8, b8⟩
  have L8 := ow_ls (owns_base h8 (Nat.zero_le _))
  have ht8 := to_text L8
  have K58 : Hid (Kp (fun k => k = wb) w5 w8) := by
    have := T7.out.1.trans (Kp.of_below (S := fun k => k = wb ∨ (Value.slice none 0 0).ownBlock = some k) b8) (fun _ _ h => h)
    exact this.mono (fun k hk => by simpa [Value.ownBlock] using hk)
  have R8 : Hid (Rd w8 rb d [172, 2, 7] 0 0) := R4.out.kp K58.out (fun e => by have := RG.out; have := hwr.out; omega) (fun k hk e => by have := D2.out k hk; have := hwr.out; omega)
  clear h8 b8 L8 W7 T6 T7
  go_wp2_with fail
  have hn := rnum_any 300 w8 R8.out
  rw [show rn 0 300 (List.drop 0 [172, 2, 7]) = (300, 2, 0) by decide] at hn
  refine hn.mono ?_
  rintro r w9 ⟨rfl, h9, k9⟩
  have R9 := hid h9
  have K9 := hid k9
  clear h9 k9 hn ht8
  go_wp2_with fail
  refine (rat_any _ R9.out).mono ?_
  rintro r w10 ⟨rfl, rfl⟩
  go_wp2_with fail
  have hn := rbyte_any w10 R9.out
  rw [show rb1 0 (List.drop (0 + 2) [172, 2, 7]) = (7, 1, 0) from rfl] at hn
  refine hn.mono ?_
  rintro r w11 ⟨rfl, h11, k11⟩
  have R11 := hid h11
  have K11 := hid k11
  clear h11 k11 hn
  go_wp2_with fail
  refine (rerr_any _ R11.out).mono ?_
  rintro r w12 ⟨rfl, rfl⟩
  go_wp2_with fail
  go_ret
  refine ⟨rfl, ?_⟩
  have b13 := B1.out.trans ((B12.out.trans (B4.out.below.mono B12.out.size)).mono B1.out.size)
  have b18 := b13.trans (K58.out.below b13.size (fun k hk => by subst hk; exact GE.out))
  have hrb : ∀ k, k = rb → w.heap.size ≤ k := fun k hk => by subst hk; exact Nat.le_trans B1.out.size RG.out
  have b19 := b18.trans (K9.out.below b18.size hrb)
  exact b19.trans (K11.out.below b19.size hrb)
end Go.Proofs.Ytgojhhdjpkilmaa.Wi
