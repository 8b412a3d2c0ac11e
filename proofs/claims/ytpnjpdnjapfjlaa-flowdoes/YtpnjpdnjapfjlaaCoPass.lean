import Derived.Test.YtpnjpdnjapfjlaaCoMap4
namespace Go.Proofs.Ytpnjpdnjapfjlaa.Cd
open Go.RowKit Go.Sort
attribute [local go_sem ↓] Go.wp_at_zero Go.wp_at_succ

/-- The closure of Pass. -/
theorem closeP_any {o : Op2} (hm : mayF o = true) {r : Rc} (b : Nat) (w : World) (h : w.heap[b]? = some (.cells #[.int .u64 r.key, .int .u64 r.val] 31 (0, 0))) : Calls Try.prog 57 #[ov o, .pointer (some ⟨b, 0, none⟩)] w fun e w' => e = .returned (.bool (!hld o r)) ∧ Gr w w' := by
  obtain ⟨lb, c, _⟩ := blk_at h
  have c0 := c 0
  have c1 := c 1
  simp at c0 c1
  have hh := fun W => holds_any hm r W
  generalize hld o r = q at hh ⊢
  clear h c
  go_enter Try.func57, Try.ntmps57
  go_wp2_with fail
  refine (hh _).mono ?_
  rintro e w1 ⟨rfl, g1⟩
  go_wp2_with fail
  go_ret
  exact ⟨by simp, ((Gr.refl w).alloc _).trans g1⟩
set_option maxHeartbeats 2000000 in
set_option maxRecDepth 100000 in
theorem pass_any {v : Value} {l : List Op2} (r : Rc) (w : World) (hv : Ls EO w v l) : Calls Try.prog 56 #[v, rv r] w fun e w' => e = .returned (.bool (passL l r)) ∧ Below w.heap.size w w' := by
  obtain ⟨p, c, rfl⟩ := hv.form
  have HV : Hid (Ls EO w (.slice p l.length c) l) := hv
  obtain ⟨q, hq⟩ : ∃ q, q = chk 3 l := ⟨_, rfl⟩
  have hck := fun (W : World) (h : Below w.heap.size w W) => check_any 3 W (HV.out.below h)
  rw [← hq] at hck
  have HQ := hid hq
  obtain ⟨z, hz⟩ : ∃ z, z = passL l r := ⟨_, rfl⟩
  rw [← hz]
  have HZ := hid hz
  clear hv hq hz
  go_enter Try.func56, Try.ntmps56
  go_upto_region 1 with fail
  obtain ⟨W2, hW2⟩ : ∃ W2, W2 = w.alloc (.cells #[.int .u64 r.key, .int .u64 r.val] 31) := ⟨_, rfl⟩
  have hG : Gr w W2 := by rw [hW2]; exact (Gr.refl w).alloc _
  have hb : W2.heap[w.heap.size]? = some (.cells #[.int .u64 r.key, .int .u64 r.val] 31 (0, 0)) := by rw [hW2]; exact heap_new' _ _
  obtain ⟨rb, hrb⟩ : ∃ rb, rb = w.heap.size := ⟨_, rfl⟩
  rw [← hW2, ← hrb]
  rw [← hrb] at hb
  clear hW2 hrb
  have hc1 := hck W2 hG.below
  clear hck
  go_wp2_with fail
  refine hc1.mono ?_
  rintro e w1 ⟨rfl, hB1⟩
  have h1 := (hB1.block rb (blk_at hb).1).trans hb
  have HB : Hid (Below w.heap.size w w1) := hG.below.trans (hB1.mono hG.size)
  clear hB1 hb hG hc1
  by_cases hq0 : q = 0
  · have hq1 : (q == 0) = true := by simpa using hq0
    have hq2 : (q != 0) = false := by simpa using hq0
    have hc0 : chk 3 l = 0 := by rw [← HQ.out]; exact hq0
    have hm : l.length ≤ maxLen := by have := (chk_ok hc0).2.1; unfold maxLen; omega
    have hcf := containsFunc_any _ l 57 #[.pointer (some ⟨rb, 0, none⟩)] (fun o => !hld o r) w1 (HV.out.below HB.out) hm (by intro args w; rfl) (fun W2 x hx h2 => closeP_any ((chk_ok hc0).2.2 x hx) _ W2 ((h2.below.block _ (blk_at h1).1).trans h1))
    have hzz : z = !(l.any fun o => !hld o r) := by
      rw [HZ.out]; unfold passL; rw [if_pos hc0]
      rw [List.not_any_eq_all_not]; simp
    clear hq0 hc0 hm h1
    obtain ⟨s, hs⟩ : ∃ s, s = l.any (fun o => !hld o r) := ⟨_, rfl⟩
    rw [← hs] at hcf hzz
    clear hs
    subst hzz
    go_wp2_with fail
    refine hcf.mono ?_
    rintro e w2 ⟨rfl, g2⟩
    go_wp2_with fail
    go_ret
    exact ⟨by simp, HB.out.trans (g2.below.mono HB.out.size)⟩
  · have hq1 : (q == 0) = false := by simpa using hq0
    have hq2 : (q != 0) = true := by simpa using hq0
    have hzz : z = false := by rw [HZ.out]; unfold passL; rw [if_neg (by rw [← HQ.out]; exact hq0)]
    clear hq0
    subst hzz
    go_wp2_with fail
    go_ret
    exact ⟨rfl, HB.out⟩
set_option maxHeartbeats 2000000 in
set_option maxRecDepth 100000 in
theorem rpass_any {v : Value} {l : List Op2} (r : Rc) (w : World) (hv : Ls EO w v l) : Calls Try.prog 19 #[v, rv r] w fun e w' => e = .returned (.bool (passL l r)) ∧ Below w.heap.size w w' := by
  obtain ⟨p, c, rfl⟩ := hv.form
  obtain ⟨n, hn⟩ : ∃ n, n = l.length := ⟨_, rfl⟩
  rw [← hn] at hv ⊢
  have HV := hid hv
  have HN := hid hn
  obtain ⟨q, hq⟩ : ∃ q, q = chk 3 l := ⟨_, rfl⟩
  have hck := fun (W : World) (h : Below w.heap.size w W) => rcheck_any 3 W (HV.out.below h)
  rw [← hq] at hck
  have HQ := hid hq
  obtain ⟨z, hz⟩ : ∃ z, z = passL l r := ⟨_, rfl⟩
  rw [← hz]
  have HZ := hid hz
  clear hv hq hz hn
  go_enter Try.func19, Try.ntmps19
  go_upto_region 1 with fail
  obtain ⟨W2, hW2⟩ : ∃ W2, W2 = w.alloc (.cells #[.int .u64 r.key, .int .u64 r.val] 31) := ⟨_, rfl⟩
  have hG : Gr w W2 := by rw [hW2]; exact (Gr.refl w).alloc _
  have hb : W2.heap[w.heap.size]? = some (.cells #[.int .u64 r.key, .int .u64 r.val] 31 (0, 0)) := by rw [hW2]; exact heap_new' _ _
  obtain ⟨rb, hrb⟩ : ∃ rb, rb = w.heap.size := ⟨_, rfl⟩
  rw [← hW2, ← hrb]
  rw [← hrb] at hb
  clear hW2 hrb
  have hc1 := hck W2 hG.below
  clear hck
  go_wp2_with fail
  refine hc1.mono ?_
  rintro e w1 ⟨rfl, hB1⟩
  have h1 := (hB1.block rb (blk_at hb).1).trans hb
  have HB : Hid (Below w.heap.size w w1) := hG.below.trans (hB1.mono hG.size)
  clear hB1 hb hG hc1
  by_cases hq0 : q = 0
  · have hq1 : (q == 0) = true := by simpa using hq0
    have hq2 : (q != 0) = false := by simpa using hq0
    have HC : Hid (chk 3 l = 0) := by show _ = _; rw [← HQ.out]; exact hq0
    have hnn : n ≤ 16 := by rw [HN.out]; exact (chk_ok HC.out).2.1
    clear hq0
    go_wp2_with fail
    go_loopw [6, 12] (fun s6 s12 wr => ∃ k : Nat, k ≤ n ∧ s12 = .int .i64 (k : Nat) ∧ Hid (Below w.heap.size w wr ∧ wr.heap[rb]? = some (.cells #[.int .u64 r.key, .int .u64 r.val] 31 (0, 0)) ∧ ∀ j o, j < k → l[j]? = some o → hld o r = true)) (fun _ s12 _ => n - (RowKit.intOf s12).toNat)
    case atStart => exact ⟨0, Nat.zero_le _, rfl, HB.out, h1, fun j _ hj => absurd hj (Nat.not_lt_zero _)⟩
    case round =>
      clear h1 HB
      obtain ⟨k, hk, rfl, HI⟩ := hrel
      by_cases hlt : k < n
      · have hltz : (k : Int) < (n : Int) := by omega
        obtain ⟨o, ho⟩ : ∃ o, l[k]? = some o := ⟨l[k]'(by have := HN.out; omega), by simp⟩
        obtain ⟨ob, oo, oc, e1, z1, x1, x2⟩ := ls_at (HV.out.below HI.out.1) ho
        simp only [Value.slice.injEq] at e1
        obtain ⟨rfl, -, rfl⟩ := e1
        have hmem := List.mem_of_getElem? ho
        have hmay : mayF o = true := (chk_ok HC.out).2.2 o hmem
        have hone := fun W => rholds_any hmay r W
        obtain ⟨s, hs⟩ : ∃ s, s = hld o r := ⟨_, rfl⟩
        rw [← hs] at hone
        have HS := hid hs
        have HO := hid ho
        have HM := hid hmem
        obtain ⟨lr, cr, fr⟩ := blk_at HI.out.2.1
        have cr0 := cr 0
        have cr1 := cr 1
        simp at cr0 cr1
        clear cr ho hmem hs hmay
        go_wp2_with fail
        refine (hone _).mono ?_
        rintro e w5 ⟨rfl, g5⟩
        have hGa : Gr wr w5 := ((Gr.refl wr).alloc _).trans g5
        have HB5 : Hid (Below w.heap.size w w5 ∧ w5.heap[rb]? = some (.cells #[.int .u64 r.key, .int .u64 r.val] 31 (0, 0))) := ⟨HI.out.1.trans (hGa.below.mono HI.out.1.size), (hGa.below.block rb lr).trans HI.out.2.1⟩
        clear g5 hGa cr0 cr1 fr lr x1 x2 z1 hone
        cases s with
        | true =>
          go_wp2_with fail
          refine ⟨⟨k + 1, by omega, by go_num, HB5.out.1, HB5.out.2, fun j u hj hu => ?_⟩, by simp [RowKit.intOf]; omega⟩
          by_cases e : j = k
          · subst e
            rw [HO.out] at hu
            cases hu; exact HS.out.symm
          · exact HI.out.2.2 j u (by omega) hu
        | false =>
          have hzz : z = false := by
            rw [HZ.out]; unfold passL; rw [if_pos HC.out]
            exact List.all_eq_false.2 ⟨o, HM.out, by rw [← HS.out]; decide⟩
          subst hzz
          go_wp2_with fail
          go_ret
          exact ⟨rfl, HB5.out.1⟩
      · have hltz : ¬ (k : Int) < (n : Int) := by omega
        have hzz : z = true := by
          rw [HZ.out]; unfold passL; rw [if_pos HC.out]
          refine List.all_eq_true.2 fun o ho => ?_
          obtain ⟨j, hj⟩ := List.mem_iff_getElem?.1 ho
          exact HI.out.2.2 j o (by have h1 := (List.getElem?_eq_some_iff.1 hj).1; have := HN.out; omega) hj
        subst hzz
        go_wp2_with fail
        go_ret
        exact ⟨rfl, HI.out.1⟩
  · have hq1 : (q == 0) = false := by simpa using hq0
    have hq2 : (q != 0) = true := by simpa using hq0
    have hzz : z = false := by rw [HZ.out]; unfold passL; rw [if_neg (by rw [← HQ.out]; exact hq0)]
    clear hq0
    subst hzz
    go_wp2_with fail
    go_ret
    exact ⟨rfl, HB.out⟩
end Go.Proofs.Ytpnjpdnjapfjlaa.Cd
