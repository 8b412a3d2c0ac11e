import Derived.Test.YtpnjpdnjapfjlaaCoMap3
namespace Go.Proofs.Ytpnjpdnjapfjlaa.Cd
open Go.RowKit Go.Sort
attribute [local go_sem ↓] Go.wp_at_zero Go.wp_at_succ

set_option maxHeartbeats 4000000 in
set_option maxRecDepth 100000 in
theorem rmap_any {v : Value} {l : List Op2} {r : Rc} (hr : Rok r) (hl : ∀ o ∈ l, Ook o) (w : World) (hv : Ls EO w v l) : Calls Try.prog 18 #[v, rv r] w fun e w' => e = .returned (rv (mapL l r)) ∧ Below w.heap.size w w' := by
  obtain ⟨p, c, rfl⟩ := hv.form
  obtain ⟨n, hn⟩ : ∃ n, n = l.length := ⟨_, rfl⟩
  rw [← hn] at hv ⊢
  have HV := hid hv
  have HN := hid hn
  have HR := hid hr
  have HL : Hid (∀ o ∈ l, Ook o) := hl
  obtain ⟨q, hq⟩ : ∃ q, q = chk 2 l := ⟨_, rfl⟩
  have hck := fun (W : World) (h : Below w.heap.size w W) => rcheck_any 2 W (HV.out.below h)
  rw [← hq] at hck
  have HQ := hid hq
  obtain ⟨z, hz⟩ : ∃ z, z = mapL l r := ⟨_, rfl⟩
  rw [← hz]
  have HZ := hid hz
  obtain ⟨x, y⟩ := r
  clear hv hn hr hl hq hz
  go_enter Try.func18, Try.ntmps18
  go_upto_region 1 with fail
  obtain ⟨W2, hW2⟩ : ∃ W2, W2 = (w.alloc (.cells #[.int .u64 x, .int .u64 y] 31)).alloc (.cells #[.int .u64 0, .int .u64 0] 31) := ⟨_, rfl⟩
  have hG : Gr w W2 := by rw [hW2]; exact ((Gr.refl w).alloc _).alloc _
  have hb := two_new w (.cells #[.int .u64 x, .int .u64 y] 31) (.cells #[.int .u64 0, .int .u64 0] 31)
  rw [← hW2] at hb
  obtain ⟨rb, hrb⟩ : ∃ rb, rb = w.heap.size := ⟨_, rfl⟩
  obtain ⟨sb, hsb⟩ : ∃ sb, sb = rb + 1 := ⟨_, rfl⟩
  rw [← hW2, ← hrb, ← hsb]
  rw [← hrb, ← hsb] at hb
  have HNE : Hid (rb ≠ sb ∧ w.heap.size ≤ rb ∧ w.heap.size ≤ sb) := by show _ ∧ _ ∧ _; omega
  clear hW2 hrb hsb
  have hc1 := hck W2 hG.below
  clear hck
  go_wp2_with fail
  refine hc1.mono ?_
  rintro e w1 ⟨rfl, hB1⟩
  have h1 := (hB1.block rb (blk_at hb.1).1).trans hb.1
  have h2 := (hB1.block sb (blk_at hb.2).1).trans hb.2
  have HB : Hid (Below w.heap.size w w1) := hG.below.trans (hB1.mono hG.size)
  clear hB1 hb hG hc1
  by_cases hq0 : q = 0
  · have hq1 : (q == 0) = true := by simpa using hq0
    have hq2 : (q != 0) = false := by simpa using hq0
    have HC : Hid (chk 2 l = 0) := by show _ = _; rw [← HQ.out]; exact hq0
    have hnn : n ≤ 16 := by rw [HN.out]; exact (chk_ok HC.out).2.1
    clear hq0
    go_wp2_with fail
    go_loopw [6, 13] (fun s6 s13 wr => ∃ k : Nat, k ≤ n ∧ s13 = .int .i64 (k : Nat) ∧ Hid (Below w.heap.size w wr ∧ (∃ a b, (⟨a, b⟩ : Rc) = (l.take k).foldl (fun r o => mpd o r) ⟨x, y⟩ ∧ wr.heap[rb]? = some (.cells #[.int .u64 a, .int .u64 b] 31 (0, 0))) ∧ wr.heap[sb]? = some (.cells #[.int .u64 0, .int .u64 0] 31 (0, 0)))) (fun _ s13 _ => n - (RowKit.intOf s13).toNat)
    case atStart => exact ⟨0, Nat.zero_le _, rfl, HB.out, ⟨x, y, rfl, h1⟩, h2⟩
    case round =>
      clear h1 h2 HB
      obtain ⟨k, hk, rfl, HI⟩ := hrel
      obtain ⟨hBr, ⟨a, b, hab, hb1⟩, hb2⟩ := HI.out
      clear HI
      have HAB := hid hab
      have HB1 := hid hb1
      have HB2 := hid hb2
      have HBR := hid hBr
      clear hab
      by_cases hlt : k < n
      · have hltz : (k : Int) < (n : Int) := by omega
        obtain ⟨o, ho⟩ : ∃ o, l[k]? = some o := ⟨l[k]'(by have := HN.out; omega), by simp⟩
        obtain ⟨ob, oo, oc, e1, z1, x1, x2⟩ := ls_at (HV.out.below hBr) ho
        simp only [Value.slice.injEq] at e1
        obtain ⟨rfl, -, rfl⟩ := e1
        have hmem := List.mem_of_getElem? ho
        have hmay : mayM o = true := (chk_ok HC.out).2.2 o hmem
        have hok : Ook o := HL.out o hmem
        have hrk : Rok ⟨a, b⟩ := by
          rw [HAB.out]
          exact fold_ok (fun u hu => ⟨(chk_ok HC.out).2.2 u (List.mem_of_mem_take hu), HL.out u (List.mem_of_mem_take hu)⟩) HR.out
        have HO := hid ho
        clear ho hmem
        obtain ⟨s, hs⟩ : ∃ s, s = mpd o ⟨a, b⟩ := ⟨_, rfl⟩
        have hone := fun W => rone_any (r := ⟨a, b⟩) hmay hrk.1 hok.1 W
        rw [← hs] at hone
        have HS := hid hs
        obtain ⟨a2, b2⟩ := s
        clear hs hmay hok hrk
        obtain ⟨lr, cr, fr⟩ := blk_at hb1
        have cr0 := cr 0
        have cr1 := cr 1
        simp at cr0 cr1
        clear cr hb1 hb2
        go_wp2_with fail
        refine (hone _).mono ?_
        rintro e w5 ⟨rfl, hB5⟩
        have hGa : Gr wr (wr.alloc (.cells #[.int .i64 o.kind, .int .u64 o.arg] 46)) := (Gr.refl wr).alloc _
        have hB5' : Below wr.heap.size wr w5 := hGa.below.trans (hB5.mono hGa.size)
        have g1 := (hB5'.block rb lr).trans HB1.out
        have g2 := (hB5'.block sb (blk_at HB2.out).1).trans HB2.out
        have HB5 : Hid (Below w.heap.size w w5) := HBR.out.trans (hB5'.mono HBR.out.size)
        clear hB5 hB5' hGa cr0 cr1 fr lr x1 x2 z1 hone hBr
        obtain ⟨l5, c5, f5⟩ := blk_at g1
        have c50 := c5 0
        have c51 := c5 1
        simp at c50 c51
        have HG1 := hid g1
        have HG2 := hid g2
        clear c5 g1 g2
        go_wp2_with fail
        obtain ⟨t1, t2⟩ := set_blk (.int .u64 a2) (.int .u64 b2) HG1.out
        refine ⟨⟨k + 1, by omega, by go_num, HB5.out.trans (t2.below HB5.out.size (fun j e => by rw [e]; exact HNE.out.2.1)), ⟨a2, b2, ?_, t1⟩, (t2.block sb (blk_at HG2.out).1 (fun e => HNE.out.1 e.symm)).trans HG2.out⟩, by simp [RowKit.intOf]; omega⟩
        rw [HS.out, HAB.out, List.take_add_one, HO.out]
        simp
      · have hltz : ¬ (k : Int) < (n : Int) := by omega
        have hke : k = l.length := by rw [← HN.out]; omega
        have hzz : z = ⟨a, b⟩ := by rw [HZ.out, HAB.out, hke, List.take_length]; unfold mapL; rw [if_pos HC.out]
        clear hke
        subst hzz
        obtain ⟨lr, cr, fr⟩ := blk_at hb1
        have cr0 := cr 0
        have cr1 := cr 1
        obtain ⟨ls, cs, fs⟩ := blk_at hb2
        have cs0 := cs 0
        have cs1 := cs 1
        simp at cr0 cr1 cs0 cs1
        clear cr cs hb1 hb2 hBr
        go_wp2_with fail
        obtain ⟨t1, t2⟩ := set_blk (.int .u64 a) (.int .u64 b) HB2.out
        have hB : Below w.heap.size w ((wr.setCell ⟨sb, 0, none⟩ (.int .u64 a)).setCell ⟨sb, 1, none⟩ (.int .u64 b)) := HBR.out.trans (t2.below HBR.out.size (fun j e => by rw [e]; exact HNE.out.2.2))
        obtain ⟨u0, u1, u2⟩ := blk_at t1
        have v0 := u1 0
        have v1 := u1 1
        simp at v0 v1
        refine bodyPost_ret (v := rv ⟨a, b⟩) (by simp [results, Try.results18, go_sem, v0, v1]) rfl ?_
        exact ⟨rfl, hB⟩
  · have hq1 : (q == 0) = false := by simpa using hq0
    have hq2 : (q != 0) = true := by simpa using hq0
    have hzz : z = ⟨x, y⟩ := by rw [HZ.out]; unfold mapL; rw [if_neg (by rw [← HQ.out]; exact hq0)]
    clear hq0
    subst hzz
    have HB2 := hid h2
    obtain ⟨lr, cr, fr⟩ := blk_at h1
    have cr0 := cr 0
    have cr1 := cr 1
    obtain ⟨ls, cs, fs⟩ := blk_at h2
    have cs0 := cs 0
    have cs1 := cs 1
    simp at cr0 cr1 cs0 cs1
    clear cr cs h1 h2
    go_wp2_with fail
    obtain ⟨t1, t2⟩ := set_blk (.int .u64 x) (.int .u64 y) HB2.out
    have hB : Below w.heap.size w ((w1.setCell ⟨sb, 0, none⟩ (.int .u64 x)).setCell ⟨sb, 1, none⟩ (.int .u64 y)) := HB.out.trans (t2.below HB.out.size (fun j e => by rw [e]; exact HNE.out.2.2))
    obtain ⟨u0, u1, u2⟩ := blk_at t1
    have v0 := u1 0
    have v1 := u1 1
    simp at v0 v1
    refine bodyPost_ret (v := rv ⟨x, y⟩) (by simp [results, Try.results18, go_sem, v0, v1]) rfl ?_
    exact ⟨rfl, hB⟩
end Go.Proofs.Ytpnjpdnjapfjlaa.Cd
