import Derived.Test.YtbomkeginbhhoaaCInv
import Derived.Test.YtbomkeginbhhoaaCApp
import Derived.Test.YtbomkeginbhhoaaCBook
namespace Go.Proofs.Ytbomkeginbhhoaa
open Go.RowKit Go.Sort
attribute [local go_sem ↓] Go.wp_at_zero Go.wp_at_succ

set_option maxHeartbeats 4000000 in
set_option maxRecDepth 100000 in
theorem chainScript_any (kind : Int) (v : Value) (os : List Opr) (w : World) (hv : ScriptAt w v os) (hbig0 : tot (os.map Opr.l) ≤ 1048576) :
    Calls Try.prog 7 #[.int .i64 kind, v] w fun e w' => e = .returned (.bool true) ∧ Below w.heap.size w w' := by
  have hmx : Try.prog.follows .mixedOrders = true := by kernel_rfl
  have HV : Hid (ScriptAt w v os) := hv
  have hbig : os.length ≤ 1048576 := by have := tot_len (os.map Opr.l); simp at this; omega
  obtain ⟨pv, cv, rfl, hcells⟩ := hv
  clear hcells
  go_enter Try.func7, Try.ntmps7
  go_wp2_with fail
  refine (known_any _).mono ?_
  rintro e w1 ⟨rfl, hb1⟩
  go_wp2_with fail
  refine (kinds_any kind _).mono ?_
  rintro e w1' ⟨r, rfl, hr0, hr5, rfl⟩
  have hm := made_at r hr0 hr5 w1'
  go_wp2_with fail
  refine hm.mono ?_
  rintro e w2 ⟨cb0, fb, ff, rfl, hcb, hf, hc, hg⟩
  go_wp2_with fail
  obtain ⟨ow0, hS0⟩ := Scr.init (w0 := w) r (hb1.trans (hg.below.mono hb1.size)) hc (Nat.le_trans hb1.size hcb)
  have HS0 : Hid (Inv w r fb ff os 0 (((w2.alloc (.cells #[.pointer (some ⟨cb0, 0, none⟩)] 23)).alloc (.cells #[.int .i64 r, .slice none 0 0] 51)).alloc (.cells #[.pointer (some ⟨w2.heap.size + 1, 0, none⟩)] 49)) (.slice (some ⟨w2.heap.size, 0, none⟩) 1 1) (.slice (some ⟨w2.heap.size + 2, 0, none⟩) 1 1) (.slice none 0 0)) := ⟨1, 0, _, _, _, _, _, _, _, _, _, Nat.le_refl _, Nat.le_refl _, fun i _ => Nat.zero_le _, fun p hp => absurd hp (Nat.not_lt_zero _), hS0⟩
  clear hS0 hm hc hg hb1 hcb
  go_loopw [5, 6, 7, 8] (fun s5 s6 s7 s8 wr => ∃ k : Nat, k ≤ os.length ∧ s8 = .int .i64 k ∧ Hid (Inv w r fb ff os k wr s5 s6 s7)) (fun _ _ _ s8 _ => os.length - (RowKit.intOf s8).toNat)
  case atStart => exact ⟨0, Nat.zero_le _, rfl, HS0⟩
  case round =>
    clear HS0
    obtain ⟨k, hk, rfl, HI⟩ := hrel
    by_cases hlt : k < os.length
    · obtain ⟨m, nb, cb, rb, v, rv, L, V, Wv, D, ow, hm1, hnb, hL, hD, hS⟩ := HI.out
      clear HI
      have HS : Hid (Scr w wr r fb ff m nb cb rb v rv L V Wv D ow u5 u6 u7) := hS
      have HNB : Hid (nb ≤ k) := hnb
      have HL : Hid (∀ i, i < m → (L i).length ≤ tot ((os.take k).map Opr.l)) := hL
      have HD : Hid (∀ p, p < nb → (D p).length ≤ tot ((os.take k).map Opr.l)) := hD
      have hm5 := hS.five
      have hltz : (k : Int) < (os.length : Int) := by omega
      obtain ⟨o, ho⟩ : ∃ o, os[k]? = some o := ⟨os[k], by simp⟩
      obtain ⟨p', c', e', hcells⟩ := HV.out
      simp only [Value.slice.injEq] at e'
      obtain ⟨rfl, -, rfl⟩ := e'
      obtain ⟨b, off, rfl, hbl, x0, x1, x2, x3, x4, x5⟩ := hcells k o ho
      have hbw := hS.below
      have y0 := (hbw.cell (p := ⟨b, off + k * 5, none⟩) hbl).trans x0
      have y1 := (hbw.cell (p := ⟨b, off + k * 5 + 1, none⟩) hbl).trans x1
      have y2 := (hbw.cell (p := ⟨b, off + k * 5 + 2, none⟩) hbl).trans x2
      have y3 := (hbw.cell (p := ⟨b, off + k * 5 + 3, none⟩) hbl).trans x3
      have y4 := (hbw.cell (p := ⟨b, off + k * 5 + 4, none⟩) hbl).trans x4
      obtain ⟨po, co, eo⟩ := lz_form x5
      rw [eo] at y4 x5
      have HX5 : Hid (Lst w (.slice po o.l.length co) o.l ∨ Od (.slice po o.l.length co) o.l) := x5
      obtain ⟨g5, c5, e5, h51, h52⟩ := owns_form hS.cs.1 hm1
      subst e5
      obtain ⟨g6, c6, e6, h61, h62⟩ := owns_form hS.rs.1 hm1
      subst e6
      have hmz : (0 : Int) < (m : Int) := by omega
      have hm0 : ¬ (m : Int) = 0 := by omega
      have t1 := Int.tmod_lt_of_pos o.on hmz
      have t2 := Int.lt_tmod_of_pos o.on hmz
      unfold maxLen at h52 h62
      have HTS : Hid (tot ((os.take (k + 1)).map Opr.l) = tot ((os.take k).map Opr.l) + (o.l.length + 1)) := tot_step ho
      have HTL : Hid (tot ((os.take (k + 1)).map Opr.l) ≤ 1048576) := Nat.le_trans (tot_le os (k + 1)) hbig0
      clear hcells x0 x1 x2 x3 x4 x5 ho hS hL hD hnb eo
      go_upto_if 43 with fail
      have BO : Hid (Below wr.heap.size wr (wr.alloc (.cells #[.int .i64 o.kind, .int .i64 o.on, .int .i64 o.x.1, .int .i64 o.x.2, .slice po o.l.length co] 55))) := ((Gr.refl wr).alloc _).below
      go_cut [10] from 44 to 47 (fun s10 w' => ∃ i : Nat, i < m ∧ s10 = .int .i64 (i : Int) ∧ w' = wr.alloc (.cells #[.int .i64 o.kind, .int .i64 o.on, .int .i64 o.x.1, .int .i64 o.x.2, .slice po o.l.length co] 55))
      case first =>
        by_cases hneg : o.on.tmod (m : Int) < 0
        · go_wp2_with fail
          go_meet
          refine ⟨(o.on.tmod (m : Int) + m).toNat, by omega, ?_, rfl⟩
          rw [Int.toNat_of_nonneg (by omega)]
        · go_wp2_with fail
          go_meet
          refine ⟨(o.on.tmod (m : Int)).toNat, by omega, ?_, rfl⟩
          rw [Int.toNat_of_nonneg (by omega)]
      case rest =>
        obtain ⟨i, him, rfl, hwc⟩ := hcut
        have HS1 : Hid (Scr w wc r fb ff m nb cb rb v rv L V Wv D ow (.slice (some ⟨g5, 0, none⟩) m c5) (.slice (some ⟨g6, 0, none⟩) m c6) u7) := by rw [hwc]; exact HS.out.kept BO.out
        have ob : ∀ j x, [Value.int .i64 o.kind, .int .i64 o.on, .int .i64 o.x.1, .int .i64 o.x.2, .slice po o.l.length co][j]? = some x → wc.cell? ⟨wr.heap.size, j, none⟩ = some x := fun j x hj => by
          rw [hwc]
          have := World.news_of_block (heap_new' wr (.cells #[.int .i64 o.kind, .int .i64 o.on, .int .i64 o.x.1, .int .i64 o.x.2, .slice po o.l.length co] 55)) j x hj
          rw [addP, Nat.zero_add] at this
          exact this
        have o0 := ob 0 _ rfl
        have o2 := ob 2 _ rfl
        have o3 := ob 3 _ rfl
        have o4 := ob 4 _ rfl
        have hob : wr.heap.size < wc.heap.size := by rw [hwc]; simp
        have p5 : wc.cell? ⟨g5, i, none⟩ = some (.pointer (some ⟨cb i, 0, none⟩)) := by
          have := HS1.out.cs.1.cells (g := g5) rfl i _ (by simp [him]; rfl)
          rw [addP, Nat.zero_add] at this
          exact this
        have p6 : wc.cell? ⟨g6, i, none⟩ = some (.pointer (some ⟨rb i, 0, none⟩)) := by
          have := HS1.out.rs.1.cells (g := g6) rfl i _ (by simp [him]; rfl)
          rw [addP, Nat.zero_add] at this
          exact this
        have hiz : (i : Int) < (m : Int) := by omega
        obtain ⟨bo, hbo⟩ : ∃ bo, bo = wr.heap.size := ⟨_, rfl⟩
        rw [← hbo] at o0 o2 o3 o4 hob
        rw [← hbo]
        have hcbo : cb i < bo := by rw [hbo]; exact (HS.out.ch i him).1.lt
        have hrbo : rb i < bo := by rw [hbo]; exact (HS.out.rf i him).1.lt
        have HVO : Hid (∀ g, (v i).ownBlock = some g → g < bo) := by rw [hbo]; exact (HS.out.ch i him).1.row
        have hLi := HL.out i him
        have htl := HTL.out
        rw [HTS.out] at htl
        clear hwc ob y0 y1 y2 y3 y4 BO HS t1 t2 hm0 hmz hbo hbw
        rcases Decidable.em (o.kind = 0) with hk0 | hk0
        · rw [hk0] at o0
          obtain ⟨c1, c2, c3⟩ := HS1.out.ch i him
          obtain ⟨r1, r2, r3⟩ := HS1.out.rf i him
          have S0 : wc.cell? ⟨bo, 2, none⟩ = some (.int .i64 o.x.1) ∧ wc.cell? ⟨bo, 3, none⟩ = some (.int .i64 o.x.2) ∧ bo < wc.heap.size := ⟨o2, o3, hob⟩
          have keepG : ∀ W W' : World, (W.cell? ⟨bo, 2, none⟩ = some (.int .i64 o.x.1) ∧ W.cell? ⟨bo, 3, none⟩ = some (.int .i64 o.x.2) ∧ bo < W.heap.size) → Gr W W' → (W'.cell? ⟨bo, 2, none⟩ = some (.int .i64 o.x.1) ∧ W'.cell? ⟨bo, 3, none⟩ = some (.int .i64 o.x.2) ∧ bo < W'.heap.size) := fun W W' h hg =>
            ⟨(hg.cell h.2.2).trans h.1, (hg.cell h.2.2).trans h.2.1, Nat.lt_of_lt_of_le h.2.2 hg.size⟩
          have C1 : Ch wc.drew (cb i) fb ff (v i) (L i) := c1.below (Gr.refl _).drew.below
          have R1 : RCh wc.drew (rb i) r (rv i) (L i) := r1.below (Gr.refl _).drew.below
          have keepK : ∀ (S : Nat → Prop) (W W' : World), (W.cell? ⟨bo, 2, none⟩ = some (.int .i64 o.x.1) ∧ W.cell? ⟨bo, 3, none⟩ = some (.int .i64 o.x.2) ∧ bo < W.heap.size) → Kp S W W' → ¬ S bo → (W'.cell? ⟨bo, 2, none⟩ = some (.int .i64 o.x.1) ∧ W'.cell? ⟨bo, 3, none⟩ = some (.int .i64 o.x.2) ∧ bo < W'.heap.size) := fun S W W' h hk hn =>
            ⟨(World.cell?_of_block (a := ⟨bo, 2, none⟩) (hk.block bo h.2.2 hn)).trans h.1, (World.cell?_of_block (a := ⟨bo, 3, none⟩) (hk.block bo h.2.2 hn)).trans h.2.1, Nat.lt_of_lt_of_le h.2.2 hk.size⟩
          have nb1 : ¬ (bo = cb i ∨ (v i).ownBlock = some bo) := by
            rintro (e | e)
            · omega
            · have := HVO.out bo e; omega
          have nb2 : ¬ bo = rb i := by omega
          have keepT : ∀ (W W' : World) (v' : Value), (W.cell? ⟨bo, 2, none⟩ = some (.int .i64 o.x.1) ∧ W.cell? ⟨bo, 3, none⟩ = some (.int .i64 o.x.2) ∧ bo < W.heap.size) → Turn (cb i) (v i) v' W W' → (W'.cell? ⟨bo, 2, none⟩ = some (.int .i64 o.x.1) ∧ W'.cell? ⟨bo, 3, none⟩ = some (.int .i64 o.x.2) ∧ bo < W'.heap.size) := fun W W' v' h ht => keepK _ W W' h ht.1 nb1
          have keepR : ∀ (W W' : World), (W.cell? ⟨bo, 2, none⟩ = some (.int .i64 o.x.1) ∧ W.cell? ⟨bo, 3, none⟩ = some (.int .i64 o.x.2) ∧ bo < W.heap.size) → Kp (fun k => k = rb i) W W' → (W'.cell? ⟨bo, 2, none⟩ = some (.int .i64 o.x.1) ∧ W'.cell? ⟨bo, 3, none⟩ = some (.int .i64 o.x.2) ∧ bo < W'.heap.size) := fun W W' h hk => keepK _ W W' h hk nb2
          have hRT : ∀ (W : World) (v' : Value), Turn (cb i) (v i) v' wc.drew W → RCh W (rb i) r (rv i) (L i) := fun W v' ht => R1.kp ht.1 (fun e => by
            rcases e with e | e
            · rw [← e, r2] at c2; omega
            · have := c3 _ e; rw [r2] at this; omega) (fun q hq e => by
            rcases e with e | e
            · have := r3 q hq; rw [e, c2] at this; omega
            · have := r3 q hq; rw [c3 q e] at this; omega)
          have hi1 := insert_any (bel := rbel r) (fst := rfst r) o.x wc.drew C1 (by omega) hf.b hf.f
          have hi2 : ∀ (W : World) (v' : Value), Turn (cb i) (v i) v' wc.drew W → _ := fun W v' ht => rinsert_any o.x W (hRT W v' ht) (by omega)
          have hse : ∀ q : Bool, (q == q) = true := fun q => by simp
          go_wp2_with fail
          clear o0 o2 o3 o4 p5 p6
          go_region_held3 (fun w' => w'.cell? ⟨bo, 2, none⟩ = some (.int .i64 o.x.1) ∧ w'.cell? ⟨bo, 3, none⟩ = some (.int .i64 o.x.2) ∧ bo < w'.heap.size)
            (first | exact S0 | exact keepG _ _ (by assumption) (Gr.refl _).drew | exact keepT _ _ _ (by assumption) (by assumption) | exact keepR _ _ (by assumption) (by assumption))
            (first | (go_at_call 11; refine hi1.mono ?_; rintro e w5 ⟨v5, rfl, hch5, ht5⟩) | (go_at_call 29; refine (hi2 _ _ ht5).mono ?_; rintro e w6 ⟨rfl, rv6, hr6, hk6, hg6⟩))
          have HF : Hid (Inv w r fb ff os (k + 1) w6 (.slice (some ⟨g5, 0, none⟩) m c5) (.slice (some ⟨g6, 0, none⟩) m c6) u7) := Inv.two hm1 HNB.out HL.out HD.out HTS.out (HS1.out.kept (Gr.refl wc).drew.below) him (v' := v5) (rv' := rv6) (by have := cins_length (bel := rbel r) (fst := rfst r) (L i) o.x; omega) hch5 ht5 hr6 hk6 hg6 (Gr.refl w6).below
          clear hch5 ht5 hr6 hk6 hg6 hi1 hi2 hRT keepG keepK keepT keepR C1 R1 c1 r1
          go_wp2
          exact ⟨⟨k + 1, by omega, by go_num, HF⟩, by simp [RowKit.intOf]; omega⟩
        rcases Decidable.em (o.kind = 1) with hk1 | hk1
        · rw [hk1] at o0
          obtain ⟨c1, c2, c3⟩ := HS1.out.ch i him
          obtain ⟨r1, r2, r3⟩ := HS1.out.rf i him
          have hj := joined_lz wc c1 r1 hf (HX5.out.imp (fun h => ⟨h.below HS1.out.below, fun q hq => by
              have h14 := HS1.out.old q (h.blk q hq)
              exact ⟨fun e => by rw [e, c2] at h14; omega, fun e => by rw [e, r2] at h14; omega, fun e => by rw [c3 q e] at h14; omega⟩⟩) id)
            (fun e => by rw [e, r2] at c2; omega) (fun e => by have := c3 _ e; omega) (fun e => by have := r3 _ e; omega) (fun g hg e => by have := c3 _ hg; have := r3 _ e; omega) (by omega)
          go_wp2_with fail
          refine hj.mono ?_
          rintro e w5 ⟨rfl, v5, rv5, hc5, hr5, hk5, hv5, hrv5, hne5⟩
          have HF : Hid (Inv w r fb ff os (k + 1) w5 (.slice (some ⟨g5, 0, none⟩) m c5) (.slice (some ⟨g6, 0, none⟩) m c6) u7) := Inv.step hm1 HNB.out HL.out HD.out HTS.out HS1.out him (by have := cjoin_length (bel := rbel r) (fst := rfst r) (L i) o.l; omega) hc5 hr5 hk5 hv5 hrv5 hne5
          clear hc5 hr5 hk5 hv5 hrv5 hne5 hj c1 r1
          go_wp2
          exact ⟨⟨k + 1, by omega, by go_num, HF⟩, by simp [RowKit.intOf]; omega⟩
        rcases Decidable.em (o.kind = 2) with hk2 | hk2
        · rw [hk2] at o0
          obtain ⟨c1, c2, c3⟩ := HS1.out.ch i him
          obtain ⟨r1, r2, r3⟩ := HS1.out.rf i him
          have S0 : wc.cell? ⟨bo, 2, none⟩ = some (.int .i64 o.x.1) ∧ wc.cell? ⟨bo, 3, none⟩ = some (.int .i64 o.x.2) ∧ bo < wc.heap.size := ⟨o2, o3, hob⟩
          have keepG : ∀ W W' : World, (W.cell? ⟨bo, 2, none⟩ = some (.int .i64 o.x.1) ∧ W.cell? ⟨bo, 3, none⟩ = some (.int .i64 o.x.2) ∧ bo < W.heap.size) → Gr W W' → (W'.cell? ⟨bo, 2, none⟩ = some (.int .i64 o.x.1) ∧ W'.cell? ⟨bo, 3, none⟩ = some (.int .i64 o.x.2) ∧ bo < W'.heap.size) := fun W W' h hg =>
            ⟨(hg.cell h.2.2).trans h.1, (hg.cell h.2.2).trans h.2.1, Nat.lt_of_lt_of_le h.2.2 hg.size⟩
          have C1 : Ch wc.drew (cb i) fb ff (v i) (L i) := c1.below (Gr.refl _).drew.below
          have R1 : RCh wc.drew (rb i) r (rv i) (L i) := r1.below (Gr.refl _).drew.below
          have hi1 := covers_any (bel := rbel r) o.x wc.drew C1 (by omega) hf.b
          have hi2 : ∀ (W : World), Gr wc.drew W → _ := fun W hg => rcovers_any o.x W (R1.below hg.below) (by omega)
          have hse : ∀ q : Bool, (q == q) = true := fun q => by simp
          go_wp2_with fail
          clear o0 o2 o3 o4 p5 p6
          go_region_held3 (fun w' => w'.cell? ⟨bo, 2, none⟩ = some (.int .i64 o.x.1) ∧ w'.cell? ⟨bo, 3, none⟩ = some (.int .i64 o.x.2) ∧ bo < w'.heap.size)
            (first | exact S0 | exact keepG _ _ (by assumption) (Gr.refl _).drew | exact keepG _ _ (by assumption) (by assumption))
            (first | (go_at_call 10; refine hi1.mono ?_; rintro e w5 ⟨rfl, hg5⟩) | (go_at_call 31; refine (hi2 _ hg5).mono ?_; rintro e w6 ⟨rfl, hg6⟩))
          have HF : Hid (Inv w r fb ff os (k + 1) w6 (.slice (some ⟨g5, 0, none⟩) m c5) (.slice (some ⟨g6, 0, none⟩) m c6) u7) := Inv.same hm1 HNB.out HL.out HD.out HTS.out (HS1.out.kept ((Gr.refl wc).drew.trans (hg5.trans hg6)).below)
          clear hg5 hg6 hi1 hi2 keepG C1 R1 c1 r1
          go_wp2
          exact ⟨⟨k + 1, by omega, by go_num, HF⟩, by simp [RowKit.intOf]; omega⟩
        rcases Decidable.em (o.kind = 3) with hk3 | hk3
        · rw [hk3] at o0
          obtain ⟨c1, c2, c3⟩ := HS1.out.ch i him
          obtain ⟨r1, r2, r3⟩ := HS1.out.rf i him
          have S0 : wc.cell? ⟨bo, 2, none⟩ = some (.int .i64 o.x.1) ∧ wc.cell? ⟨bo, 3, none⟩ = some (.int .i64 o.x.2) ∧ bo < wc.heap.size := ⟨o2, o3, hob⟩
          have keepG : ∀ W W' : World, (W.cell? ⟨bo, 2, none⟩ = some (.int .i64 o.x.1) ∧ W.cell? ⟨bo, 3, none⟩ = some (.int .i64 o.x.2) ∧ bo < W.heap.size) → Gr W W' → (W'.cell? ⟨bo, 2, none⟩ = some (.int .i64 o.x.1) ∧ W'.cell? ⟨bo, 3, none⟩ = some (.int .i64 o.x.2) ∧ bo < W'.heap.size) := fun W W' h hg =>
            ⟨(hg.cell h.2.2).trans h.1, (hg.cell h.2.2).trans h.2.1, Nat.lt_of_lt_of_le h.2.2 hg.size⟩
          have C1 : Ch wc.drew (cb i) fb ff (v i) (L i) := c1.below (Gr.refl _).drew.below
          have R1 : RCh wc.drew (rb i) r (rv i) (L i) := r1.below (Gr.refl _).drew.below
          have keepK : ∀ (S : Nat → Prop) (W W' : World), (W.cell? ⟨bo, 2, none⟩ = some (.int .i64 o.x.1) ∧ W.cell? ⟨bo, 3, none⟩ = some (.int .i64 o.x.2) ∧ bo < W.heap.size) → Kp S W W' → ¬ S bo → (W'.cell? ⟨bo, 2, none⟩ = some (.int .i64 o.x.1) ∧ W'.cell? ⟨bo, 3, none⟩ = some (.int .i64 o.x.2) ∧ bo < W'.heap.size) := fun S W W' h hk hn =>
            ⟨(World.cell?_of_block (a := ⟨bo, 2, none⟩) (hk.block bo h.2.2 hn)).trans h.1, (World.cell?_of_block (a := ⟨bo, 3, none⟩) (hk.block bo h.2.2 hn)).trans h.2.1, Nat.lt_of_lt_of_le h.2.2 hk.size⟩
          have nb1 : ¬ (bo = cb i ∨ (v i).ownBlock = some bo) := by
            rintro (e | e)
            · omega
            · have := HVO.out bo e; omega
          have nb2 : ¬ bo = rb i := by omega
          have keepT : ∀ (W W' : World) (v' : Value), (W.cell? ⟨bo, 2, none⟩ = some (.int .i64 o.x.1) ∧ W.cell? ⟨bo, 3, none⟩ = some (.int .i64 o.x.2) ∧ bo < W.heap.size) → Turn (cb i) (v i) v' W W' → (W'.cell? ⟨bo, 2, none⟩ = some (.int .i64 o.x.1) ∧ W'.cell? ⟨bo, 3, none⟩ = some (.int .i64 o.x.2) ∧ bo < W'.heap.size) := fun W W' v' h ht => keepK _ W W' h ht.1 nb1
          have keepR : ∀ (W W' : World), (W.cell? ⟨bo, 2, none⟩ = some (.int .i64 o.x.1) ∧ W.cell? ⟨bo, 3, none⟩ = some (.int .i64 o.x.2) ∧ bo < W.heap.size) → Kp (fun k => k = rb i) W W' → (W'.cell? ⟨bo, 2, none⟩ = some (.int .i64 o.x.1) ∧ W'.cell? ⟨bo, 3, none⟩ = some (.int .i64 o.x.2) ∧ bo < W'.heap.size) := fun W W' h hk => keepK _ W W' h hk nb2
          have hRT : ∀ (W : World) (v' : Value), Turn (cb i) (v i) v' wc.drew W → RCh W (rb i) r (rv i) (L i) := fun W v' ht => R1.kp ht.1 (fun e => by
            rcases e with e | e
            · rw [← e, r2] at c2; omega
            · have := c3 _ e; rw [r2] at this; omega) (fun q hq e => by
            rcases e with e | e
            · have := r3 q hq; rw [e, c2] at this; omega
            · have := r3 q hq; rw [c3 q e] at this; omega)
          have hi1 := cut_any (bel := rbel r) o.x wc.drew C1 (by omega) hf.b
          have hi2 : ∀ (W : World) (v' : Value), Turn (cb i) (v i) v' wc.drew W → _ := fun W v' ht => rcut_any o.x W (hRT W v' ht) (by omega)
          have toT : ∀ (W : World) (v' : Value), Kp (fun k => k = cb i) wc.drew W → (∀ g, v'.ownBlock = some g → (v i).ownBlock = some g ∨ wc.drew.heap.size ≤ g) → Turn (cb i) (v i) v' wc.drew W := fun W v' h h2 => ⟨⟨h.os, h.tape, h.output, h.size, fun q hq hn => h.block q hq (fun e => hn (Or.inl e))⟩, h2⟩
          have hse : ∀ q : Int, (q == q) = true := fun q => by simp
          go_wp2_with fail
          clear o0 o2 o3 o4 p5 p6
          go_region_held3 (fun w' => w'.cell? ⟨bo, 2, none⟩ = some (.int .i64 o.x.1) ∧ w'.cell? ⟨bo, 3, none⟩ = some (.int .i64 o.x.2) ∧ bo < w'.heap.size)
            (first | exact S0 | exact keepG _ _ (by assumption) (Gr.refl _).drew | exact keepT _ _ _ (by assumption) (by assumption) | exact keepR _ _ (by assumption) (by assumption))
            (first | (go_at_call 19; refine hi1.mono ?_; rintro e w5 ⟨v5, rfl, hch5, hk5, hv5⟩; have ht5 := toT _ _ hk5 hv5; clear hk5 hv5) | (go_at_call 32; refine (hi2 _ _ ht5).mono ?_; rintro e w6 ⟨rfl, rv6, hr6, hk6, hg6⟩))
          have HF : Hid (Inv w r fb ff os (k + 1) w6 (.slice (some ⟨g5, 0, none⟩) m c5) (.slice (some ⟨g6, 0, none⟩) m c6) u7) := Inv.two hm1 HNB.out HL.out HD.out HTS.out (HS1.out.kept (Gr.refl wc).drew.below) him (v' := v5) (rv' := rv6) (by have := ccut_length (bel := rbel r) (L i) o.x; omega) hch5 ht5 hr6 hk6 (fun g hg => Or.inr (hg6 g hg)) (Gr.refl w6).below
          clear hch5 ht5 hr6 hk6 hg6 hi1 hi2 hRT keepG keepK keepT keepR C1 R1 c1 r1
          go_wp2
          exact ⟨⟨k + 1, by omega, by go_num, HF⟩, by simp [RowKit.intOf]; omega⟩
        rcases Decidable.em (o.kind = 4) with hk4 | hk4
        · rw [hk4] at o0
          obtain ⟨c1, c2, c3⟩ := HS1.out.ch i him
          obtain ⟨r1, r2, r3⟩ := HS1.out.rf i him
          have q1 := r1.c1
          have q2 := r1.lt
          obtain ⟨pr, cr, er⟩ := r1.lst.form
          have HR : Hid (Lst wc (.slice pr (L i).length cr) (L i)) := by have := r1.lst; rw [er] at this; exact this
          rw [er] at q1
          go_wp2_with (at_builtin; refine wpAppL rfl _ _ rfl wc.heap.size (.slice none 0 0) 0 [] rfl (World.ownsRow_nil _ _ _ _) (.slice pr (L i).length cr) (L i) rfl HR.out (by omega) (Nat.le_refl _) ?_)
          intro vw w3 ho3 hg3
          have b3 : Hid (Below wc.heap.size wc w3) := (Kp.grownBy (S := fun _ => False) hg3 (fun k hk => by simp [Value.ownBlock] at hk)).below (Nat.le_refl _) (fun _ h => h.elim)
          have HO3 : Hid (w3.ownsRow wc.heap.size 28 2 vw (L i).length (flatP (L i))) := owns_re ho3 (by simp) (flatP_length _)
          obtain ⟨pw, cw, ew⟩ := (owns_lst HO3.out).form
          subst ew
          have hl1 := list_any w3 (c1.below b3.out) (by omega)
          clear ho3 hg3 o0 o2 o3 o4 p5 p6 q1 q2 er HR
          go_wp2_with fail
          refine hl1.mono ?_
          rintro e w4 ⟨va, rfl, ha4, b4⟩
          have B4 : Hid (Below w3.heap.size w3 w4) := b4
          have HA4 : Hid (w4.ownsRow w3.heap.size 28 2 va (L i).length (flatP (L i))) := ha4
          obtain ⟨pa, ca, ea⟩ := (owns_lst ha4).form
          subst ea
          have hl2 := list_any w4 ((c1.below b3.out).below b4) (by omega)
          clear hl1 ha4 b4
          go_wp2_with fail
          refine hl2.mono ?_
          rintro e w5 ⟨vb, rfl, ha5, b5⟩
          have B5 : Hid (Below w4.heap.size w4 w5) := b5
          have HA5 : Hid (w5.ownsRow w4.heap.size 28 2 vb (L i).length (flatP (L i))) := ha5
          obtain ⟨pe, ce, ee⟩ := (owns_lst ha5).form
          subst ee
          have HBK : Hid (w5.ownsRow 0 58 3 u7 nb ((List.range nb).flatMap fun p => [V (2 * p), V (2 * p + 1), Wv p])) := (((HS1.out.kept b3.out).kept B4.out).kept b5).bk.1
          clear hl2 ha5 b5 c1 r1 c3 r3
          have hnbk := HNB.out
          go_wp2_with (at_builtin; refine wpAppV rfl _ _ 53 58 rfl Try.underlying53 infoPg rfl (by decide) u7 nb _ rfl HBK.out #[.slice pa (L i).length ca, .slice pe (L i).length ce, .slice pw (L i).length cw] rfl (by intro u hu; simp at hu; rcases hu with rfl | rfl | rfl <;> rfl) (by first | rfl | simp) (by omega) (by unfold maxLen; omega) _ ?_)
          intro g7 c7 w6 ho6 hk6 hg6
          have HF : Hid (Inv w r fb ff os (k + 1) w6 (.slice (some ⟨g5, 0, none⟩) m c5) (.slice (some ⟨g6, 0, none⟩) m c6) (.slice (some ⟨g7, 0, none⟩) (nb + 1) c7)) := Inv.page hm1 HNB.out HL.out HD.out HTS.out HS1.out him b3.out B4.out B5.out HO3.out HA4.out HA5.out ho6 hk6 (fun g hg => by rw [own_one hg]; exact hg6)
          clear ho6 hk6 hg6 HBK HO3 HA4 HA5 B4 B5 b3
          go_wp2
          exact ⟨⟨k + 1, by omega, by go_num, HF⟩, by simp [RowKit.intOf]; omega⟩
        rcases Decidable.em (o.kind = 5) with hk5 | hk5
        · rw [hk5] at o0
          obtain ⟨c1, c2, c3⟩ := HS1.out.ch i him
          obtain ⟨r1, r2, r3⟩ := HS1.out.rf i him
          obtain ⟨pr, cr, er⟩ := r1.lst.form
          have q1 := r1.c1
          have q2 := r1.lt
          rw [er] at q1
          have S0 : wc.cell? ⟨rb i, 1, none⟩ = some (.slice pr (L i).length cr) ∧ rb i < wc.heap.size := ⟨q1, q2⟩
          have hle : ∀ W, W = wc.drew → _ := fun W e => len_any W (show Ch W (cb i) fb ff (v i) (L i) from by rw [e]; exact c1.below (Gr.refl wc).drew.below)
          have hse : ∀ q : Int, (q == q) = true := fun q => by simp
          clear er
          go_wp2_with fail
          clear o0 o2 o3 o4 p5 p6
          go_region_held3 (fun w' => w'.cell? ⟨rb i, 1, none⟩ = some (.slice pr (L i).length cr) ∧ rb i < w'.heap.size)
            (first | exact S0 | exact (by assumption))
            (first | (go_at_call 12; refine (hle _ rfl).mono ?_; rintro e w5 ⟨rfl, rfl⟩))
          have HF : Hid (Inv w r fb ff os (k + 1) wc.drew (.slice (some ⟨g5, 0, none⟩) m c5) (.slice (some ⟨g6, 0, none⟩) m c6) u7) := Inv.same hm1 HNB.out HL.out HD.out HTS.out (HS1.out.kept (Gr.refl wc).drew.below)
          clear hle c1 r1 q1 q2 S0
          go_wp2
          exact ⟨⟨k + 1, by omega, by go_num, HF⟩, by simp [RowKit.intOf]; omega⟩
        rcases Decidable.em (o.kind = 6) with hk6 | hk6
        · rw [hk6] at o0
          obtain ⟨c1, c2, c3⟩ := HS1.out.ch i him
          by_cases h5 : m < 5
          · have h5z : (m : Int) < 5 := by omega
            have hcp := copy_any wc c1 (by omega)
            go_wp2_with fail
            refine hcp.mono ?_
            rintro e w3 ⟨cn, vn, rfl, hcn, hc3, b3, hv3⟩
            have HC3 : Hid (Ch w3 cn fb ff vn (L i)) := hc3
            have B3 : Hid (Below wc.heap.size wc w3) := b3
            have HV3 : Hid (∀ g, vn.ownBlock = some g → wc.heap.size ≤ g) := hv3
            have HCS : Hid (w3.ownsRow 0 23 1 (.slice (some ⟨g5, 0, none⟩) m c5) m ((List.range m).map fun i => .pointer (some ⟨cb i, 0, none⟩))) := (HS1.out.kept b3).cs.1
            clear hcp hc3 hv3 b3 o0 o2 o3 o4 p5 p6
            go_wp2_with (at_builtin; refine wpAppV rfl _ _ 48 23 rfl Try.underlying48 infoCp rfl (by decide) (.slice (some ⟨g5, 0, none⟩) m c5) m _ rfl HCS.out #[.pointer (some ⟨cn, 0, none⟩)] rfl (by intro u hu; simp at hu; rcases hu with rfl; rfl) (by first | rfl | simp) (by omega) (by unfold maxLen; omega) _ ?_)
            intro g7 c7 w4 ho4 hk4 hg4
            have HO4 : Hid (w4.ownsRow 0 23 1 (.slice (some ⟨g7, 0, none⟩) (m + 1) c7) (m + 1) (((List.range m).map fun i => .pointer (some ⟨cb i, 0, none⟩)) ++ [.pointer (some ⟨cn, 0, none⟩)])) := ho4
            have HK4 : Hid (Kp (fun q => (Value.slice (some ⟨g5, 0, none⟩) m c5).ownBlock = some q) w3 w4) := hk4
            have HG4 : Hid ((Value.slice (some ⟨g5, 0, none⟩) m c5).ownBlock = some g7 ∨ w3.heap.size ≤ g7) := hg4
            have r4 : RCh w4 (rb i) r (rv i) (L i) := by
              obtain ⟨r1, r2, r3⟩ := (HS1.out.kept B3.out).rf i him
              refine r1.kp hk4 (fun e => ?_) (fun q hq e => ?_)
              · have := HS1.out.cs.2 _ e; omega
              · have := HS1.out.cs.2 _ e; have := r3 q hq; omega
            have hrc := rcopy_any w4 r4 (by omega)
            clear ho4 hk4 hg4 HCS
            go_wp2_with fail
            refine hrc.mono ?_
            rintro e w5 ⟨rn, rvn, rfl, hrn, hr5, b5, hv5⟩
            have HR5 : Hid (RCh w5 rn r rvn (L i)) := hr5
            have B5 : Hid (Below w4.heap.size w4 w5) := b5
            have HV5 : Hid (∀ g, rvn.ownBlock = some g → w4.heap.size ≤ g) := hv5
            have HRS : Hid (w5.ownsRow 0 49 1 (.slice (some ⟨g6, 0, none⟩) m c6) m ((List.range m).map fun i => .pointer (some ⟨rb i, 0, none⟩))) :=
              owns_below (owns_kp HK4.out (HS1.out.kept B3.out).rs.1 (fun q hq e => by have := HS1.out.cs.2 _ e; have := HS1.out.rs.2 q hq; omega)) b5
            clear hrc hr5 hv5 b5 r4 c1 c2 c3
            go_wp2_with (at_builtin; refine wpAppV rfl _ _ 52 49 rfl Try.underlying52 infoRp rfl (by decide) (.slice (some ⟨g6, 0, none⟩) m c6) m _ rfl HRS.out #[.pointer (some ⟨rn, 0, none⟩)] rfl (by intro u hu; simp at hu; rcases hu with rfl; rfl) (by first | rfl | simp) (by omega) (by unfold maxLen; omega) _ ?_)
            intro g8 c8 w6 ho6 hk6 hg6
            have HF : Hid (Inv w r fb ff os (k + 1) w6 (.slice (some ⟨g7, 0, none⟩) (m + 1) c7) (.slice (some ⟨g8, 0, none⟩) (m + 1) c8) u7) := Inv.copy HNB.out HL.out HD.out HTS.out HS1.out h5 him B3.out HC3.out hcn HV3.out HK4.out HO4.out (fun g hg => by rw [own_one hg]; exact HG4.out) B5.out HR5.out hrn HV5.out hk6 ho6 (fun g hg => by rw [own_one hg]; exact hg6)
            clear ho6 hk6 hg6 HRS HO4 HK4 HG4 HR5 B5 HV5 HC3 B3 HV3
            go_wp2
            exact ⟨⟨k + 1, by omega, by go_num, HF⟩, by simp [RowKit.intOf]; omega⟩
          · have h5z : ¬ (m : Int) < 5 := by omega
            have HF : Hid (Inv w r fb ff os (k + 1) wc (.slice (some ⟨g5, 0, none⟩) m c5) (.slice (some ⟨g6, 0, none⟩) m c6) u7) := Inv.same hm1 HNB.out HL.out HD.out HTS.out HS1.out
            clear c1 c2 c3 o2 o3 o4
            go_wp2
            exact ⟨⟨k + 1, by omega, by go_num, HF⟩, by simp [RowKit.intOf]; omega⟩
        rcases Decidable.em (o.kind = 7) with hk7 | hk7
        · rw [hk7] at o0
          obtain ⟨c1, c2, c3⟩ := HS1.out.ch i him
          obtain ⟨r1, r2, r3⟩ := HS1.out.rf i him
          have hcl := clear_any wc c1
          go_wp2_with fail
          refine hcl.mono ?_
          rintro e w5 ⟨rfl, hc5, hk5⟩
          have hcr : ¬ rb i = cb i := fun e => by rw [e, c2] at r2; omega
          have HR5 : Hid (RCh w5 (rb i) r (rv i) (L i)) := r1.kp hk5 hcr (fun q hq e => by have := r3 q hq; rw [e, c2] at this; omega)
          have T5 : Hid (Turn (cb i) (v i) (.slice none 0 0) wc w5) := ⟨⟨hk5.os, hk5.tape, hk5.output, hk5.size, fun q hq hn => hk5.block q hq (fun e => hn (Or.inl e))⟩, fun g hg => by simp [Value.ownBlock] at hg⟩
          have HC5 : Hid (Ch w5 (cb i) fb ff (.slice none 0 0) []) := hc5
          obtain ⟨hr6, hk6⟩ := HR5.out.set (v2 := .slice none 0 0) (l2 := []) (World.ownsRow_nil _ _ _ _) (by simp [Value.ownBlock])
          have HF : Hid (Inv w r fb ff os (k + 1) (w5.setCell ⟨rb i, 1, none⟩ (.slice none 0 0)) (.slice (some ⟨g5, 0, none⟩) m c5) (.slice (some ⟨g6, 0, none⟩) m c6) u7) := Inv.two hm1 HNB.out HL.out HD.out HTS.out HS1.out him (v' := .slice none 0 0) (rv' := .slice none 0 0) (by simp) HC5.out T5.out hr6 hk6 (fun g hg => by simp [Value.ownBlock] at hg) (Gr.refl _).below
          have z1 := HR5.out.lt
          have z2 := HR5.out.fz
          have z3 := HR5.out.c1
          clear hr6 hk6 HR5 T5 HC5 hcl hc5 hk5 c1 r1 o0 o2 o3 o4 p5 p6
          go_wp2
          exact ⟨⟨k + 1, by omega, by go_num, HF⟩, by simp [RowKit.intOf]; omega⟩
        have HF : Hid (Inv w r fb ff os (k + 1) wc (.slice (some ⟨g5, 0, none⟩) m c5) (.slice (some ⟨g6, 0, none⟩) m c6) u7) := Inv.same hm1 HNB.out HL.out HD.out HTS.out HS1.out
        clear o2 o3 o4
        go_wp2
        exact ⟨⟨k + 1, by omega, by go_num, HF⟩, by simp [RowKit.intOf]; omega⟩
    · have hltz : ¬ (k : Int) < (os.length : Int) := by omega
      obtain ⟨m, nb, cb, rb, v, rv, L, V, Wv, D, ow, hm1, hnb, hL, hD, hS⟩ := HI.out
      clear HI
      have HS : Hid (Scr w wr r fb ff m nb cb rb v rv L V Wv D ow u5 u6 u7) := hS
      have hm5 := hS.five
      have htl := Nat.le_trans (tot_le os k) hbig0
      have HL : Hid (∀ i, i < m → (L i).length ≤ 1048576) := fun i hi => Nat.le_trans (hL i hi) htl
      have HD : Hid (∀ p, p < nb → (D p).length ≤ 1048576) := fun p hp => Nat.le_trans (hD p hp) htl
      have hnb9 : nb ≤ 1048576 := by omega
      obtain ⟨g5, c5, e5, h51, h52⟩ := owns_form hS.cs.1 hm1
      subst e5
      obtain ⟨g6, c6, e6, h61, h62⟩ := owns_form hS.rs.1 hm1
      subst e6
      unfold maxLen at h52 h62
      clear hS hL hD hnb htl
      go_wp2_with fail
      clear hltz hlt
      go_loopw [15] (fun s15 w' => ∃ i : Nat, i ≤ m ∧ s15 = .int .i64 i ∧ Hid (Scr w w' r fb ff m nb cb rb v rv L V Wv D ow (.slice (some ⟨g5, 0, none⟩) m c5) (.slice (some ⟨g6, 0, none⟩) m c6) u7)) (fun s15 _ => m - (RowKit.intOf s15).toNat)
      case atStart => exact ⟨0, Nat.zero_le _, rfl, HS⟩
      case round =>
        clear HS
        obtain ⟨i, hi, rfl, HS⟩ := hrel
        generalize wr = wq at *
        by_cases him : i < m
        · have himz : (i : Int) < (m : Int) := by omega
          obtain ⟨c1, c2, c3⟩ := HS.out.ch i him
          obtain ⟨r1, r2, r3⟩ := HS.out.rf i him
          have hLi := HL.out i him
          have p5 : wq.cell? ⟨g5, i, none⟩ = some (.pointer (some ⟨cb i, 0, none⟩)) := by
            have := HS.out.cs.1.cells (g := g5) rfl i _ (by simp [him]; rfl)
            rw [addP, Nat.zero_add] at this
            exact this
          have p6 : wq.cell? ⟨g6, i, none⟩ = some (.pointer (some ⟨rb i, 0, none⟩)) := by
            have := HS.out.rs.1.cells (g := g6) rfl i _ (by simp [him]; rfl)
            rw [addP, Nat.zero_add] at this
            exact this
          have z5 : g5 < wq.heap.size := owns_lt HS.out.cs.1 g5 rfl
          have z6 : g6 < wq.heap.size := owns_lt HS.out.rs.1 g6 rfl
          have q1 := r1.c1
          have q2 := r1.lt
          obtain ⟨pr, cr, er⟩ := r1.lst.form
          have lr := r1.lst
          rw [er] at q1 lr
          have S0 : wq.cell? ⟨g5, i, none⟩ = some (.pointer (some ⟨cb i, 0, none⟩)) ∧ wq.cell? ⟨g6, i, none⟩ = some (.pointer (some ⟨rb i, 0, none⟩)) ∧ wq.cell? ⟨rb i, 1, none⟩ = some (.slice pr (L i).length cr) ∧ Below wq.heap.size wq wq := ⟨p5, p6, q1, Below.refl _ _⟩
          have keepB : ∀ W W' : World, (W.cell? ⟨g5, i, none⟩ = some (.pointer (some ⟨cb i, 0, none⟩)) ∧ W.cell? ⟨g6, i, none⟩ = some (.pointer (some ⟨rb i, 0, none⟩)) ∧ W.cell? ⟨rb i, 1, none⟩ = some (.slice pr (L i).length cr) ∧ Below wq.heap.size wq W) → Below W.heap.size W W' → (W'.cell? ⟨g5, i, none⟩ = some (.pointer (some ⟨cb i, 0, none⟩)) ∧ W'.cell? ⟨g6, i, none⟩ = some (.pointer (some ⟨rb i, 0, none⟩)) ∧ W'.cell? ⟨rb i, 1, none⟩ = some (.slice pr (L i).length cr) ∧ Below wq.heap.size wq W') := fun W W' h hb => by
            have hs := h.2.2.2.size
            exact ⟨(hb.cell (p := ⟨g5, i, none⟩) (by show g5 < W.heap.size; omega)).trans h.1, (hb.cell (p := ⟨g6, i, none⟩) (by show g6 < W.heap.size; omega)).trans h.2.1, (hb.cell (p := ⟨rb i, 1, none⟩) (by show rb i < W.heap.size; omega)).trans h.2.2.1, h.2.2.2.trans (hb.mono hs)⟩
          have hli : ∀ W, Below wq.heap.size wq W → _ := fun W hb => list_any W (c1.below hb) (by omega)
          have hle : ∀ W, Below wq.heap.size wq W → _ := fun W hb => len_any W (c1.below hb)
          have hsm : ∀ (W W' : World) (va : Value), Below wq.heap.size wq W → W.ownsRow W'.heap.size 28 2 va (L i).length (flatP (L i)) → Calls Try.prog 17 #[va, .slice pr (L i).length cr] W fun e w' => e = .returned (.bool true) ∧ Gr W w' := fun W W' va hb ho => by
            have := same_any va (.slice pr (L i).length cr) (L i) (L i) W (owns_lst ho) (lr.below hb) (by unfold maxLen; omega)
            rw [decide_eq_true rfl] at this
            exact this
          have hse : ∀ q : Int, (q != q) = false := fun q => by simp
          go_wp2_with fail
          clear p5 p6 q1 er c1 r1 lr c2 c3 r2 r3 HL HD
          go_region_held3 (fun W => W.cell? ⟨g5, i, none⟩ = some (.pointer (some ⟨cb i, 0, none⟩)) ∧ W.cell? ⟨g6, i, none⟩ = some (.pointer (some ⟨rb i, 0, none⟩)) ∧ W.cell? ⟨rb i, 1, none⟩ = some (.slice pr (L i).length cr) ∧ Below wq.heap.size wq W)
            (first | exact S0 | exact keepB _ _ (by assumption) (Gr.refl _).drew.below | exact keepB _ _ (by assumption) (by assumption) | exact keepB _ _ (by assumption) (Gr.below (by assumption)) | assumption)
            (first | (go_at_call 13; refine (hli _ (And.right (And.right (And.right (by assumption))))).mono ?_; rintro e w5 ⟨va, rfl, ha5, hb5⟩) | (go_at_call 17; refine (hsm _ _ _ (And.right (And.right (And.right (by assumption)))) ha5).mono ?_; rintro e w6 ⟨rfl, hg6⟩) | (go_at_call 12; refine (hle _ (And.right (And.right (And.right (by assumption))))).mono ?_; rintro e w7 ⟨rfl, rfl⟩))
          have HF : Hid (Scr w w7 r fb ff m nb cb rb v rv L V Wv D ow (.slice (some ⟨g5, 0, none⟩) m c5) (.slice (some ⟨g6, 0, none⟩) m c6) u7) := HS.out.kept (((Gr.refl wq).drew.below.trans hb5).trans (hg6.below.mono hb5.size))
          clear HS hb5 hg6 ha5 hli hle hsm keepB S0
          go_wp2
          exact ⟨⟨i + 1, by omega, by go_num, HF⟩, by simp [RowKit.intOf]; omega⟩
        · have himz : ¬ (i : Int) < (m : Int) := by omega
          obtain ⟨pb, bb, c7, e7, hbook, hB⟩ := HS.out.book HD.out hnb9
          subst e7
          have hbl := HS.out.below
          have hst := stay_any w.heap.size nb bb 0 c7 pb V Wv D wq hbook hB hbl.size
          clear hbook hB HS HL HD
          go_wp2_with fail
          refine hst.mono ?_
          rintro e w9 ⟨rfl, hb9⟩
          go_wp2
          go_ret
          exact ⟨rfl, hbl.trans hb9⟩
end Go.Proofs.Ytbomkeginbhhoaa
