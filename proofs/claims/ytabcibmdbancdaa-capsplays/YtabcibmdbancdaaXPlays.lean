import Derived.Test.YtabcibmdbancdaaXPy
namespace Go.Proofs.Ytabcibmdbancdaa
open Go.RowKit Go.Sort Go.Maps
attribute [local go_sem ↓] Go.wp_at_zero Go.wp_at_succ

/-- What a copy leaves. -/
def Cp (most : Int) (p : Pp) (W8 : World) (B9 : Nat) (p' : Pp) (w' : World) : Prop :=
  w'.heap[B9]? = some (.cells #[.pointer (some ⟨p'.tb, 0, none⟩), .pointer (some ⟨p'.rb, 0, none⟩)] 49 (0, 0)) ∧ Ok1 most p' w' ∧ Below W8.heap.size W8 w' ∧ (∀ k, p'.own k → W8.heap.size ≤ k) ∧ p'.last = p.last
section
variable {most : Int} {p p' : Pp} {W8 w5 w6 : World}
theorem Cp.new (h : Ok1 most p' w6) (hb : Below W8.heap.size W8 w6) (hn : ∀ k, p'.own k → W8.heap.size ≤ k) (h1 : p'.last = p.last) :
    Cp most p W8 w6.heap.size p' (w6.alloc (.cells #[.pointer (some ⟨p'.tb, 0, none⟩), .pointer (some ⟨p'.rb, 0, none⟩)] 49)) :=
  ⟨heap_new' _ _, h.gr ((Gr.refl _).alloc _), hb.trans (((Gr.refl _).alloc _).below.mono hb.size), hn, h1⟩
theorem Cp.set {b : Nat} {d0 d1 : Value} (h : Ok1 most p' w6) (hb : Below W8.heap.size W8 w6) (hn : ∀ k, p'.own k → W8.heap.size ≤ k) (h1 : p'.last = p.last) (hbl : w6.heap[b]? = some (.cells #[d0, d1] 49 (0, 0))) (hge : W8.heap.size ≤ b) :
    Cp most p W8 b p' ((w6.setCell ⟨b, 0, none⟩ (.pointer (some ⟨p'.tb, 0, none⟩))).setCell ⟨b, 1, none⟩ (.pointer (some ⟨p'.rb, 0, none⟩))) := by
  obtain ⟨b1, k1, z1⟩ := setCell_blk (k := 0) (v := .pointer (some ⟨p'.tb, 0, none⟩)) hbl
  obtain ⟨b2, k2, z2⟩ := setCell_blk (k := 1) (v := .pointer (some ⟨p'.rb, 0, none⟩)) b1
  have hk := k1.trans k2 (fun _ _ h => h)
  have hno : ∀ k, p'.own k → ¬ k = b := fun k hq e => by
    subst e
    rcases hq with hk | hk | hk | hk
    · have h2 := h.c.blk
      rw [← hk, hbl] at h2
      simp at h2
    · exact h.c.mp.not_cells (by rw [← hk]; exact hbl)
    · have h2 := h.r.blk
      rw [← hk, hbl] at h2
      simp at h2
    · obtain ⟨_, ⟨h3, _⟩ | ⟨g', cap, cur, h3, _, hh, _⟩⟩ := h.r.row
      · rw [h3] at hk
        simp [Value.ownBlock] at hk
      · rw [h3] at hk
        simp [Value.ownBlock] at hk
        rw [hk, hbl] at hh
        simp at hh
  exact ⟨b2, h.kp hk hno, hb.trans (hk.below hb.size (fun k hk => by subst hk; exact hge)), hn, h1⟩
/-- The copy of a pair. -/
abbrev pc (p : Pp) (tb b rb : Nat) (v : Value) : Pp := ⟨tb, b, rb, v, p.last, p.L⟩
theorem cp_ok {tb5 b5 rb6 : Nat} {v6 : Value} (z5 : W8.heap.size ≤ tb5 ∧ W8.heap.size ≤ b5) (c5 : Cs w5 tb5 b5 most p.last p.L) (b56 : Below w5.heap.size w5 w6) (z6 : W8.heap.size ≤ rb6) (r6 : Rc w6 rb6 v6 most p.last p.L) (n6 : ∀ g, v6.ownBlock = some g → W8.heap.size ≤ g) :
    Ok1 most (pc p tb5 b5 rb6 v6) w6 ∧ ∀ k, (pc p tb5 b5 rb6 v6).own k → W8.heap.size ≤ k := by
  refine ⟨⟨c5.below b56, r6⟩, fun k hk => ?_⟩
  rcases hk with hk | hk | hk | hk
  · have : k = tb5 := hk
    omega
  · have : k = b5 := hk
    omega
  · have : k = rb6 := hk
    omega
  · exact n6 k hk
end
set_option maxHeartbeats 30000000 in
set_option maxRecDepth 100000 in
theorem capsPlays_any (n : Int) (vs : Value) (sc : List Opx) (w : World) (hs : Ls EO w vs sc) (hn : sc.length * 56 ≤ 140737488351232) : Calls Try.prog 4 #[.int .i64 n, vs] w fun e w' => e = .returned (.bool true) ∧ Below w.heap.size w w' := by
  have hmx : Try.prog.follows .mixedOrders = true := by kernel_rfl
  have htk := taken_any w
  obtain ⟨ps0, cs0, rfl⟩ := hs.form
  have HS := hid hs
  have hnb : (sc.length : Int) ≤ 2513169434843 := by omega
  clear hs
  go_enter Try.func4, Try.ntmps4
  go_wp2_with fail
  refine htk.mono ?_
  rintro e w1 ⟨rfl, hb1⟩
  clear htk
  go_wp2_with fail
  refine (new_any n w1).mono ?_
  rintro e w2 ⟨rfl, hc2, hg2⟩
  go_wp2_with fail
  refine (rnew_any n w2).mono ?_
  rintro e w3 ⟨rfl, hr3, hg3⟩
  obtain ⟨Bl, hBl⟩ : ∃ B, B = w3.heap.size := ⟨_, rfl⟩
  obtain ⟨tb, htb⟩ : ∃ t, t = w1.heap.size + 1 := ⟨_, rfl⟩
  obtain ⟨rb, hrb⟩ : ∃ t, t = w2.heap.size := ⟨_, rfl⟩
  obtain ⟨W, hW⟩ : ∃ W, W = w3.alloc (.cells #[.pointer (some ⟨tb, 0, none⟩), .pointer (some ⟨rb, 0, none⟩)] 49) := ⟨_, rfl⟩
  have P0 := hid (Py.init (tb := tb) (b := w1.heap.size) (rb := rb) (hb1.trans (hg2.below.mono hb1.size)) (by have := hb1.size; omega) hb1.size (by rw [htb]; exact hc2) (by omega) (by rw [hrb]; exact hr3) hg3.below hBl hW)
  obtain ⟨u0, u1⟩ : W.cell? ⟨Bl, 0, none⟩ = some (.pointer (some ⟨tb, 0, none⟩)) ∧ Bl < W.heap.size := by
    rw [hW, hBl]
    exact ⟨cell_new w3 _ _ 0 _ rfl, by simp⟩
  go_wp2_with fail
  rw [← htb, ← hrb, ← hBl, ← hW]
  clear hc2 hr3 hg2 hg3 hb1 htb hrb hW hBl u0 u1
  go_loopw [5, 6, 7, 8, 9] (fun s5 s6 _ _ _ wr => ∃ (i : Nat) (ps : List Pp) (ow : Nat → Nat), i ≤ sc.length ∧ s6 = .int .i64 i ∧ Hid (Py w n s5 ps i ow wr)) (fun _ s6 _ _ _ _ => sc.length - (RowKit.intOf s6).toNat)
  case atStart => exact ⟨0, _, _, Nat.zero_le _, rfl, P0.out⟩
  case round =>
    clear P0
    obtain ⟨i, ps, ow, hi, rfl, PP⟩ := hrel
    by_cases hlt : i < sc.length
    · have hltz : (i : Int) < (sc.length : Int) := by omega
      have i0 : (0 : Int) ≤ (i : Int) := by omega
      obtain ⟨⟨kd, on, id, ⟨q, x, y, z⟩, hwf⟩, hx⟩ : ∃ x, sc[i]? = some x := ⟨sc[i], by rw [List.getElem?_eq_getElem]⟩
      obtain ⟨b1, o1, c1, e1, z1, x0, x1, x2, x3, x4, x5, x6⟩ := (HS.out.below PP.out.bl).atO hx
      simp only [Value.slice.injEq] at e1
      obtain ⟨rfl, -, rfl⟩ := e1
      simp only at x0 x1 x2 x3 x4 x5 x6
      clear hx
      obtain ⟨p0, hp0⟩ : ∃ p, ps[0]? = some p := ⟨ps[0]'PP.out.ne, by rw [List.getElem?_eq_getElem]⟩
      obtain ⟨b2, o2, c2, e2, z2, y0, y1⟩ := PP.out.at hp0
      subst e2
      have few := PP.out.few
      have ne := PP.out.ne
      have nez : (0 : Int) < (ps.length : Int) := by omega
      simp only [Nat.zero_mul, Nat.add_zero] at y0 y1
      go_upto_region 11 with fail
      go_cut [46] (fun s46 w' => ∃ t : Bool, s46 = .bool t ∧ Hid (t = true ↔ 0 < on ∧ on < (ps.length : Int)) ∧ w' = (wr.alloc (.cells #[.int .i64 kd, .int .i64 on, .int .i64 id, .int .i64 q, .int .u64 x, .int .u64 y, .int .u64 z] 33)).alloc (.cells #[.pointer (some ⟨p0.tb, 0, none⟩), .pointer (some ⟨p0.rb, 0, none⟩)] 49))
      case first =>
        by_cases h2 : 0 < on
        · by_cases h3 : on < (ps.length : Int)
          · go_wp2_with fail
            go_meet
            exact ⟨true, rfl, ⟨fun _ => ⟨h2, h3⟩, fun _ => rfl⟩, rfl⟩
          · go_wp2_with fail
            go_meet
            exact ⟨false, rfl, ⟨nofun, fun h => absurd h.2 (by omega)⟩, rfl⟩
        · go_wp2_with fail
          go_meet
          exact ⟨false, rfl, ⟨nofun, fun h => absurd h.1 (by omega)⟩, rfl⟩
      case rest =>
        obtain ⟨tt, rfl, HT, hwc⟩ := hcut
        rw [hwc]
        clear hwc
        go_upto_if 46 with fail
        go_cut [46] (fun _ w' => ∃ (j : Nat) (p : Pp), Hid (ps[j]? = some p) ∧ w' = (wr.alloc (.cells #[.int .i64 kd, .int .i64 on, .int .i64 id, .int .i64 q, .int .u64 x, .int .u64 y, .int .u64 z] 33)).alloc (.cells #[.pointer (some ⟨p.tb, 0, none⟩), .pointer (some ⟨p.rb, 0, none⟩)] 49))
        case first =>
          cases tt with
          | true =>
            have hon := HT.out.1 rfl
            obtain ⟨j, hje⟩ : ∃ j : Nat, on = (j : Int) := ⟨on.toNat, by omega⟩
            subst hje
            have hjl : j < ps.length := by omega
            obtain ⟨p, hp⟩ : ∃ p, ps[j]? = some p := ⟨ps[j], by rw [List.getElem?_eq_getElem]⟩
            obtain ⟨b3, o3, c3, e3, z3, t0, t1⟩ := PP.out.at hp
            simp only [Value.slice.injEq, Option.some.injEq, Addr.mk.injEq, and_true] at e3
            obtain ⟨⟨rfl, rfl⟩, -, rfl⟩ := e3
            have j1 : (j : Int) < (ps.length : Int) := hon.2
            have j0 : (0 : Int) ≤ (j : Int) := by omega
            have j2 : (0 : Int) < (j : Int) := hon.1
            clear hon HT
            go_wp2_with fail
            go_meet
            exact ⟨j, p, hp, rfl⟩
          | false =>
            clear HT
            go_wp2_with fail
            go_meet
            exact ⟨0, p0, hp0, rfl⟩
        case rest =>
          obtain ⟨j, p, HJ, hwc⟩ := hcut
          rw [hwc]
          clear hwc
          obtain ⟨B7, hB7⟩ : ∃ B, B = wr.heap.size := ⟨_, rfl⟩
          obtain ⟨B8, hB8⟩ : ∃ B, B = B7 + 1 := ⟨_, rfl⟩
          obtain ⟨W8, hW8⟩ : ∃ W, W = (wr.alloc (.cells #[.int .i64 kd, .int .i64 on, .int .i64 id, .int .i64 q, .int .u64 x, .int .u64 y, .int .u64 z] 33)).alloc (.cells #[.pointer (some ⟨p.tb, 0, none⟩), .pointer (some ⟨p.rb, 0, none⟩)] 49) := ⟨_, rfl⟩
          have G8 : Gr wr W8 := by rw [hW8]; exact ((Gr.refl _).alloc _).alloc _
          have hb7 : W8.heap[B7]? = some (.cells #[.int .i64 kd, .int .i64 on, .int .i64 id, .int .i64 q, .int .u64 x, .int .u64 y, .int .u64 z] 33 (0, 0)) := by
            rw [hW8, hB7]
            exact (((Gr.refl _).alloc _).below.block _ (by simp)).trans (heap_new' _ _)
          have hb8 : W8.heap[B8]? = some (.cells #[.pointer (some ⟨p.tb, 0, none⟩), .pointer (some ⟨p.rb, 0, none⟩)] 49 (0, 0)) := by
            have h := heap_new' (wr.alloc (.cells #[.int .i64 kd, .int .i64 on, .int .i64 id, .int .i64 q, .int .u64 x, .int .u64 y, .int .u64 z] 33)) (.cells #[.pointer (some ⟨p.tb, 0, none⟩), .pointer (some ⟨p.rb, 0, none⟩)] 49)
            rw [show (wr.alloc (.cells #[.int .i64 kd, .int .i64 on, .int .i64 id, .int .i64 q, .int .u64 x, .int .u64 y, .int .u64 z] 33)).heap.size = B8 by rw [hB8, hB7]; simp] at h
            rw [hW8]; exact h
          have P8 := hid (PP.out.gr G8)
          have O8 := hid (P8.out.ok j p HJ.out)
          have hbd := P8.out.bd j p HJ.out
          have t0 := cellsOf hb7 0 _ rfl
          have t1 := cellsOf hb7 1 _ rfl
          have t2 := cellsOf hb7 2 _ rfl
          have t2a := cellsOf hb7 3 _ rfl
          have t2b := cellsOf hb7 4 _ rfl
          have t2c := cellsOf hb7 5 _ rfl
          have t2d := cellsOf hb7 6 _ rfl
          have t3 := cellsOf hb8 0 _ rfl
          have t4 := cellsOf hb8 1 _ rfl
          have t5 : B7 < W8.heap.size := blkLt hb7
          have t6 : B8 < W8.heap.size := blkLt hb8
          rw [← hW8, ← hB7, ← hB8]
          clear hW8 hB7 hB8 hb7 hb8 x0 x1 x2 x3 x4 x5 x6 y0 y1 G8 z1 z2
          by_cases hk6 : kd = 6
          · subst hk6
            have S0 : (W8.drew.cell? ⟨B8, 0, none⟩ = some (.pointer (some ⟨p.tb, 0, none⟩)) ∧ W8.drew.cell? ⟨B8, 1, none⟩ = some (.pointer (some ⟨p.rb, 0, none⟩)) ∧ B8 < W8.drew.heap.size ∧ Below W8.heap.size W8 W8.drew) := ⟨t3, t4, t6, (Gr.refl _).drew.below⟩
            have keepW : ∀ W : World, Below W8.heap.size W8 W → (W.cell? ⟨B8, 0, none⟩ = some (.pointer (some ⟨p.tb, 0, none⟩)) ∧ W.cell? ⟨B8, 1, none⟩ = some (.pointer (some ⟨p.rb, 0, none⟩)) ∧ B8 < W.heap.size ∧ Below W8.heap.size W8 W) := fun W h => ⟨(h.cell (p := ⟨B8, 0, none⟩) t6).trans t3, (h.cell (p := ⟨B8, 1, none⟩) t6).trans t4, Nat.lt_of_lt_of_le t6 h.size, h⟩
            have hset : ∀ (W : World) (b : Nat) (c0 c1 : Value), W8.heap.size ≤ b → Below W8.heap.size W8 W → Below W8.heap.size W8 ((W.setCell ⟨b, 0, none⟩ c0).setCell ⟨b, 1, none⟩ c1) := fun W b c0 c1 hb h => Below.setCell (p := ⟨b, 1, none⟩) (Below.setCell (p := ⟨b, 0, none⟩) h hb _) hb _
            have hcp : ∀ W : World, Below W8.heap.size W8 W → Calls Try.prog 14 #[.pointer (some ⟨p.tb, 0, none⟩)] W fun e w' => ∃ tb' b', e = .returned (.pointer (some ⟨tb', 0, none⟩)) ∧ W.heap.size ≤ tb' ∧ W.heap.size ≤ b' ∧ Cs w' tb' b' n p.last p.L ∧ Below W.heap.size W w' ∧ W8.heap.size < w'.heap.size := fun W h => (copy_any W (O8.out.below h).c).mono (fun e w' ⟨a1, a2, a3⟩ => ⟨W.heap.size + 1, W.heap.size, a1, by omega, Nat.le_refl _, a2, a3.below, by have := a2.lt; have := h.size; omega⟩)
            have hrc : ∀ W : World, Below W8.heap.size W8 W → Calls Try.prog 15 #[.pointer (some ⟨p.rb, 0, none⟩)] W fun e w' => ∃ rb' v', e = .returned (.pointer (some ⟨rb', 0, none⟩)) ∧ W.heap.size ≤ rb' ∧ Rc w' rb' v' n p.last p.L ∧ Below W.heap.size W w' ∧ (∀ g, v'.ownBlock = some g → W.heap.size ≤ g) ∧ W8.heap.size < w'.heap.size := fun W h => (rcopy_any W (O8.out.below h).r (by have := O8.out.len; omega)).mono (fun e w' ⟨rb', v', a1, a2, a3, a4, a5⟩ => ⟨rb', v', a1, a4, a2, a3, a5, Nat.lt_of_le_of_lt (Nat.le_trans h.size a4) a2.lt⟩)
            have hal : ∀ (W : World) (ob : Obj), Below W8.heap.size W8 W → Below W8.heap.size W8 (W.alloc ob) := fun W ob h => h.trans (((Gr.refl W).alloc ob).below.mono h.size)
            have htr : ∀ (W W' : World), Below W8.heap.size W8 W → Below W.heap.size W W' → Below W8.heap.size W8 W' := fun W W' h k => h.trans (k.mono h.size)
            have hdr : Below W8.heap.size W8 W8.drew := (Gr.refl _).drew.below
            go_upto_region 14 with fail
            go_cut [9] (fun s9 w' => ∃ (B9 : Nat) (p' : Pp), s9 = .pointer (some ⟨B9, 0, none⟩) ∧ Hid (Cp n p W8 B9 p' w'))
            case first =>
              go_region_held3 (fun w' => w'.cell? ⟨B8, 0, none⟩ = some (.pointer (some ⟨p.tb, 0, none⟩)) ∧ w'.cell? ⟨B8, 1, none⟩ = some (.pointer (some ⟨p.rb, 0, none⟩)) ∧ B8 < w'.heap.size ∧ Below W8.heap.size W8 w')
                (first | exact S0 | exact keepW _ (by assumption) | exact keepW _ (hal _ _ (by assumption)) | exact keepW _ (hset _ _ _ _ bm5.size (by assumption)) | exact keepW _ (hset _ _ _ _ bm6.size (by assumption)) | exact keepW _ (hset _ _ _ _ (Nat.le_refl _) (by assumption)) | exact keepW _ ((Gr.refl _).alloc _).drew.below | assumption)
                (first | (go_at_call 14; refine (hcp _ (by first | assumption | exact hal _ _ (by assumption) | exact ((Gr.refl _).alloc _).drew.below)).mono ?_; rintro e w5 ⟨tb5, b5, rfl, hge5, hgb5, q5, bl5, s5⟩; have bm5 := htr _ _ (by first | assumption | exact hal _ _ (by assumption) | exact ((Gr.refl _).alloc _).drew.below) bl5; obtain ⟨cc5, cf5⟩ := below_cells bl5; have z5 := bl5.size) | (go_at_call 15; refine (hrc _ (by first | assumption | exact hal _ _ (by assumption) | exact ((Gr.refl _).alloc _).drew.below)).mono ?_; rintro e w6 ⟨rb6, v6, rfl, hge6, r6, bl6, n6, s6⟩; have bm6 := htr _ _ (by first | assumption | exact hal _ _ (by assumption) | exact ((Gr.refl _).alloc _).drew.below) bl6; obtain ⟨cc6, cf6⟩ := below_cells bl6; have z6 := bl6.size))
              · go_wp2_with fail
                go_meet
                have hzd : W8.drew.heap.size = W8.heap.size := rfl
                obtain ⟨O6, hown⟩ := cp_ok (p := p) (W8 := W8) ⟨hge5, hgb5⟩ q5 bl6 (by omega) r6 (fun g hg => by have := n6 g hg; omega)
                exact ⟨w6.heap.size, pc p tb5 b5 rb6 v6, rfl, Cp.new O6 bm6 hown rfl⟩
              · go_wp2_with fail
                go_meet
                have hzd : W8.drew.heap.size = W8.heap.size := rfl
                have hsz : (w5.alloc (.cells #[.pointer none, .pointer none] 49)).heap.size = w5.heap.size + 1 := by simp
                have b56 : Below w5.heap.size w5 w6 := ((Gr.refl w5).alloc _).below.trans (bl6.mono (by omega))
                have hbl := (bl6.block w5.heap.size (by omega)).trans (heap_new' _ _)
                obtain ⟨O6, hown⟩ := cp_ok (p := p) (W8 := W8) ⟨hge5, hgb5⟩ q5 b56 (by omega) r6 (fun g hg => by have := n6 g hg; omega)
                exact ⟨w5.heap.size, pc p tb5 b5 rb6 v6, rfl, Cp.set O6 bm6 hown rfl hbl (by omega)⟩
              · go_wp2_with fail
                go_meet
                have hzd : (W8.alloc (.cells #[.pointer none, .pointer none] 49)).drew.heap.size = W8.heap.size + 1 := by
                  show (W8.alloc (.cells #[.pointer none, .pointer none] 49)).heap.size = _
                  simp
                have hX : (W8.alloc (.cells #[.pointer none, .pointer none] 49)).drew.heap[W8.heap.size]? = some (.cells #[.pointer none, .pointer none] 49 (0, 0)) := heap_new' W8 _
                have hbl := (bl6.block W8.heap.size (by omega)).trans ((bl5.block W8.heap.size (by omega)).trans hX)
                obtain ⟨O6, hown⟩ := cp_ok (p := p) (W8 := W8) ⟨by omega, by omega⟩ q5 bl6 (by omega) r6 (fun g hg => by have := n6 g hg; omega)
                exact ⟨W8.heap.size, pc p tb5 b5 rb6 v6, rfl, Cp.set O6 bm6 hown rfl hbl (Nat.le_refl _)⟩
            case rest =>
              obtain ⟨B9, p', rfl, HCP⟩ := hcut
              obtain ⟨hb9, O9, b9, n9, e9⟩ := HCP.out
              have PC := hid (P8.out.below b9)
              have u0 := cellsOf hb9 0 _ rfl
              have u1 := cellsOf hb9 1 _ rfl
              have u2 : B9 < wc.heap.size := blkLt hb9
              have H9 : Hid (Ok1 n p' wc ∧ Below W8.heap.size W8 wc ∧ (∀ k, p'.own k → W8.heap.size ≤ k) ∧ p'.last = p.last) := ⟨O9, b9, n9, e9⟩
              clear hb9 O9 b9 n9 e9 HCP keepW hset hcp hrc hal htr hdr S0 t0 t1 t2 t2a t2b t2c t2d t3 t4
              by_cases hm : ps.length < 4
              · have hmz : (ps.length : Int) < 4 := by omega
                go_wp2_with (at_builtin; refine wpAppP rfl _ _ rfl (.slice (some ⟨b2, o2, none⟩) ps.length c2) ps.length _ rfl PC.out.row (p'.tb, p'.rb) rfl few ?_)
                intro g10 c10 w10 ho10 hg10 hl10
                obtain ⟨ow', P10⟩ := P8.out.copy HJ.out H9.out.2.1 H9.out.1 H9.out.2.2.1 H9.out.2.2.2 hm ho10 (Kp.grownBy hg10 (fun _ h => h)) hl10
                have P10' := hid (P10.mono (B' := ((i + 1 : Nat) : Int)) (by omega))
                clear ho10 hg10 hl10 P10
                go_wp2
                go_roundw
                case rel => exact ⟨i + 1, _, ow', by omega, by go_num, P10'.out⟩
                case measure => simp [RowKit.intOf]; omega
              · have hmz : ¬ (ps.length : Int) < 4 := by omega
                have P10' := hid (PC.out.mono (B' := ((i + 1 : Nat) : Int)) (by omega))
                go_wp2
                go_roundw
                case rel => exact ⟨i + 1, ps, ow, by omega, by go_num, P10'.out⟩
                case measure => simp [RowKit.intOf]; omega
          · have hst := step_any ⟨kd, on, id, (q, x, y, z), hwf⟩ W8 O8.out (by omega)
            have hk6b : (kd == 6) = false := by simpa using hk6
            go_wp2_with fail
            refine hst.mono ?_
            rintro e w9 ⟨rfl, p9, hsp⟩
            obtain ⟨ps', ow', hl', P9⟩ := P8.out.step HJ.out hsp
            have P9' := hid (P9.mono (B' := ((i + 1 : Nat) : Int)) (by omega))
            clear hst hsp P9
            go_wp2
            go_roundw
            case rel => exact ⟨i + 1, ps', ow', by omega, by go_num, P9'.out⟩
            case measure => simp [RowKit.intOf]; omega
    · have hltz : ¬ (i : Int) < (sc.length : Int) := by omega
      have PN := hid (PP.out.mono (B' := (sc.length : Int)) (by omega))
      obtain ⟨p0, hp0⟩ : ∃ p, ps[0]? = some p := ⟨ps[0]'PP.out.ne, by rw [List.getElem?_eq_getElem]⟩
      obtain ⟨b2, o2, c2, e2, z2, y0, y1⟩ := PP.out.at hp0
      subst e2
      obtain ⟨m, hme⟩ : ∃ m, m = ps.length := ⟨_, rfl⟩
      have few : m ≤ 4 := by rw [hme]; exact PP.out.few
      have HME := hid hme
      clear hp0 y0 y1 z2 PP
      rw [← hme]
      rw [← hme] at PN
      clear hme
      go_wp2_with fail
      go_loopw [10] (fun s10 wr => ∃ (k : Nat) (qs : List Pp) (ow : Nat → Nat), k ≤ m ∧ s10 = .int .i64 k ∧ Hid (qs.length = m) ∧ Hid (Py w n (.slice (some ⟨b2, o2, none⟩) m c2) qs (sc.length + 2 * k) ow wr)) (fun s10 _ => m - (RowKit.intOf s10).toNat)
      case atStart => exact ⟨0, ps, ow, Nat.zero_le _, rfl, HME.out.symm, hid (by simpa using PN.out)⟩
      case round =>
        clear PN HME
        obtain ⟨k, qs, ow, hk, rfl, HQL, PP⟩ := hrel
        by_cases hlt2 : k < m
        · have hlt2z : (k : Int) < (m : Int) := by omega
          have k0 : (0 : Int) ≤ (k : Int) := by omega
          obtain ⟨q, hq⟩ : ∃ q, qs[k]? = some q := ⟨qs[k]'(by rw [HQL.out]; exact hlt2), by rw [List.getElem?_eq_getElem]⟩
          obtain ⟨b3, o3, c3, e3, z3, y0, y1⟩ := PP.out.at hq
          simp only [Value.slice.injEq, Option.some.injEq, Addr.mk.injEq, and_true] at e3
          obtain ⟨⟨rfl, rfl⟩, -, rfl⟩ := e3
          have hbd := PP.out.bd k q hq
          have hal := alike_any wr (PP.out.ok k q hq) (by omega)
          have HQ := hid hq
          clear hq
          go_wp2_with fail
          refine hal.mono ?_
          rintro e w9 ⟨rfl, ba⟩
          have P9 := hid (PP.out.below ba)
          have y0' := (ba.cell (p := ⟨b2, o2 + k * 2, none⟩) z3).trans y0
          have y1' := (ba.cell (p := ⟨b2, o2 + k * 2 + 1, none⟩) z3).trans y1
          have z9 := Nat.lt_of_lt_of_le z3 ba.size
          have hst := step_any ⟨1, 0, 0, (0, 0, 0, 0), by decide⟩ w9 (P9.out.ok k q HQ.out) (by omega)
          clear hal ba y0 y1 z3
          go_wp2_with fail
          refine hst.mono ?_
          rintro e w10 ⟨rfl, p10, hsp⟩
          obtain ⟨qs', ow', hl', P10⟩ := P9.out.step HQ.out hsp
          have HQ' := hid (hl'.trans HQL.out)
          obtain ⟨q2, hq2⟩ : ∃ q, qs'[k]? = some q := ⟨qs'[k]'(by rw [HQ'.out]; exact hlt2), by rw [List.getElem?_eq_getElem]⟩
          obtain ⟨b4, o4, c4, e4, z4, y2, y3⟩ := P10.at hq2
          simp only [Value.slice.injEq, Option.some.injEq, Addr.mk.injEq, and_true] at e4
          obtain ⟨⟨rfl, rfl⟩, -, rfl⟩ := e4
          have hbd2 := P10.bd k q2 hq2
          have hst2 := step_any ⟨5, 0, 0, (0, 0, 0, 0), by decide⟩ w10 (P10.ok k q2 hq2) (by omega)
          have HP10 := hid P10
          have HQ2 := hid hq2
          clear hst hsp P10 hl' y0' y1' z9 hq2
          go_wp2_with fail
          refine hst2.mono ?_
          rintro e w11 ⟨rfl, p11, hsp⟩
          obtain ⟨qs2, ow2, hl2, P11⟩ := HP10.out.step HQ2.out hsp
          have HQ3 := hid (hl2.trans HQ'.out)
          have P11' := hid (P11.mono (B' := (sc.length : Int) + 2 * ((k + 1 : Nat) : Int)) (by omega))
          clear hst2 hsp P11 hl2 y2 y3 z4
          go_wp2
          go_roundw
          case rel => exact ⟨k + 1, qs2, ow2, by omega, by go_num, HQ3.out, P11'.out⟩
          case measure => simp [RowKit.intOf]; omega
        · have hlt2z : ¬ (k : Int) < (m : Int) := by omega
          go_wp2
          go_ret
          exact ⟨rfl, PP.out.bl⟩
end Go.Proofs.Ytabcibmdbancdaa
