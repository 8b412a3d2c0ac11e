import Derived.Test.YtinggeflllgdmaaSoPy
import Derived.Test.YtinggeflllgdmaaSoTak
namespace Go.Proofs.Ytinggeflllgdmaa
open Go.RowKit Go.Sort
attribute [local go_sem ↓] Go.wp_at_zero Go.wp_at_succ

/-- What a copy leaves. -/
def Cp (n : Int) (W8 : World) (B9 : Nat) (p' : Nat × Nat) (w' : World) : Prop :=
  w'.heap[B9]? = some (.cells (pcs p'.1 p'.2) 41 (0, 0)) ∧ (∃ s, Ok1 w' p'.1 p'.2 n s) ∧ Below W8.heap.size W8 w' ∧ (∀ k, Of p' k → W8.heap.size ≤ k)
section
variable {n : Int} {s : Option T3} {p' : Nat × Nat} {W8 w6 : World}
theorem Cp.new (h : Ok1 w6 p'.1 p'.2 n s) (hb : Below W8.heap.size W8 w6) (hn : ∀ k, Of p' k → W8.heap.size ≤ k) :
    Cp n W8 w6.heap.size p' (w6.alloc (.cells (pcs p'.1 p'.2) 41)) :=
  have g := ((Gr.refl w6).alloc (.cells (pcs p'.1 p'.2) 41)).below
  ⟨heap_new' _ _, ⟨s, h.1.below g, h.2.1.below g, h.2.2⟩, hb.trans (g.mono hb.size), hn⟩
theorem Cp.set {b : Nat} {d0 d1 : Value} (h : Ok1 w6 p'.1 p'.2 n s) (hb : Below W8.heap.size W8 w6) (hn : ∀ k, Of p' k → W8.heap.size ≤ k) (hbl : w6.heap[b]? = some (.cells #[d0, d1] 41 (0, 0))) (hge : W8.heap.size ≤ b) :
    Cp n W8 b p' ((w6.setCell ⟨b, 0, none⟩ (.pointer (some ⟨p'.1, 0, none⟩))).setCell ⟨b, 1, none⟩ (.pointer (some ⟨p'.2, 0, none⟩))) := by
  obtain ⟨b1, k1⟩ := tk_set hbl 0 (.pointer (some ⟨p'.1, 0, none⟩))
  obtain ⟨b2, k2⟩ := tk_set b1 1 (.pointer (some ⟨p'.2, 0, none⟩))
  have hk := k1.trans k2 (fun _ _ h => h)
  have n1 : ¬ p'.1 = b := fun e => by
    have h2 : w6.heap[p'.1]? = _ := h.1
    rw [e, hbl] at h2
    simp at h2
  have n2 : ¬ p'.2 = b := fun e => by
    obtain ⟨t, h2, _⟩ := h.2.1
    have h2 : w6.heap[p'.2]? = _ := h2
    rw [e, hbl] at h2
    simp at h2
  exact ⟨b2, ⟨s, h.kp hk n1 n2⟩, hb.trans (hk.below hb.size (fun k hk => by subst hk; exact hge)), hn⟩
end
theorem two_ge {a b N : Nat} (h1 : N ≤ a) (h2 : N ≤ b) : ∀ k, Of (a, b) k → N ≤ k := fun k hk => by rcases hk with rfl | rfl <;> assumption
theorem tfits0 (n : Int) : (tfits 0 0 0 n = 0 ∧ 1 ≤ n ∧ n ≤ 3) ∨ (tfits 0 0 0 n = 10 ∧ ¬ (1 ≤ n ∧ n ≤ 3)) := by
  unfold tfits
  by_cases h : n < 1 ∨ 3 < n
  · rw [if_pos h]; exact .inr ⟨rfl, by omega⟩
  · rw [if_neg h, if_pos ⟨fun _ => rfl, fun _ => rfl⟩]; exact .inl ⟨rfl, by omega, by omega⟩
theorem cellsOf {w : World} {b : Nat} {cs : Array Value} {t : TypeId} (h : w.heap[b]? = some (.cells cs t (0, 0))) (i : Nat) (v : Value) (hv : cs[i]? = some v) : w.cell? ⟨b, i, none⟩ = some v := ((tk_store h).1 i).trans hv
set_option maxHeartbeats 30000000 in
set_option maxRecDepth 100000 in
theorem sourcePlays_any (n : Int) (vs : Value) (sc : List Opx) (w : World) (hs : Ls EO w vs sc) (hn : sc.length * 40 ≤ 140737488351232) : Calls Try.prog 4 #[.int .i64 n, vs] w fun e w' => e = .returned (.bool true) ∧ Below w.heap.size w w' := by
  obtain ⟨ps0, cs0, rfl⟩ := hs.form
  have HS := hid hs
  have hnb : (sc.length : Int) ≤ 3518437208780 := by omega
  clear hs
  rcases tfits0 n with ⟨hf, hn13⟩ | ⟨hf, hn13⟩
  · have HN := hid (fun W => newOk_any hf W)
    have HRN := hid (fun W => rnewOk_any hn13 W)
    clear hf hn13
    go_enter Try.func4, Try.ntmps4
    go_wp2_with fail
    refine (taken_any _).mono ?_
    rintro e w1 ⟨rfl, hb1⟩
    go_wp2_with fail
    refine (HN.out w1).mono ?_
    rintro e w2 ⟨tb, rfl, h2⟩
    go_wp2_with fail
    refine (HRN.out w2).mono ?_
    rintro e w3 ⟨rb, rfl, h3⟩
    clear HN HRN
    obtain ⟨Bl, hBl⟩ : ∃ B, B = w3.heap.size := ⟨_, rfl⟩
    obtain ⟨W, hW⟩ : ∃ W, W = w3.alloc (.cells #[.pointer (some ⟨tb, 0, none⟩), .pointer (some ⟨rb, 0, none⟩)] 41) := ⟨_, rfl⟩
    have P0 := hid (Py.init (hb1.trans (h2.out.2.2.below.mono hb1.size)) (by have := hb1.size; have := h2.out.2.1; omega) h2.out.1 h3.out.2.1 h3.out.1 h3.out.2.2.below hBl hW)
    go_wp2_with fail
    rw [← hBl, ← hW]
    clear h2 h3 hb1 hW hBl
    go_loopw [9, 10, 11, 12, 13] (fun s9 s10 _ _ _ wr => ∃ (i : Nat) (ps : List (Nat × Nat)), i ≤ sc.length ∧ s10 = .int .i64 i ∧ Hid (Py w n s9 ps wr)) (fun _ s10 _ _ _ _ => sc.length - (RowKit.intOf s10).toNat)
    case atStart => exact ⟨0, _, Nat.zero_le _, rfl, P0.out⟩
    case round =>
      clear P0
      obtain ⟨i, ps, hi, rfl, PP⟩ := hrel
      by_cases hlt : i < sc.length
      · have hltz : (i : Int) < (sc.length : Int) := by omega
        have i0 : (0 : Int) ≤ (i : Int) := by omega
        obtain ⟨⟨kd, on, x, y, z⟩, hx⟩ : ∃ x, sc[i]? = some x := ⟨sc[i], by rw [List.getElem?_eq_getElem]⟩
        obtain ⟨b1, o1, c1, e1, z1, x0, x1, x2, x3, x4⟩ := (HS.out.below PP.out.bl).atO hx
        simp only [Value.slice.injEq] at e1
        obtain ⟨rfl, -, rfl⟩ := e1
        simp only at x0 x1 x2 x3 x4
        clear hx
        obtain ⟨p0, hp0⟩ : ∃ p, ps[0]? = some p := ⟨ps[0]'PP.out.ne, by rw [List.getElem?_eq_getElem]⟩
        obtain ⟨b2, o2, c2, e2, z2, y0, y1⟩ := PP.out.at hp0
        subst e2
        have few := PP.out.few
        have ne := PP.out.ne
        have nez : (0 : Int) < (ps.length : Int) := by omega
        simp only [Nat.zero_mul, Nat.add_zero] at y0 y1
        go_upto_region 15 with fail
        go_cut [69] (fun s69 w' => ∃ t : Bool, s69 = .bool t ∧ Hid (t = true ↔ 0 < on ∧ on < (ps.length : Int)) ∧ w' = (wr.alloc (.cells #[.int .i64 kd, .int .i64 on, .int .u64 x, .int .u64 y, .int .u64 z] 44)).alloc (.cells #[.pointer (some ⟨p0.1, 0, none⟩), .pointer (some ⟨p0.2, 0, none⟩)] 41))
        case first =>
          by_cases h2 : 0 < on
          · by_cases h3 : on < (ps.length : Int)
            · go_wp2_with fail
              go_meet
              exact ⟨true, rfl, ⟨fun _ => ⟨h2, h3⟩, fun _ => rfl⟩, rfl⟩
            · go_wp2_with fail
              go_meet
              exact ⟨false, rfl, ⟨nofun, fun h => absurd h.2 (by omega)⟩, rfl⟩
          · go_wp2_with fail
            go_meet
            exact ⟨false, rfl, ⟨nofun, fun h => absurd h.1 (by omega)⟩, rfl⟩
        case rest =>
          obtain ⟨tt, rfl, HT, hwc⟩ := hcut
          rw [hwc]
          clear hwc
          go_upto_if 69 with fail
          go_cut [69] (fun _ w' => ∃ (j : Nat) (p : Nat × Nat), Hid (ps[j]? = some p) ∧ w' = (wr.alloc (.cells #[.int .i64 kd, .int .i64 on, .int .u64 x, .int .u64 y, .int .u64 z] 44)).alloc (.cells #[.pointer (some ⟨p.1, 0, none⟩), .pointer (some ⟨p.2, 0, none⟩)] 41))
          case first =>
            cases tt with
            | true =>
              have hon := HT.out.1 rfl
              obtain ⟨j, hje⟩ : ∃ j : Nat, on = (j : Int) := ⟨on.toNat, by omega⟩
              subst hje
              have hjl : j < ps.length := by omega
              obtain ⟨p, hp⟩ : ∃ p, ps[j]? = some p := ⟨ps[j], by rw [List.getElem?_eq_getElem]⟩
              obtain ⟨b3, o3, c3, e3, z3, t0, t1⟩ := PP.out.at hp
              simp only [Value.slice.injEq, Option.some.injEq, Addr.mk.injEq, and_true] at e3
              obtain ⟨⟨rfl, rfl⟩, -, rfl⟩ := e3
              have j1 : (j : Int) < (ps.length : Int) := hon.2
              have j0 : (0 : Int) ≤ (j : Int) := by omega
              have j2 : (0 : Int) < (j : Int) := hon.1
              clear hon HT
              go_wp2_with fail
              go_meet
              exact ⟨j, p, hp, rfl⟩
            | false =>
              clear HT
              go_wp2_with fail
              go_meet
              exact ⟨0, p0, hp0, rfl⟩
          case rest =>
            obtain ⟨j, p, HJ, hwc⟩ := hcut
            rw [hwc]
            clear hwc
            obtain ⟨B7, hB7⟩ : ∃ B, B = wr.heap.size := ⟨_, rfl⟩
            obtain ⟨B8, hB8⟩ : ∃ B, B = B7 + 1 := ⟨_, rfl⟩
            obtain ⟨W8, hW8⟩ : ∃ W, W = (wr.alloc (.cells #[.int .i64 kd, .int .i64 on, .int .u64 x, .int .u64 y, .int .u64 z] 44)).alloc (.cells #[.pointer (some ⟨p.1, 0, none⟩), .pointer (some ⟨p.2, 0, none⟩)] 41) := ⟨_, rfl⟩
            have G8 : Gr wr W8 := by rw [hW8]; exact ((Gr.refl _).alloc _).alloc _
            have hb7 : W8.heap[B7]? = some (.cells #[.int .i64 kd, .int .i64 on, .int .u64 x, .int .u64 y, .int .u64 z] 44 (0, 0)) := by
              rw [hW8, hB7]
              exact (((Gr.refl _).alloc _).below.block _ (by simp)).trans (heap_new' _ _)
            have hb8 : W8.heap[B8]? = some (.cells #[.pointer (some ⟨p.1, 0, none⟩), .pointer (some ⟨p.2, 0, none⟩)] 41 (0, 0)) := by
              have h := heap_new' (wr.alloc (.cells #[.int .i64 kd, .int .i64 on, .int .u64 x, .int .u64 y, .int .u64 z] 44)) (.cells #[.pointer (some ⟨p.1, 0, none⟩), .pointer (some ⟨p.2, 0, none⟩)] 41)
              rw [show (wr.alloc (.cells #[.int .i64 kd, .int .i64 on, .int .u64 x, .int .u64 y, .int .u64 z] 44)).heap.size = B8 by rw [hB8, hB7]; simp] at h
              rw [hW8]; exact h
            have P8 := hid (PP.out.gr G8)
            obtain ⟨s, hO8⟩ := P8.out.ok j p HJ.out
            have O8 := hid hO8
            have t0 := cellsOf hb7 0 _ rfl
            have t1 := cellsOf hb7 1 _ rfl
            have t2 := cellsOf hb7 2 _ rfl
            have t2a := cellsOf hb7 3 _ rfl
            have t2b := cellsOf hb7 4 _ rfl
            have t3 := cellsOf hb8 0 _ rfl
            have t4 := cellsOf hb8 1 _ rfl
            have t5 : B7 < W8.heap.size := tk_lt hb7
            have t6 : B8 < W8.heap.size := tk_lt hb8
            rw [← hW8, ← hB7, ← hB8]
            clear hW8 hB7 hB8 hb7 hb8 x0 x1 x2 x3 x4 y0 y1 G8 z1 z2 hO8
            by_cases hk5 : kd = 5
            · subst hk5
              have S0 : (W8.drew.cell? ⟨B8, 0, none⟩ = some (.pointer (some ⟨p.1, 0, none⟩)) ∧ W8.drew.cell? ⟨B8, 1, none⟩ = some (.pointer (some ⟨p.2, 0, none⟩)) ∧ B8 < W8.drew.heap.size ∧ Below W8.heap.size W8 W8.drew) := ⟨t3, t4, t6, (Gr.refl _).drew.below⟩
              have keepW : ∀ W : World, Below W8.heap.size W8 W → (W.cell? ⟨B8, 0, none⟩ = some (.pointer (some ⟨p.1, 0, none⟩)) ∧ W.cell? ⟨B8, 1, none⟩ = some (.pointer (some ⟨p.2, 0, none⟩)) ∧ B8 < W.heap.size ∧ Below W8.heap.size W8 W) := fun W h => ⟨(h.cell (p := ⟨B8, 0, none⟩) t6).trans t3, (h.cell (p := ⟨B8, 1, none⟩) t6).trans t4, Nat.lt_of_lt_of_le t6 h.size, h⟩
              have hset : ∀ (W : World) (b : Nat) (c0 c1 : Value), W8.heap.size ≤ b → Below W8.heap.size W8 W → Below W8.heap.size W8 ((W.setCell ⟨b, 0, none⟩ c0).setCell ⟨b, 1, none⟩ c1) := fun W b c0 c1 hb h => Below.setCell (p := ⟨b, 1, none⟩) (Below.setCell (p := ⟨b, 0, none⟩) h hb _) hb _
              have hcp : ∀ W : World, Below W8.heap.size W8 W → Calls Try.prog 12 #[.pointer (some ⟨p.1, 0, none⟩)] W fun e w' => ∃ tb', e = .returned (.pointer (some ⟨tb', 0, none⟩)) ∧ W.heap.size ≤ tb' ∧ So w' tb' n s ∧ Below W.heap.size W w' ∧ W8.heap.size < w'.heap.size := fun W h => (copy_any W (O8.out.1.below h)).mono (fun e w' ⟨tb', a1, a2⟩ => ⟨tb', a1, a2.out.2.1, a2.out.1, a2.out.2.2.below, Nat.lt_of_le_of_lt (Nat.le_trans h.size a2.out.2.1) (tk_lt a2.out.1)⟩)
              have hrc : ∀ W : World, Below W8.heap.size W8 W → Calls Try.prog 13 #[.pointer (some ⟨p.2, 0, none⟩)] W fun e w' => ∃ rb', e = .returned (.pointer (some ⟨rb', 0, none⟩)) ∧ W.heap.size ≤ rb' ∧ Ro w' rb' n s ∧ Below W.heap.size W w' ∧ W8.heap.size < w'.heap.size := fun W h => (rcopy_any W (O8.out.2.1.below h)).mono (fun e w' ⟨rb', a1, a2⟩ => ⟨rb', a1, a2.out.2.1, a2.out.1, a2.out.2.2.below, Nat.lt_of_le_of_lt (Nat.le_trans h.size a2.out.2.1) a2.out.1.lt⟩)
              have hal : ∀ (W : World) (ob : Obj), Below W8.heap.size W8 W → Below W8.heap.size W8 (W.alloc ob) := fun W ob h => h.trans (((Gr.refl W).alloc ob).below.mono h.size)
              have htr : ∀ (W W' : World), Below W8.heap.size W8 W → Below W.heap.size W W' → Below W8.heap.size W8 W' := fun W W' h k => h.trans (k.mono h.size)
              have hdr : Below W8.heap.size W8 W8.drew := (Gr.refl _).drew.below
              go_upto_region 18 with fail
              go_cut [13] (fun s13 w' => ∃ (B9 : Nat) (p' : Nat × Nat), s13 = .pointer (some ⟨B9, 0, none⟩) ∧ Hid (Cp n W8 B9 p' w'))
              case first =>
                go_region_held3 (fun w' => w'.cell? ⟨B8, 0, none⟩ = some (.pointer (some ⟨p.1, 0, none⟩)) ∧ w'.cell? ⟨B8, 1, none⟩ = some (.pointer (some ⟨p.2, 0, none⟩)) ∧ B8 < w'.heap.size ∧ Below W8.heap.size W8 w')
                  (first | exact S0 | exact keepW _ (by assumption) | exact keepW _ (hal _ _ (by assumption)) | exact keepW _ (hset _ _ _ _ bm5.size (by assumption)) | exact keepW _ (hset _ _ _ _ bm6.size (by assumption)) | exact keepW _ (hset _ _ _ _ (Nat.le_refl _) (by assumption)) | exact keepW _ ((Gr.refl _).alloc _).drew.below | assumption)
                  (first | (go_at_call 12; refine (hcp _ (by first | assumption | exact hal _ _ (by assumption) | exact ((Gr.refl _).alloc _).drew.below)).mono ?_; rintro e w5 ⟨tb5, rfl, hge5, q5, bl5, s5⟩; have bm5 := htr _ _ (by first | assumption | exact hal _ _ (by assumption) | exact ((Gr.refl _).alloc _).drew.below) bl5; obtain ⟨cc5, cf5⟩ := below_cells bl5; have z5 := bl5.size) | (go_at_call 13; refine (hrc _ (by first | assumption | exact hal _ _ (by assumption) | exact ((Gr.refl _).alloc _).drew.below)).mono ?_; rintro e w6 ⟨rb6, rfl, hge6, r6, bl6, s6⟩; have bm6 := htr _ _ (by first | assumption | exact hal _ _ (by assumption) | exact ((Gr.refl _).alloc _).drew.below) bl6; obtain ⟨cc6, cf6⟩ := below_cells bl6; have z6 := bl6.size))
                · go_wp2_with fail
                  go_meet
                  have hzd : W8.drew.heap.size = W8.heap.size := rfl
                  have l5 := tk_lt q5
                  exact ⟨w6.heap.size, (tb5, rb6), rfl, Cp.new (p' := (tb5, rb6)) ⟨q5.below bl6, r6, fun e => by have e2 : tb5 = rb6 := e; omega⟩ bm6 (two_ge (by omega) (by omega))⟩
                · go_wp2_with fail
                  go_meet
                  have hzd : W8.drew.heap.size = W8.heap.size := rfl
                  have hsz : (w5.alloc (.cells #[.pointer none, .pointer none] 41)).heap.size = w5.heap.size + 1 := by simp
                  have b56 : Below w5.heap.size w5 w6 := ((Gr.refl w5).alloc _).below.trans (bl6.mono (by omega))
                  have hbl := (bl6.block w5.heap.size (by omega)).trans (heap_new' _ _)
                  have l5 := tk_lt q5
                  exact ⟨w5.heap.size, (tb5, rb6), rfl, Cp.set (p' := (tb5, rb6)) ⟨q5.below b56, r6, fun e => by have e2 : tb5 = rb6 := e; omega⟩ bm6 (two_ge (by omega) (by omega)) hbl (by omega)⟩
                · go_wp2_with fail
                  go_meet
                  have hzd : (W8.alloc (.cells #[.pointer none, .pointer none] 41)).drew.heap.size = W8.heap.size + 1 := by
                    show (W8.alloc (.cells #[.pointer none, .pointer none] 41)).heap.size = _
                    simp
                  have hX : (W8.alloc (.cells #[.pointer none, .pointer none] 41)).drew.heap[W8.heap.size]? = some (.cells #[.pointer none, .pointer none] 41 (0, 0)) := heap_new' W8 _
                  have hbl := (bl6.block W8.heap.size (by omega)).trans ((bl5.block W8.heap.size (by omega)).trans hX)
                  have l5 := tk_lt q5
                  exact ⟨W8.heap.size, (tb5, rb6), rfl, Cp.set (p' := (tb5, rb6)) ⟨q5.below bl6, r6, fun e => by have e2 : tb5 = rb6 := e; omega⟩ bm6 (two_ge (by omega) (by omega)) hbl (Nat.le_refl _)⟩
              case rest =>
                obtain ⟨B9, p', rfl, HCP⟩ := hcut
                obtain ⟨hb9, O9, b9, n9⟩ := HCP.out
                obtain ⟨s9, O9⟩ := O9
                have PC9 := hid (P8.out.below b9)
                have u0 := cellsOf hb9 0 _ rfl
                have u1 := cellsOf hb9 1 _ rfl
                have u2 : B9 < wc.heap.size := tk_lt hb9
                have H9 : Hid (Ok1 wc p'.1 p'.2 n s9 ∧ Below W8.heap.size W8 wc ∧ (∀ k, Of p' k → W8.heap.size ≤ k)) := ⟨O9, b9, n9⟩
                clear hb9 O9 b9 n9 HCP keepW hset hcp hrc hal htr hdr S0 t0 t1 t2 t2a t2b t3 t4
                by_cases hm : ps.length < 4
                · have hmz : (ps.length : Int) < 4 := by omega
                  go_wp2_with (at_builtin; refine wpAppP rfl _ _ rfl (.slice (some ⟨b2, o2, none⟩) ps.length c2) ps.length _ rfl PC9.out.row p' rfl few ?_)
                  intro g10 c10 w10 ho10 hg10 hl10
                  have P10' := hid (P8.out.copy H9.out.2.1 H9.out.1 H9.out.2.2 hm ho10 (Kp.grownBy hg10 (fun _ h => h)) hl10)
                  clear ho10 hg10 hl10
                  go_wp2
                  go_roundw
                  case rel => exact ⟨i + 1, _, by omega, by go_num, P10'.out⟩
                  case measure => simp [RowKit.intOf]; omega
                · have hmz : ¬ (ps.length : Int) < 4 := by omega
                  go_wp2
                  go_roundw
                  case rel => exact ⟨i + 1, ps, by omega, by go_num, PC9.out⟩
                  case measure => simp [RowKit.intOf]; omega
            · have hst := hid (step_any ⟨kd, on, x, y, z⟩ W8 O8.out)
              have hk5b : (kd == 5) = false := by simpa using hk5
              go_wp2_with fail
              refine hst.out.mono ?_
              rintro e w9 ⟨rfl, hsp⟩
              have P9' := hid (P8.out.step HJ.out hsp.out)
              clear hst hsp
              go_wp2
              go_roundw
              case rel => exact ⟨i + 1, ps, by omega, by go_num, P9'.out⟩
              case measure => simp [RowKit.intOf]; omega
      · have hltz : ¬ (i : Int) < (sc.length : Int) := by omega
        obtain ⟨p0, hp0⟩ : ∃ p, ps[0]? = some p := ⟨ps[0]'PP.out.ne, by rw [List.getElem?_eq_getElem]⟩
        obtain ⟨b2, o2, c2, e2, z2, y0, y1⟩ := PP.out.at hp0
        subst e2
        obtain ⟨m, hme⟩ : ∃ m, m = ps.length := ⟨_, rfl⟩
        have few : m ≤ 4 := by rw [hme]; exact PP.out.few
        have HME := hid hme
        have PN := hid PP.out
        clear hp0 y0 y1 z2 PP
        rw [← hme]
        rw [← hme] at PN
        clear hme
        go_wp2_with fail
        go_loopw [14] (fun s14 wr => ∃ (k : Nat), k ≤ m ∧ s14 = .int .i64 k ∧ Hid (Py w n (.slice (some ⟨b2, o2, none⟩) m c2) ps wr)) (fun s14 _ => m - (RowKit.intOf s14).toNat)
        case atStart => exact ⟨0, Nat.zero_le _, rfl, PN.out⟩
        case round =>
          clear PN
          obtain ⟨k, hk, rfl, PP⟩ := hrel
          by_cases hlt2 : k < m
          · have hlt2z : (k : Int) < (m : Int) := by omega
            have k0 : (0 : Int) ≤ (k : Int) := by omega
            obtain ⟨q, hq⟩ : ∃ q, ps[k]? = some q := ⟨ps[k]'(by rw [← HME.out]; exact hlt2), by rw [List.getElem?_eq_getElem]⟩
            have HQ := hid hq
            clear hq
            obtain ⟨b3, o3, c3, e3, z3, y0, y1⟩ := PP.out.at HQ.out
            rw [← HME.out] at e3
            simp only [Value.slice.injEq, Option.some.injEq, Addr.mk.injEq, and_true] at e3
            obtain ⟨⟨rfl, rfl⟩, -, rfl⟩ := e3
            obtain ⟨s, hs⟩ := PP.out.ok k q HQ.out
            have hst := hid (step_any ⟨4, 0, 0, 0, 0⟩ _ hs)
            clear hs
            go_wp2_with fail
            refine hst.out.mono ?_
            rintro e wq0 ⟨rfl, hsp⟩
            have P1 := hid (PP.out.step HQ.out hsp.out)
            clear hst hsp y0 y1 z3 PP
            obtain ⟨b3, o3, c3, e3, z3, y0, y1⟩ := P1.out.at HQ.out
            rw [← HME.out] at e3
            simp only [Value.slice.injEq, Option.some.injEq, Addr.mk.injEq, and_true] at e3
            obtain ⟨⟨rfl, rfl⟩, -, rfl⟩ := e3
            obtain ⟨s, hs⟩ := P1.out.ok k q HQ.out
            have hst := hid (step_any ⟨3, 0, 0, 0, 0⟩ _ hs)
            clear hs
            go_wp2_with fail
            refine hst.out.mono ?_
            rintro e wq1 ⟨rfl, hsp⟩
            have P2 := hid (P1.out.step HQ.out hsp.out)
            clear hst hsp y0 y1 z3 P1
            obtain ⟨b3, o3, c3, e3, z3, y0, y1⟩ := P2.out.at HQ.out
            rw [← HME.out] at e3
            simp only [Value.slice.injEq, Option.some.injEq, Addr.mk.injEq, and_true] at e3
            obtain ⟨⟨rfl, rfl⟩, -, rfl⟩ := e3
            obtain ⟨s, hs⟩ := P2.out.ok k q HQ.out
            have hst := hid (step_any ⟨1, 0, 0, 0, 0⟩ _ hs)
            clear hs
            go_wp2_with fail
            refine hst.out.mono ?_
            rintro e wq2 ⟨rfl, hsp⟩
            have P3 := hid (P2.out.step HQ.out hsp.out)
            clear hst hsp y0 y1 z3 P2
            go_wp2
            go_roundw
            case rel => exact ⟨k + 1, by omega, by go_num, P3.out⟩
            case measure => simp [RowKit.intOf]; omega
          · have hlt2z : ¬ (k : Int) < (m : Int) := by omega
            go_wp2
            go_ret
            exact ⟨rfl, PP.out.bl⟩
  · have HN := hid (fun W => newNo_any hf W)
    have HRN := hid (fun W => rnewNo_any hn13 W)
    clear hf hn13
    go_enter Try.func4, Try.ntmps4
    go_wp2_with fail
    refine (taken_any _).mono ?_
    rintro e w1 ⟨rfl, hb1⟩
    go_wp2_with fail
    refine (HN.out w1).mono ?_
    rintro e w2 ⟨rfl, h2⟩
    go_wp2_with fail
    refine (HRN.out w2).mono ?_
    rintro e w3 ⟨rfl, rfl⟩
    have HB := hid (hb1.trans (h2.below.mono hb1.size))
    clear HN HRN hb1 h2
    go_wp2_with fail
    go_ret
    exact ⟨rfl, HB.out⟩
end Go.Proofs.Ytinggeflllgdmaa
