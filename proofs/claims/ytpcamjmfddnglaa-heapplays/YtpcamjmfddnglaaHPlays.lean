import Derived.Test.YtpcamjmfddnglaaHPy
import Derived.Test.YtpcamjmfddnglaaHTaken
import Derived.Test.YtpcamjmfddnglaaHArgs
namespace Go.Proofs.Ytpcamjmfddnglaa.Ht
open Go.RowKit Go.Sort Hp
attribute [local go_sem ↓] Go.wp_at_zero Go.wp_at_succ

theorem o_at {w : World} {v : Value} {ts : List Op6} (h : Ls EO w v ts) {j : Nat} {x : Op6} (hj : ts[j]? = some x) :
    ∃ b off c, v = .slice (some ⟨b, off, none⟩) ts.length c ∧ b < w.heap.size ∧ w.cell? ⟨b, off + j * 3, none⟩ = some (.int .i64 x.1) ∧ w.cell? ⟨b, off + j * 3 + 1, none⟩ = some (.int .i64 x.2.1) ∧ w.cell? ⟨b, off + j * 3 + 2, none⟩ = some (.int .i64 x.2.2) := by
  obtain ⟨b, off, c, hv, hb, hc⟩ := h.get hj
  exact ⟨b, off, c, hv, hb, hc 0 _ (by decide) rfl, hc 1 _ (by decide) rfl, hc 2 _ (by decide) rfl⟩
theorem Py.init {w w2 W : World} {ff hb rb Bl : Nat} {o : Int} (hb2 : Below w.heap.size w w2) (hge : w.heap.size ≤ hb) (hq : Hq w2 hb ff (.slice none 0 0) (okey o) [] 0) (hrb : rb = w2.heap.size) (hBl : Bl = rb + 1)
    (hW : W = (w2.alloc (.cells #[.int .i64 o, .slice none 0 0] 47)).alloc (.cells #[.pointer (some ⟨hb, 0, none⟩), .pointer (some ⟨rb, 0, none⟩)] 49)) :
    Py w ff o (.slice (some ⟨Bl, 0, none⟩) 1 1) [⟨hb, rb, .slice none 0 0, .slice none 0 0, [], [], 0⟩] 0 (fun k => if k < w.heap.size then 0 else if k = Bl then 1 else 3) W := by
  have hl := hq.h.lt
  have hz := hb2.size
  have g1 : Gr w2 (w2.alloc (.cells #[.int .i64 o, .slice none 0 0] 47)) := (Gr.refl _).alloc _
  have g2 : Gr (w2.alloc (.cells #[.int .i64 o, .slice none 0 0] 47)) W := by rw [hW]; exact (Gr.refl _).alloc _
  have hsz : (w2.alloc (.cells #[.int .i64 o, .slice none 0 0] 47)).heap.size = Bl := by rw [hBl, hrb]; simp
  have hone : ∀ (i : Nat) (p : Pp), [(⟨hb, rb, .slice none 0 0, .slice none 0 0, [], [], 0⟩ : Pp)][i]? = some p → i = 0 ∧ p = ⟨hb, rb, .slice none 0 0, .slice none 0 0, [], [], 0⟩ := fun i p hp => by
    have hi := (List.getElem?_eq_some_iff.1 hp).1
    simp at hi
    subst hi
    simp at hp
    exact ⟨rfl, hp.symm⟩
  refine ⟨by simp, by simp, ?_, fun i p hp => ?_, fun i p hp => ?_, fun i p hp k hk => ?_, fun k hk => ?_, fun k hk => if_pos hk, (hb2.trans (g1.below.mono hz)).trans (g2.below.mono (Nat.le_trans hz g1.size))⟩
  · have h := World.ownsRow_lit (base := 0) (e := 49) (size := 2) (w2.alloc (.cells #[.int .i64 o, .slice none 0 0] 47)) #[.pointer (some ⟨hb, 0, none⟩), .pointer (some ⟨rb, 0, none⟩)] 1 (Nat.zero_le _) (by unfold maxLen; omega) rfl
    rw [hsz] at h
    rw [hW]
    exact h
  · obtain ⟨_, rfl⟩ := hone i p hp
    refine ⟨hq.below (g1.trans g2).below, ⟨?_, World.ownsRow_nil _ _ _ _, by simp [Value.ownBlock]⟩, ?_, by simp [Value.ownBlock], by simp [Value.ownBlock], by simp [Value.ownBlock], by simp, List.Perm.refl _⟩
    · rw [hrb]
      exact (g2.below.block w2.heap.size (by rw [hsz]; omega)).trans (heap_new' _ _)
    · show hb ≠ rb
      omega
  · obtain ⟨_, rfl⟩ := hone i p hp
    exact ⟨Nat.le_refl _, Nat.le_refl _⟩
  · obtain ⟨rfl, rfl⟩ := hone i p hp
    show (if k < w.heap.size then 0 else if k = Bl then 1 else 3) = 0 + 3
    rcases hk with hk | hk | hk | hk
    · have hk : k = hb := hk
      rw [if_neg (by omega), if_neg (by omega)]
    · simp [Value.ownBlock] at hk
    · have hk : k = rb := hk
      rw [if_neg (by omega), if_neg (by omega)]
    · simp [Value.ownBlock] at hk
  · have := own_eq hk
    subst this
    show (if Bl < w.heap.size then 0 else if Bl = Bl then 1 else 3) = 1
    rw [if_neg (by omega), if_pos rfl]

/-- What a copy leaves. -/
def Cp (ff : Nat) (o : Int) (p : Pp) (W8 : World) (B9 : Nat) (p' : Pp) (w' : World) : Prop :=
  w'.heap[B9]? = some (.cells #[.pointer (some ⟨p'.hb, 0, none⟩), .pointer (some ⟨p'.rb, 0, none⟩)] 49 (0, 0)) ∧ Ok1 ff o p' w' ∧ Below W8.heap.size W8 w' ∧ (∀ k, p'.own k → W8.heap.size ≤ k) ∧ p'.S = p.S ∧ p'.np = p.np
theorem Cp.new {ff : Nat} {o : Int} {p p' : Pp} {W8 w6 : World} (h : Ok1 ff o p' w6) (hb : Below W8.heap.size W8 w6) (hn : ∀ k, p'.own k → W8.heap.size ≤ k) (h1 : p'.S = p.S) (h2 : p'.np = p.np) :
    Cp ff o p W8 w6.heap.size p' (w6.alloc (.cells #[.pointer (some ⟨p'.hb, 0, none⟩), .pointer (some ⟨p'.rb, 0, none⟩)] 49)) :=
  ⟨heap_new' _ _, h.gr ((Gr.refl _).alloc _), hb.trans (((Gr.refl _).alloc _).below.mono hb.size), hn, h1, h2⟩
theorem Cp.set {ff : Nat} {o : Int} {p p' : Pp} {W8 w6 : World} {b : Nat} {d0 d1 : Value} (h : Ok1 ff o p' w6) (hb : Below W8.heap.size W8 w6) (hn : ∀ k, p'.own k → W8.heap.size ≤ k) (h1 : p'.S = p.S) (h2 : p'.np = p.np) (hbl : w6.heap[b]? = some (.cells #[d0, d1] 49 (0, 0))) (hge : W8.heap.size ≤ b) (hno : ¬ p'.own b) :
    Cp ff o p W8 b p' ((w6.setCell ⟨b, 0, none⟩ (.pointer (some ⟨p'.hb, 0, none⟩))).setCell ⟨b, 1, none⟩ (.pointer (some ⟨p'.rb, 0, none⟩))) := by
  obtain ⟨s1, s2⟩ := two_set (c0 := .pointer (some ⟨p'.hb, 0, none⟩)) (c1 := .pointer (some ⟨p'.rb, 0, none⟩)) hbl
  exact ⟨s1, h.kp s2 (fun k hk e => hno (e ▸ hk)), hb.trans (s2.below hb.size (fun k hk => by subst hk; exact hge)), hn, h1, h2⟩
section
variable {ff : Nat} {o : Int} {p : Pp} {W8 w5 w6 : World} {hb5 rb6 : Nat} {v5 v6 : Value}
abbrev pc (p : Pp) (hb5 rb6 : Nat) (v5 v6 : Value) : Pp := ⟨hb5, rb6, v5, v6, p.L, p.S, p.np⟩
theorem cp_ok (O8 : Ok1 ff o p W8) (z58 : W8.heap.size ≤ hb5) (q5 : Hq w5 hb5 ff v5 (okey o) p.L p.np) (n58 : ∀ g, v5.ownBlock = some g → W8.heap.size ≤ g) (b56 : Below w5.heap.size w5 w6) (z65 : w5.heap.size ≤ rb6) (r6 : Rh w6 rb6 o v6 (p.S.map Prod.fst)) (n65 : ∀ g, v6.ownBlock = some g → w5.heap.size ≤ g) (_hz : W8.heap.size ≤ w5.heap.size) :
    Ok1 ff o (pc p hb5 rb6 v5 v6) w6 ∧ ∀ k, (pc p hb5 rb6 v5 v6).own k → W8.heap.size ≤ k := by
  have l5 := q5.h.lt
  have r5 := q5.h.row
  refine ⟨⟨q5.below b56, r6, ?_, fun e => ?_, fun e => ?_, fun k hk e => ?_, O8.pw, O8.pm⟩, fun k hk => ?_⟩
  · show hb5 ≠ rb6
    omega
  · have := r5 rb6 e; omega
  · have := n65 hb5 e; omega
  · have := r5 k hk; have := n65 k e; omega
  · rcases hk with hk | hk | hk | hk
    · have : k = hb5 := hk
      omega
    · exact n58 k hk
    · have : k = rb6 := hk
      omega
    · have := n65 k hk; omega
theorem cp_late (O8 : Ok1 ff o p W8) (hge5 : W8.drew.heap.size ≤ hb5) (q5 : Hq w5 hb5 ff v5 (okey o) p.L p.np) (n5 : ∀ g, v5.ownBlock = some g → W8.drew.heap.size ≤ g) (s5 : W8.heap.size < w5.heap.size) (bl6 : Below w5.heap.size w5 w6) (hge6 : w5.heap.size ≤ rb6) (r6 : Rh w6 rb6 o v6 (p.S.map Prod.fst)) (n6 : ∀ g, v6.ownBlock = some g → w5.heap.size ≤ g) (bm6 : Below W8.heap.size W8 w6) :
    Cp ff o p W8 w6.heap.size (pc p hb5 rb6 v5 v6) (w6.alloc (.cells #[.pointer (some ⟨hb5, 0, none⟩), .pointer (some ⟨rb6, 0, none⟩)] 49)) := by
  obtain ⟨O6, hown⟩ := cp_ok O8 hge5 q5 n5 bl6 hge6 r6 n6 (Nat.le_of_lt s5)
  exact Cp.new O6 bm6 hown rfl rfl
theorem cp_mid (O8 : Ok1 ff o p W8) (hge5 : W8.drew.heap.size ≤ hb5) (q5 : Hq w5 hb5 ff v5 (okey o) p.L p.np) (n5 : ∀ g, v5.ownBlock = some g → W8.drew.heap.size ≤ g) (s5 : W8.heap.size < w5.heap.size) (bl6 : Below (w5.alloc (.cells #[.pointer none, .pointer none] 49)).heap.size (w5.alloc (.cells #[.pointer none, .pointer none] 49)) w6) (hge6 : (w5.alloc (.cells #[.pointer none, .pointer none] 49)).heap.size ≤ rb6) (r6 : Rh w6 rb6 o v6 (p.S.map Prod.fst)) (n6 : ∀ g, v6.ownBlock = some g → (w5.alloc (.cells #[.pointer none, .pointer none] 49)).heap.size ≤ g) (bm6 : Below W8.heap.size W8 w6) :
    Cp ff o p W8 w5.heap.size (pc p hb5 rb6 v5 v6) ((w6.setCell ⟨w5.heap.size, 0, none⟩ (.pointer (some ⟨hb5, 0, none⟩))).setCell ⟨w5.heap.size, 1, none⟩ (.pointer (some ⟨rb6, 0, none⟩))) := by
  have hsz : (w5.alloc (.cells #[.pointer none, .pointer none] 49)).heap.size = w5.heap.size + 1 := by simp
  have hbl := (bl6.block w5.heap.size (by rw [hsz]; omega)).trans (heap_new' _ _)
  rw [hsz] at hge6
  have n6' : ∀ g, v6.ownBlock = some g → w5.heap.size + 1 ≤ g := fun g hg => by have := n6 g hg; rwa [hsz] at this
  have b56 : Below w5.heap.size w5 w6 := ((Gr.refl w5).alloc _).below.trans (bl6.mono (by rw [hsz]; omega))
  obtain ⟨O6, hown⟩ := cp_ok O8 hge5 q5 n5 b56 (by omega) r6 (fun g hg => by have := n6' g hg; omega) (Nat.le_of_lt s5)
  refine Cp.set O6 bm6 hown rfl rfl hbl (Nat.le_of_lt s5) (fun hk => ?_)
  rcases hk with hk | hk | hk | hk
  · have h1 : w5.heap.size = hb5 := hk
    have := q5.h.lt
    omega
  · have := q5.h.row _ hk; omega
  · have h1 : w5.heap.size = rb6 := hk
    omega
  · have := n6' _ hk; omega
theorem cp_first (O8 : Ok1 ff o p W8) (bl5 : Below (W8.alloc (.cells #[.pointer none, .pointer none] 49)).drew.heap.size (W8.alloc (.cells #[.pointer none, .pointer none] 49)).drew w5) (hge5 : (W8.alloc (.cells #[.pointer none, .pointer none] 49)).drew.heap.size ≤ hb5) (q5 : Hq w5 hb5 ff v5 (okey o) p.L p.np) (n5 : ∀ g, v5.ownBlock = some g → (W8.alloc (.cells #[.pointer none, .pointer none] 49)).drew.heap.size ≤ g) (s5 : W8.heap.size < w5.heap.size) (bl6 : Below w5.heap.size w5 w6) (hge6 : w5.heap.size ≤ rb6) (r6 : Rh w6 rb6 o v6 (p.S.map Prod.fst)) (n6 : ∀ g, v6.ownBlock = some g → w5.heap.size ≤ g) (bm6 : Below W8.heap.size W8 w6) :
    Cp ff o p W8 W8.heap.size (pc p hb5 rb6 v5 v6) ((w6.setCell ⟨W8.heap.size, 0, none⟩ (.pointer (some ⟨hb5, 0, none⟩))).setCell ⟨W8.heap.size, 1, none⟩ (.pointer (some ⟨rb6, 0, none⟩))) := by
  have hsz : (W8.alloc (.cells #[.pointer none, .pointer none] 49)).drew.heap.size = W8.heap.size + 1 := by
    show (W8.alloc (.cells #[.pointer none, .pointer none] 49)).heap.size = _
    simp
  have hX : (W8.alloc (.cells #[.pointer none, .pointer none] 49)).drew.heap[W8.heap.size]? = some (.cells #[.pointer none, .pointer none] 49 (0, 0)) := heap_new' W8 _
  have hbl := (bl6.block W8.heap.size s5).trans ((bl5.block W8.heap.size (by rw [hsz]; omega)).trans hX)
  rw [hsz] at hge5
  have n5' : ∀ g, v5.ownBlock = some g → W8.heap.size + 1 ≤ g := fun g hg => by have := n5 g hg; rwa [hsz] at this
  obtain ⟨O6, hown⟩ := cp_ok O8 (by omega) q5 (fun g hg => by have := n5' g hg; omega) bl6 hge6 r6 n6 (Nat.le_of_lt s5)
  refine Cp.set O6 bm6 hown rfl rfl hbl (Nat.le_refl _) (fun hk => ?_)
  rcases hk with hk | hk | hk | hk
  · have h1 : W8.heap.size = hb5 := hk
    omega
  · have := n5' _ hk; omega
  · have h1 : W8.heap.size = rb6 := hk
    omega
  · have := n6 _ hk; omega
end
set_option maxHeartbeats 8000000 in
set_option maxRecDepth 100000 in
theorem plays_any (kind : Int) (vs : Value) (sc : List Op6) (w : World) (hs : Ls EO w vs sc) (hn : sc.length * 24 ≤ 140737488351232) : Calls Try.prog 5 #[.int .i64 kind, vs] w fun e w' => e = .returned (.bool true) ∧ Below w.heap.size w w' := by
  have hmx : Try.prog.follows .mixedOrders = true := by kernel_rfl
  have htk := Hi.taken_any w
  obtain ⟨ps0, cs0, rfl⟩ := hs.form
  have HS : Hid (Ls EO w (.slice ps0 sc.length cs0) sc) := hs
  have hnb : sc.length ≤ 5864062014638 := by omega
  clear hs
  go_enter Try.func5, Try.ntmps5
  go_wp2_with fail
  refine htk.mono ?_
  rintro e w1 ⟨rfl, hb1⟩
  clear htk
  obtain ⟨o, ho⟩ : ∃ o, o = bits BinOp.and IntKind.i64 kind 3 := ⟨_, rfl⟩
  obtain ⟨ff, hF, hmd⟩ := made_any o w1
  have HF := hid hF
  clear hF
  go_wp2_with fail
  rw [← ho]
  have HOE := hid ho
  clear ho
  refine hmd.mono ?_
  rintro e w2 ⟨hb, rfl, hge, hq, hg⟩
  obtain ⟨rb, hrb⟩ : ∃ B, B = w2.heap.size := ⟨_, rfl⟩
  obtain ⟨Bl, hBl⟩ : ∃ B, B = rb + 1 := ⟨_, rfl⟩
  obtain ⟨W, hW⟩ : ∃ W, W = (w2.alloc (.cells #[.int .i64 o, .slice none 0 0] 47)).alloc (.cells #[.pointer (some ⟨hb, 0, none⟩), .pointer (some ⟨rb, 0, none⟩)] 49) := ⟨_, rfl⟩
  have P0 := hid (Py.init (hb1.trans (hg.below.mono hb1.size)) (Nat.le_trans hb1.size hge) hq hrb hBl hW)
  clear hmd hge hq hg
  go_wp2_with fail
  rw [← HOE.out, ← hrb, ← hBl, ← hW]
  clear hW hrb hBl HOE
  go_loopw [5, 6, 7, 8, 9] (fun s5 s6 _ _ _ wr => ∃ (i : Nat) (ps : List Pp) (ow : Nat → Nat), i ≤ sc.length ∧ s6 = .int .i64 i ∧ Hid (Py w ff o s5 ps i ow wr)) (fun _ s6 _ _ _ _ => sc.length - (RowKit.intOf s6).toNat)
  case atStart => exact ⟨0, _, _, Nat.zero_le _, rfl, P0.out⟩
  case round =>
    clear P0
    obtain ⟨i, ps, ow, hi, rfl, PP⟩ := hrel
    by_cases hlt : i < sc.length
    · have hltz : (i : Int) < (sc.length : Int) := by omega
      have i0 : (0 : Int) ≤ (i : Int) := by omega
      obtain ⟨⟨kd, on, ky⟩, hx⟩ : ∃ x, sc[i]? = some x := ⟨sc[i], by rw [List.getElem?_eq_getElem]⟩
      obtain ⟨b1, o1, c1, e1, z1, x0, x1, x2⟩ := o_at (HS.out.below PP.out.bl) hx
      simp only [Value.slice.injEq] at e1
      obtain ⟨rfl, -, rfl⟩ := e1
      simp only at x0 x1 x2
      clear hx
      obtain ⟨p0, hp0⟩ : ∃ p, ps[0]? = some p := ⟨ps[0]'PP.out.ne, by rw [List.getElem?_eq_getElem]⟩
      obtain ⟨b2, o2, c2, e2, z2, y0, y1⟩ := PP.out.at hp0
      subst e2
      have few := PP.out.few
      have ne := PP.out.ne
      have nez : (0 : Int) < (ps.length : Int) := by omega
      simp only [Nat.zero_mul, Nat.add_zero] at y0 y1
      go_upto_if 50 with fail
      all_goals (
        go_cut [50] from 41 to 55 (fun _ w' => ∃ (j : Nat) (p : Pp), Hid (ps[j]? = some p) ∧ w' = (wr.alloc (.cells #[.int .i64 kd, .int .i64 on, .int .i64 ky] 52)).alloc (.cells #[.pointer (some ⟨p.hb, 0, none⟩), .pointer (some ⟨p.rb, 0, none⟩)] 49))
        case first =>
          by_cases hon : 0 < on ∧ on < (ps.length : Int)
          · obtain ⟨j, hje⟩ : ∃ j : Nat, on = (j : Int) := ⟨on.toNat, by omega⟩
            subst hje
            have hjl : j < ps.length := by omega
            obtain ⟨p, hp⟩ : ∃ p, ps[j]? = some p := ⟨ps[j], by rw [List.getElem?_eq_getElem]⟩
            obtain ⟨b3, o3, c3, e3, z3, t0, t1⟩ := PP.out.at hp
            simp only [Value.slice.injEq, Option.some.injEq, Addr.mk.injEq, and_true] at e3
            obtain ⟨⟨rfl, rfl⟩, -, rfl⟩ := e3
            have j1 : (j : Int) < (ps.length : Int) := hon.2
            have j0 : (0 : Int) ≤ (j : Int) := by omega
            have j2 : (0 : Int) < (j : Int) := hon.1
            first | (exfalso; omega) | (go_wp2_with fail; go_meet; exact ⟨j, p, hp, rfl⟩)
          · by_cases h2 : 0 < on
            · have h3 : ¬ on < (ps.length : Int) := fun h => hon ⟨h2, h⟩
              first | (exfalso; omega) | (go_wp2_with fail; go_meet; exact ⟨0, p0, hp0, rfl⟩)
            · first | (exfalso; omega) | (go_wp2_with fail; go_meet; exact ⟨0, p0, hp0, rfl⟩)
        case rest =>
          obtain ⟨j, p, HJ, hwc⟩ := hcut
          rw [hwc]
          clear hwc
          obtain ⟨B7, hB7⟩ : ∃ B, B = wr.heap.size := ⟨_, rfl⟩
          obtain ⟨B8, hB8⟩ : ∃ B, B = B7 + 1 := ⟨_, rfl⟩
          obtain ⟨W8, hW8⟩ : ∃ W, W = (wr.alloc (.cells #[.int .i64 kd, .int .i64 on, .int .i64 ky] 52)).alloc (.cells #[.pointer (some ⟨p.hb, 0, none⟩), .pointer (some ⟨p.rb, 0, none⟩)] 49) := ⟨_, rfl⟩
          have G8 : Gr wr W8 := by rw [hW8]; exact ((Gr.refl _).alloc _).alloc _
          have hb7 : W8.heap[B7]? = some (.cells #[.int .i64 kd, .int .i64 on, .int .i64 ky] 52 (0, 0)) := by
            rw [hW8, hB7]
            exact (((Gr.refl _).alloc _).below.block _ (by simp)).trans (heap_new' _ _)
          have hb8 : W8.heap[B8]? = some (.cells #[.pointer (some ⟨p.hb, 0, none⟩), .pointer (some ⟨p.rb, 0, none⟩)] 49 (0, 0)) := by
            have h := heap_new' (wr.alloc (.cells #[.int .i64 kd, .int .i64 on, .int .i64 ky] 52)) (.cells #[.pointer (some ⟨p.hb, 0, none⟩), .pointer (some ⟨p.rb, 0, none⟩)] 49)
            rw [show (wr.alloc (.cells #[.int .i64 kd, .int .i64 on, .int .i64 ky] 52)).heap.size = B8 by rw [hB8, hB7]; simp] at h
            rw [hW8]; exact h
          have P8 := hid (PP.out.gr G8)
          have O8 := hid (P8.out.ok j p HJ.out)
          have hbd := P8.out.bd j p HJ.out
          obtain ⟨t0, t1, t2⟩ : W8.cell? ⟨B7, 0, none⟩ = some (.int .i64 kd) ∧ W8.cell? ⟨B7, 1, none⟩ = some (.int .i64 on) ∧ W8.cell? ⟨B7, 2, none⟩ = some (.int .i64 ky) := by simp [World.cell?, hb7]
          obtain ⟨t3, t4⟩ : W8.cell? ⟨B8, 0, none⟩ = some (.pointer (some ⟨p.hb, 0, none⟩)) ∧ W8.cell? ⟨B8, 1, none⟩ = some (.pointer (some ⟨p.rb, 0, none⟩)) := by simp [World.cell?, hb8]
          have t5 : B7 < W8.heap.size := (Array.getElem?_eq_some_iff.1 hb7).1
          have t6 : B8 < W8.heap.size := (Array.getElem?_eq_some_iff.1 hb8).1
          rw [← hW8, ← hB7, ← hB8]
          clear hW8 hB7 hB8 hb7 hb8 x0 x1 x2 y0 y1 G8 z1 z2
          by_cases hk5 : kd = 5
          · subst hk5
            have S0 : (W8.drew.cell? ⟨B8, 0, none⟩ = some (.pointer (some ⟨p.hb, 0, none⟩)) ∧ W8.drew.cell? ⟨B8, 1, none⟩ = some (.pointer (some ⟨p.rb, 0, none⟩)) ∧ B8 < W8.drew.heap.size ∧ Below W8.heap.size W8 W8.drew) := ⟨t3, t4, t6, (Gr.refl _).drew.below⟩
            have keepW : ∀ W : World, Below W8.heap.size W8 W → (W.cell? ⟨B8, 0, none⟩ = some (.pointer (some ⟨p.hb, 0, none⟩)) ∧ W.cell? ⟨B8, 1, none⟩ = some (.pointer (some ⟨p.rb, 0, none⟩)) ∧ B8 < W.heap.size ∧ Below W8.heap.size W8 W) := fun W h => ⟨(h.cell (p := ⟨B8, 0, none⟩) t6).trans t3, (h.cell (p := ⟨B8, 1, none⟩) t6).trans t4, Nat.lt_of_lt_of_le t6 h.size, h⟩
            have hset : ∀ (W : World) (b : Nat) (c0 c1 : Value), W8.heap.size ≤ b → Below W8.heap.size W8 W → Below W8.heap.size W8 ((W.setCell ⟨b, 0, none⟩ c0).setCell ⟨b, 1, none⟩ c1) := fun W b c0 c1 hb h => Below.setCell (p := ⟨b, 1, none⟩) (Below.setCell (p := ⟨b, 0, none⟩) h hb _) hb _
            have hcp : ∀ W : World, Below W8.heap.size W8 W → Calls Try.prog 21 #[.pointer (some ⟨p.hb, 0, none⟩)] W fun e w' => ∃ hb' v', e = .returned (.pointer (some ⟨hb', 0, none⟩)) ∧ W.heap.size ≤ hb' ∧ Hq w' hb' ff v' (okey o) p.L p.np ∧ Below W.heap.size W w' ∧ (∀ g, v'.ownBlock = some g → W.heap.size ≤ g) ∧ W8.heap.size < w'.heap.size := fun W h => (copy_any W (O8.out.below h).q (by rw [O8.out.pm.length_eq]; omega)).mono (fun e w' ⟨hb', v', a1, a2, a3, a4, a5⟩ => ⟨hb', v', a1, a2, a3, a4, a5, Nat.lt_of_le_of_lt (Nat.le_trans h.size a2) a3.h.lt⟩)
            have hrc : ∀ W : World, Below W8.heap.size W8 W → Calls Try.prog 22 #[.pointer (some ⟨p.rb, 0, none⟩)] W fun e w' => ∃ rb' v', e = .returned (.pointer (some ⟨rb', 0, none⟩)) ∧ W.heap.size ≤ rb' ∧ Rh w' rb' o v' (p.S.map Prod.fst) ∧ Below W.heap.size W w' ∧ (∀ g, v'.ownBlock = some g → W.heap.size ≤ g) ∧ W8.heap.size < w'.heap.size := fun W h => (rcopy_any W (O8.out.below h).r (by rw [List.length_map]; omega)).mono (fun e w' ⟨hb', v', a1, a2, a3, a4, a5⟩ => ⟨hb', v', a1, a2, a3, a4, a5, Nat.lt_of_le_of_lt (Nat.le_trans h.size a2) a3.lt⟩)
            have hal : ∀ (W : World) (ob : Obj), Below W8.heap.size W8 W → Below W8.heap.size W8 (W.alloc ob) := fun W ob h => h.trans (((Gr.refl W).alloc ob).below.mono h.size)
            have htr : ∀ (W W' : World), Below W8.heap.size W8 W → Below W.heap.size W W' → Below W8.heap.size W8 W' := fun W W' h k => h.trans (k.mono h.size)
            have hdr : Below W8.heap.size W8 W8.drew := (Gr.refl _).drew.below
            go_upto_region 14 with fail
            go_cut [9] from 59 to 65 (fun s9 w' => ∃ (B9 : Nat) (p' : Pp), s9 = .pointer (some ⟨B9, 0, none⟩) ∧ Hid (Cp ff o p W8 B9 p' w'))
            case first =>
              go_region_held3 (fun w' => w'.cell? ⟨B8, 0, none⟩ = some (.pointer (some ⟨p.hb, 0, none⟩)) ∧ w'.cell? ⟨B8, 1, none⟩ = some (.pointer (some ⟨p.rb, 0, none⟩)) ∧ B8 < w'.heap.size ∧ Below W8.heap.size W8 w')
                (first | exact S0 | exact keepW _ (by assumption) | exact keepW _ (hal _ _ (by assumption)) | exact keepW _ (hset _ _ _ _ bm5.size (by assumption)) | exact keepW _ (hset _ _ _ _ bm6.size (by assumption)) | exact keepW _ (hset _ _ _ _ (Nat.le_refl _) (by assumption)) | exact keepW _ ((Gr.refl _).alloc _).drew.below | assumption)
                (first | (go_at_call 21; refine (hcp _ (by first | assumption | exact hal _ _ (by assumption) | exact ((Gr.refl _).alloc _).drew.below)).mono ?_; rintro e w5 ⟨hb5, v5, rfl, hge5, q5, bl5, n5, s5⟩; have bm5 := htr _ _ (by first | assumption | exact hal _ _ (by assumption) | exact ((Gr.refl _).alloc _).drew.below) bl5; obtain ⟨cc5, cf5⟩ := below_cells bl5; have z5 := bl5.size) | (go_at_call 22; refine (hrc _ (by first | assumption | exact hal _ _ (by assumption) | exact ((Gr.refl _).alloc _).drew.below)).mono ?_; rintro e w6 ⟨rb6, v6, rfl, hge6, r6, bl6, n6, s6⟩; have bm6 := htr _ _ (by first | assumption | exact hal _ _ (by assumption) | exact ((Gr.refl _).alloc _).drew.below) bl6; obtain ⟨cc6, cf6⟩ := below_cells bl6; have z6 := bl6.size))
              · go_wp2_with fail
                go_meet
                exact ⟨w6.heap.size, pc p hb5 rb6 v5 v6, rfl, cp_late O8.out hge5 q5 n5 s5 bl6 hge6 r6 n6 bm6⟩
              · go_wp2_with fail
                go_meet
                exact ⟨w5.heap.size, pc p hb5 rb6 v5 v6, rfl, cp_mid O8.out hge5 q5 n5 s5 bl6 hge6 r6 n6 bm6⟩
              · go_wp2_with fail
                go_meet
                exact ⟨W8.heap.size, pc p hb5 rb6 v5 v6, rfl, cp_first O8.out bl5 hge5 q5 n5 s5 bl6 hge6 r6 n6 bm6⟩
            case rest =>
              obtain ⟨B9, p', rfl, HCP⟩ := hcut
              obtain ⟨hb9, O9, b9, n9, e9, f9⟩ := HCP.out
              have PC := hid (P8.out.below b9)
              obtain ⟨u0, u1⟩ : wc.cell? ⟨B9, 0, none⟩ = some (.pointer (some ⟨p'.hb, 0, none⟩)) ∧ wc.cell? ⟨B9, 1, none⟩ = some (.pointer (some ⟨p'.rb, 0, none⟩)) := by simp [World.cell?, hb9]
              have u2 : B9 < wc.heap.size := (Array.getElem?_eq_some_iff.1 hb9).1
              have H9 : Hid (Ok1 ff o p' wc ∧ Below W8.heap.size W8 wc ∧ (∀ k, p'.own k → W8.heap.size ≤ k) ∧ p'.S = p.S ∧ p'.np = p.np) := ⟨O9, b9, n9, e9, f9⟩
              clear hb9 O9 b9 n9 e9 f9 HCP keepW hset hcp hrc hal htr hdr S0 t0 t1 t2 t3 t4
              by_cases hm : ps.length < 5
              · have hmz : (ps.length : Int) < 5 := by omega
                go_wp2_with (at_builtin; refine wpAppP rfl _ _ rfl (.slice (some ⟨b2, o2, none⟩) ps.length c2) ps.length _ rfl PC.out.row (p'.hb, p'.rb) rfl few ?_)
                intro g10 c10 w10 ho10 hg10 hl10
                obtain ⟨ow', P10⟩ := P8.out.copy HJ.out H9.out.2.1 H9.out.1 H9.out.2.2.1 H9.out.2.2.2.1 H9.out.2.2.2.2 hm ho10 (Kp.grownBy hg10 (fun _ h => h)) hl10
                have P10' := hid (P10.mono (Nat.le_succ i))
                clear ho10 hg10 hl10 P10
                go_wp2
                go_roundw
                case rel => exact ⟨i + 1, _, ow', by omega, by go_num, P10'.out⟩
                case measure => simp [RowKit.intOf]; omega
              · have hmz : ¬ (ps.length : Int) < 5 := by omega
                have P10' := hid (PC.out.mono (Nat.le_succ i))
                go_wp2
                go_roundw
                case rel => exact ⟨i + 1, ps, ow, by omega, by go_num, P10'.out⟩
                case measure => simp [RowKit.intOf]; omega
          · have hst := step_any kd on ky (i : Int) W8 O8.out (by omega) (by omega) HF.out
            have hk5b : (kd == 5) = false := by simpa using hk5
            have HJ2 := HJ
            go_wp2_with fail
            refine hst.mono ?_
            rintro e w9 ⟨rfl, hsp⟩
            obtain ⟨ps', ow', hl', P9⟩ := P8.out.step HJ.out hsp
            have P9' := hid (P9.mono (B' := i + 1) (Nat.add_le_add_left (by split <;> omega) _))
            clear hst hsp P9
            go_wp2
            go_roundw
            case rel => exact ⟨i + 1, ps', ow', by omega, by go_num, P9'.out⟩
            case measure => simp [RowKit.intOf]; omega)
    · have hltz : ¬ (i : Int) < (sc.length : Int) := by omega
      have PN := hid (PP.out.mono hi)
      obtain ⟨p0, hp0⟩ : ∃ p, ps[0]? = some p := ⟨ps[0]'PP.out.ne, by rw [List.getElem?_eq_getElem]⟩
      obtain ⟨b2, o2, c2, e2, z2, y0, y1⟩ := PP.out.at hp0
      subst e2
      obtain ⟨m, hme⟩ : ∃ m, m = ps.length := ⟨_, rfl⟩
      have few : m ≤ 5 := by rw [hme]; exact PP.out.few
      have HME := hid hme
      clear hp0 y0 y1 z2 PP
      rw [← hme]
      rw [← hme] at PN
      clear hme
      go_wp2_with fail
      go_loopw [10, 11] (fun s10 _ wr => ∃ (k : Nat) (qs : List Pp) (ow : Nat → Nat), k ≤ m ∧ s10 = .int .i64 k ∧ Hid (qs.length = m) ∧ Hid (Py w ff o (.slice (some ⟨b2, o2, none⟩) m c2) qs sc.length ow wr)) (fun s10 _ _ => m - (RowKit.intOf s10).toNat)
      case atStart => exact ⟨0, ps, ow, Nat.zero_le _, rfl, HME.out.symm, PN.out⟩
      case round =>
        clear PN HME
        obtain ⟨k, qs, ow, hk, rfl, HQL, PP⟩ := hrel
        by_cases hlt2 : k < m
        · have hlt2z : (k : Int) < (m : Int) := by omega
          have k0 : (0 : Int) ≤ (k : Int) := by omega
          obtain ⟨q, hq⟩ : ∃ q, qs[k]? = some q := ⟨qs[k]'(by rw [HQL.out]; exact hlt2), by rw [List.getElem?_eq_getElem]⟩
          obtain ⟨b3, o3, c3, e3, z3, y0, y1⟩ := PP.out.at hq
          simp only [Value.slice.injEq, Option.some.injEq, Addr.mk.injEq, and_true] at e3
          obtain ⟨⟨rfl, rfl⟩, -, rfl⟩ := e3
          have hR := (PP.out.ok k q hq).r
          obtain ⟨pr, cr, e5⟩ := hR.lst.form
          have c5 : wr.cell? ⟨q.rb, 1, none⟩ = some (.slice pr q.S.length cr) := by
            have h := hR.c1
            rw [e5] at h
            simpa using h
          have c5l := hR.lt
          have hqb := (PP.out.bd k q hq).1
          clear e5 hR hq
          go_wp2_with fail
          go_loopw [11] (fun s11 wr => ∃ (t : Int) (qs : List Pp) (ow : Nat → Nat), -1 ≤ t ∧ t ≤ sc.length ∧ s11 = .int .i64 t ∧ Hid (qs.length = m) ∧ Hid (Py w ff o (.slice (some ⟨b2, o2, none⟩) m c2) qs sc.length ow wr)) (fun s11 _ => (RowKit.intOf s11 + 1).toNat)
          case atStart => exact ⟨(q.S.length : Int), qs, ow, by omega, by omega, rfl, HQL.out, PP.out⟩
          case round =>
            clear PP y0 y1 z3 c5 c5l hqb HQL
            obtain ⟨t, qs, ow, ht0, ht1, rfl, HQL, PP⟩ := hrel
            by_cases ht : 0 ≤ t
            · obtain ⟨q, hq⟩ : ∃ q, qs[k]? = some q := ⟨qs[k]'(by rw [HQL.out]; exact hlt2), by rw [List.getElem?_eq_getElem]⟩
              obtain ⟨b3, o3, c3, e3, z3, y0, y1⟩ := PP.out.at hq
              simp only [Value.slice.injEq, Option.some.injEq, Addr.mk.injEq, and_true] at e3
              obtain ⟨⟨rfl, rfl⟩, -, rfl⟩ := e3
              have hbd := PP.out.bd k q hq
              have hst := step_any 2 0 0 0 wr (PP.out.ok k q hq) (by omega) (by omega) HF.out
              have HQ := hid hq
              clear hq
              go_wp2_with fail
              refine hst.mono ?_
              rintro e w9 ⟨rfl, hsp⟩
              obtain ⟨qs', ow', hl', P9⟩ := PP.out.step HQ.out hsp
              have P9' := hid (P9.mono (B' := sc.length) (by simp))
              have HQ' := hid (hl'.trans HQL.out)
              clear hst hsp P9 hl' y0 y1 z3
              go_wp2
              go_roundw
              case rel => exact ⟨t - 1, qs', ow', by omega, by omega, by go_num, HQ'.out, P9'.out⟩
              case measure => simp [RowKit.intOf]; omega
            · go_wp2
              go_roundw
              case rel => exact ⟨k + 1, qs, ow, by omega, by go_num, HQL.out, PP.out⟩
              case measure => simp [RowKit.intOf]; omega
        · have hlt2z : ¬ (k : Int) < (m : Int) := by omega
          go_wp2
          go_ret
          exact ⟨rfl, PP.out.bl⟩
end Go.Proofs.Ytpcamjmfddnglaa.Ht
