import Derived.Test.YtaaobchodbnkpaaQuCnt0
import Derived.Test.YtaaobchodbnkpaaEqs
import Derived.Test.YtaaobchodbnkpaaLStep
namespace Go.Proofs.Ytaaobchodbnkpaa.Qe
open Go.RowKit Go.Sort Go.Shelf Go.Lib
attribute [local go_sem ↓] Go.wp_at_zero Go.wp_at_succ

/-- What countsAt leaves. -/
def Cnt (w : World) (u : Value) (p : Int) (l : List Ms) (e : Ending) (w' : World) : Prop :=
  ∃ u2, e = .returned u2 ∧ (∃ q c, u2 = .slice q (cat p l).length c) ∧ Hid (w'.ownsRow w.heap.size 51 5 u2 (cat p l).length (fl EC (cat p l)) ∧ Kp (fun k => u.ownBlock = some k) w w')
/-- The changes so far. -/
def cgo (p : Int) (d : List Ms) (i : Nat) : List Cg := (grp ((d.take i).map tmo)).map (mkC p)
theorem cgo_len (p : Int) (d : List Ms) (i : Nat) : (cgo p d i).length ≤ i := by
  unfold cgo
  rw [List.length_map]
  have : ∀ l : List Tq, (grp l).length ≤ l.length := by
    intro l
    rcases List.eq_nil_or_concat l with rfl | ⟨l0, t, rfl⟩
    · exact Nat.le_refl _
    · have key : ∀ (n : Nat) (l : List Tq), l.length ≤ n → (grp l).length ≤ l.length := by
        intro n
        induction n with
        | zero => intro l hl; rw [List.eq_nil_of_length_eq_zero (by omega : l.length = 0)]; exact Nat.le_refl _
        | succ n ih =>
          intro l hl
          rcases List.eq_nil_or_concat l with rfl | ⟨l1, s, rfl⟩
          · exact Nat.le_refl _
          · rw [List.concat_eq_append] at hl ⊢
            rw [List.length_append, List.length_singleton] at hl ⊢
            have h1 := ih l1 (by omega)
            rw [grp_snoc]
            rcases List.eq_nil_or_concat (grp l1) with e | ⟨g1, x, e⟩
            · rw [e]; simp [addT]
            · rw [e, List.concat_eq_append] at h1 ⊢
              rw [addT_snoc]
              rw [List.length_append, List.length_singleton] at h1
              split
              · rw [List.length_append, List.length_singleton]; omega
              · rw [List.length_append, List.length_append, List.length_singleton, List.length_singleton]; omega
      exact key _ _ (Nat.le_refl _)
  refine Nat.le_trans (this _) ?_
  rw [List.length_map, List.length_take]
  omega
theorem cgo_next {p : Int} {d : List Ms} {i : Nat} {y : Ms} (hy : d[i]? = some y) : cgo p d (i + 1) = (addT (grp ((d.take i).map tmo)) (tmo y)).map (mkC p) := by
  unfold cgo
  obtain ⟨hi, rfl⟩ := List.getElem?_eq_some_iff.1 hy
  rw [List.take_succ_eq_append_getElem hi, List.map_append, List.map_cons, List.map_nil, grp_snoc]
theorem cgo_first {p : Int} {d : List Ms} {y : Ms} (hy : d[0]? = some y) : cgo p d 1 = [mkC p (tmo y, 1)] := by
  rw [cgo_next hy]
  rfl
/-- The next one is another time, or the same again. -/
theorem cgo_step {p : Int} {d : List Ms} {i : Nat} {z y : Ms} (hz : d[i]? = some z) (hy : d[i + 1]? = some y) : ∃ M k, cgo p d (i + 1) = M ++ [mkC p (tmo z, k)] ∧ k ≤ i + 1 ∧ cgo p d (i + 2) = if tmo z = tmo y then M ++ [mkC p (tmo z, k + 1)] else M ++ [mkC p (tmo z, k)] ++ [mkC p (tmo y, 1)] := by
  obtain ⟨hi, hz'⟩ := List.getElem?_eq_some_iff.1 hz
  obtain ⟨L, n, hL⟩ := grp_last ((d.take i).map tmo) (tmo z)
  have e1 : (d.take (i + 1)).map tmo = (d.take i).map tmo ++ [tmo z] := by rw [List.take_succ_eq_append_getElem hi, List.map_append, hz']; rfl
  have hk : n + 1 ≤ i + 1 := by
    have : ∀ (m : Nat) (l : List Tq), l.length ≤ m → ∀ x ∈ grp l, x.2 ≤ l.length := by
      intro m
      induction m with
      | zero => intro l hl x hx; rw [List.eq_nil_of_length_eq_zero (by omega : l.length = 0)] at hx; simp [grp] at hx
      | succ m ih =>
        intro l hl x hx
        rcases List.eq_nil_or_concat l with rfl | ⟨l1, s, rfl⟩
        · simp [grp] at hx
        · rw [List.concat_eq_append] at hl hx ⊢
          rw [List.length_append, List.length_singleton] at hl ⊢
          have h1 := ih l1 (by omega)
          rw [grp_snoc] at hx
          rcases List.eq_nil_or_concat (grp l1) with e | ⟨g1, q, e⟩
          · rw [e] at hx; simp [addT] at hx; rw [hx]; simp
          · rw [e, List.concat_eq_append] at h1 hx
            rw [addT_snoc] at hx
            have hq := h1 q (by simp)
            split at hx
            · rcases List.mem_append.1 hx with hx | hx
              · have := h1 x (by simp [hx]); omega
              · simp at hx; rw [hx]; simp; omega
            · rcases List.mem_append.1 hx with hx | hx
              · have := h1 x hx; omega
              · simp at hx; rw [hx]; simp
    have h2 := this _ _ (Nat.le_refl _) (tmo z, n + 1) (by rw [hL]; simp)
    rw [List.length_append, List.length_map, List.length_take, List.length_singleton] at h2
    simp at h2
    omega
  refine ⟨L.map (mkC p), n + 1, ?_, hk, ?_⟩
  · unfold cgo
    rw [e1, hL, List.map_append]
    rfl
  · rw [cgo_next hy, e1, hL, addT_snoc]
    by_cases h : tmo z = tmo y
    · rw [if_pos h, if_pos h, List.map_append]
      rfl
    · rw [if_neg h, if_neg h, List.map_append, List.map_append]
      rfl
theorem owns_formC {w : World} {base n : Nat} {v : Value} {xs : List Value} (h : w.ownsRow base 51 5 v n xs) (hn : 0 < n) : ∃ g c, v = .slice (some ⟨g, 0, none⟩) n c ∧ base ≤ g ∧ g < w.heap.size ∧ ∀ q, w.frozen? ⟨g, q, none⟩ = false := by
  rcases h.2 with ⟨_, e⟩ | ⟨g, cap, cur, e, hb, hh, _⟩
  · omega
  · exact ⟨g, cap, e, hb, (Array.getElem?_eq_some_iff.1 hh).1, fun q => by simp [World.frozen?, hh]⟩
theorem owns_at {w : World} {base n g c : Nat} {xs : List Value} (h : w.ownsRow base 51 5 (.slice (some ⟨g, 0, none⟩) n c) n xs) : base ≤ g ∧ g < w.heap.size ∧ ∀ q, w.frozen? ⟨g, q, none⟩ = false := by
  rcases h.2 with ⟨e, _⟩ | ⟨g', cap, cur, e, hb, hh, _⟩
  · cases e
  · simp only [Value.slice.injEq, Option.some.injEq, Addr.mk.injEq] at e
    obtain ⟨⟨rfl, -, -⟩, -, -⟩ := e
    exact ⟨hb, (Array.getElem?_eq_some_iff.1 hh).1, fun q => by simp [World.frozen?, hh]⟩
/-- The last count goes up. -/
theorem owns_inc {w : World} {base g c : Nat} {M : List Cg} {y : Cg} (h : w.ownsRow base 51 5 (.slice (some ⟨g, 0, none⟩) (M.length + 1) c) (M.length + 1) (fl EC (M ++ [y]))) :
    w.cell? ⟨g, M.length * 5 + 4, none⟩ = some (.int .i64 y.n) ∧ ∀ m : Int, (w.setCell ⟨g, M.length * 5 + 4, none⟩ (.int .i64 m)).ownsRow base 51 5 (.slice (some ⟨g, 0, none⟩) (M.length + 1) c) (M.length + 1) (fl EC (M ++ [{ y with n := m }])) ∧ Kp (fun k => k = g) w (w.setCell ⟨g, M.length * 5 + 4, none⟩ (.int .i64 m)) := by
  have hget : (M ++ [y])[M.length]? = some y := by simp
  constructor
  · have h1 := owns_ls (E := EC) (ts := M ++ [y]) (owns_re h (by simp) rfl)
    obtain ⟨b, off, c', e1, _, hc⟩ := h1.get hget
    simp only [Value.slice.injEq, Option.some.injEq, Addr.mk.injEq] at e1
    obtain ⟨⟨rfl, rfl, -⟩, -, -⟩ := e1
    have := hc 4 _ (by decide) rfl
    rw [Nat.zero_add] at this
    exact this
  · intro m
    obtain ⟨a, b⟩ := owns_setC h (M.length * 5 + 4) (.int .i64 m)
    have h2 := fl_setC EC (M ++ [y]) M.length 4 y { y with n := m } (.int .i64 m) hget (by decide) rfl
    rw [show M.length * EC.k + 4 = M.length * 5 + 4 from rfl] at h2
    rw [h2] at a
    refine ⟨owns_re a rfl ?_, b⟩
    rw [List.set_append_right _ _ (Nat.le_refl _), Nat.sub_self]
    rfl
/-- The round's relation. -/
def Cr (W1 : World) (p : Int) (d : List Ms) (i : Nat) (v : Value) (W : World) : Prop := W.ownsRow W1.heap.size 51 5 v (cgo p d i).length (fl EC (cgo p d i)) ∧ Below W1.heap.size W1 W
set_option maxHeartbeats 4000000 in
set_option maxRecDepth 100000 in
theorem countsAt_any {g cap base : Nat} (p : Int) (l : List Ms) (w : World) (h : w.ownsRow base 36 6 (.slice (some ⟨g, 0, none⟩) l.length cap) l.length (fl EM l)) (hb : l.length * 48 ≤ 140737488355328) :
    Calls Try.prog 29 #[.int .i64 p, .slice (some ⟨g, 0, none⟩) l.length cap] w (Cnt w (.slice (some ⟨g, 0, none⟩) l.length cap) p l) := by
  have hmx : Try.prog.follows .mixedOrders = true := by kernel_rfl
  have heq := fun a b c x y z W => run_eqT a b c x y z W
  have hso := sort_any g cap base l w h (by omega)
  obtain ⟨n, hn⟩ : ∃ n, n = l.length := ⟨_, rfl⟩
  rw [← hn] at hso hb ⊢
  have HN := hid hn
  have hnb : n ≤ 2932031007402 := by omega
  clear h hn hb
  unfold Cnt
  go_enter Try.func29, Try.ntmps29
  go_wp2_with fail
  refine hso.mono ?_
  rintro e W1 ⟨rfl, hS⟩
  obtain ⟨d, HD, HR, HK⟩ : ∃ d, Hid (Srt l d) ∧ Hid (W1.ownsRow base 36 6 (.slice (some ⟨g, 0, none⟩) n cap) n (fl EM d)) ∧ Hid (Kp (fun k => k = g) w W1) := by
    obtain ⟨d, h1, h2, h3⟩ := hS.out
    exact ⟨d, h1, h2, h3⟩
  have HDL : Hid (d.length = n) := by show _ = _; rw [HD.out.len, HN.out]
  have HLS : Hid (Ls EM W1 (.slice (some ⟨g, 0, none⟩) n cap) d) := owns_ls (E := EM) (owns_re HR.out HDL.out.symm rfl)
  have HST : Hid (Cr W1 p d 0 (.slice none 0 0) W1) := ⟨World.ownsRow_nil _ _ _ _, (Gr.refl _).below⟩
  have hgl : g < W1.heap.size := (HR.out.lt g rfl).2
  clear hS hso
  go_wp2_with fail
  go_loopw [5, 12] (fun s5 s12 wr => ∃ i : Nat, i ≤ n ∧ s12 = .int .i64 (i : Nat) ∧ (∃ q m c, s5 = .slice q m c) ∧ Hid (Cr W1 p d i s5 wr)) (fun _ s12 _ => n - (RowKit.intOf s12).toNat)
  case atStart => exact ⟨0, Nat.zero_le _, rfl, ⟨_, _, _, rfl⟩, HST.out⟩
  case round =>
    clear HST
    obtain ⟨i, hi, rfl, ⟨q5, m5, c5, rfl⟩, HC⟩ := hrel
    by_cases hlt : i < n
    · have hz : (i : Int) < (n : Int) := by omega
      have hi0 : (0 : Int) ≤ (i : Int) := by omega
      obtain ⟨y, hy⟩ : ∃ y, d[i]? = some y := ⟨d[i]'(by have := HDL.out; omega), by simp⟩
      have HY := hid hy
      obtain ⟨y0, y1, y2, y3, y4, y5⟩ : Mc wr g (0 + i * 6) y := by
        obtain ⟨b, off, c', e1, _, e2⟩ := ls_at (HLS.out.below HC.out.2) hy
        cases e1
        exact e2
      simp only [Nat.zero_add] at y0 y1 y2 y3 y4 y5
      have hgw : g < wr.heap.size := Nat.lt_of_lt_of_le hgl HC.out.2.size
      have hlen5 : Hid (m5 = (cgo p d i).length) := by
        show _ = _
        rcases owns_form HC.out.1 with ⟨e, e2⟩ | ⟨g5, c5', e, _⟩
        · cases e; exact e2.symm
        · cases e; rfl
      have HMI : Hid (m5 ≤ i) := by rw [hlen5.out]; exact cgo_len _ _ _
      have hmi : m5 ≤ 2932031007402 := Nat.le_trans HMI.out (by omega)
      have HMN : Hid (m5 < n) := Nat.lt_of_le_of_lt HMI.out hlt
      clear hy
      by_cases hE : i = 0
      · subst hE
        go_upto_region 6 with fail
        obtain ⟨W2, hW2⟩ : ∃ W2, W2 = wr.alloc (.cells #[.int .i64 y.at_, .int .u64 y.a, .int .u64 y.b, .int .u64 y.c, .int .u64 y.k, .int .u64 y.v] 36) := ⟨_, rfl⟩
        obtain ⟨b2, hb2⟩ : ∃ b2, b2 = wr.heap.size := ⟨_, rfl⟩
        rw [← hW2, ← hb2]
        have G2 : Gr wr W2 := by rw [hW2]; exact (Gr.refl _).alloc _
        have hbk : W2.heap[b2]? = some (.cells #[.int .i64 y.at_, .int .u64 y.a, .int .u64 y.b, .int .u64 y.c, .int .u64 y.k, .int .u64 y.v] 36 (0, 0)) := by rw [hW2, hb2]; exact heap_new' _ _
        obtain ⟨t0, t1, t2, t3, t4, t5⟩ : Mc W2 b2 0 y := by simp [Mc, World.cell?, hbk]
        have hbl : b2 < W2.heap.size := (Array.getElem?_eq_some_iff.1 hbk).1
        have HG2 := hid G2
        have HBK := hid hbk
        clear hW2 hb2 hbk
        go_quiet (fail)
        go_upto_region 7 with fail
        have HOW : Hid ((W2.drewN nq).ownsRow W1.heap.size 51 5 (.slice q5 m5 c5) m5 (fl EC (cgo p d 0))) := owns_re (owns_below HC.out.1 (HG2.out.drewN _).below) hlen5.out.symm rfl
        have HAP : Hid ((m5 + 1) * 40 ≤ 140737488355328 ∧ m5 + 1 ≤ maxLen ∧ W1.heap.size ≤ (W2.drewN nq).heap.size) := ⟨by have := HMN.out; omega, by unfold maxLen; omega, Nat.le_trans HC.out.2.size (HG2.out.drewN _).size⟩
        go_wp2_with (at_builtin; refine wpApp1 EC Try.underlying45 infoC rfl (by decide) rfl _ _ rfl W1.heap.size _ m5 _ rfl HOW.out ⟨p, y.a, y.b, y.c, 0⟩ (by first | rfl | (go_simp; done)) HAP.out.1 HAP.out.2.1 HAP.out.2.2 _ rfl _ ?_)
        intro g6 c6 w3 ho3 hg3 hn3
        have HB3 : Hid (Below W1.heap.size W1 w3) := by
          have h1 : Below W1.heap.size W1 (W2.drewN nq) := HC.out.2.trans ((HG2.out.drewN _).below.mono HC.out.2.size)
          refine h1.trans ((Kp.grownBy (S := fun k => W1.heap.size ≤ k) hg3 (fun k hk => (HC.out.1.lt k hk).1)).below h1.size (fun _ h => h))
        obtain ⟨M, hM⟩ : ∃ M, M = cgo p d 0 := ⟨_, rfl⟩
        have hml : M.length = m5 := by rw [hM]; exact hlen5.out.symm
        have ho4 : w3.ownsRow W1.heap.size 51 5 (.slice (some ⟨g6, 0, none⟩) (M.length + 1) c6) (M.length + 1) (fl EC (M ++ [⟨p, y.a, y.b, y.c, 0⟩])) := by
          rw [hml]
          refine owns_re ho3 rfl ?_
          rw [hM, fl_append, fl_one]
        rw [← hml]
        have HMB : Hid (M.length ≤ 2932031007402) := by rw [hml]; exact hmi
        have HM := hid hM
        have HML := hid hml
        clear ho3 hg3 hn3 hml hM
        obtain ⟨z0, HI4⟩ := owns_inc ho4
        have HIN := hid HI4
        obtain ⟨hgb, hgw3, hfz⟩ := owns_at ho4
        have hfz4 := hfz (M.length * 5 + 4)
        have a1 : (0 : Int) ≤ (M.length : Int) := by omega
        have a2 : (M.length : Int) < (M.length : Int) + 1 := by omega
        have a3 : M.length ≤ 2932031007402 := by have h1 := HMB.out; omega
        have HGB := hid hgb
        clear ho4 hfz HI4 hgb
        go_wp2_with fail
        obtain ⟨ho5, hk5⟩ := HIN.out 1
        have HF := hid (And.intro ho5 (HB3.out.trans (hk5.below HB3.out.size (fun k e => by rw [e]; exact HGB.out))))
        clear ho5 hk5
        generalize w3.setCell ⟨g6, M.length * 5 + 4, none⟩ (.int .i64 1) = w5 at *
        go_roundw
        case rel =>
          refine ⟨1, by omega, by first | (simp; done) | (simp; omega), ⟨_, _, _, rfl⟩, ?_⟩
          have he : cgo p d (1) = M ++ [⟨p, y.a, y.b, y.c, 1⟩] := by rw [cgo_first HY.out, HM.out, show cgo p d 0 = [] from rfl]; rfl
          unfold Cr
          rw [he]
          exact ⟨owns_re HF.out.1 (by simp) rfl, HF.out.2⟩
        case measure => simp [RowKit.intOf]; omega
      · obtain ⟨j, hj⟩ : ∃ j, i = j + 1 := ⟨i - 1, by omega⟩
        subst hj
        obtain ⟨z, hzj⟩ : ∃ z, d[j]? = some z := ⟨d[j]'(by have := HDL.out; omega), by simp⟩
        obtain ⟨x0, x1, x2, x3, x4, x5⟩ : Mc wr g (0 + j * 6) z := by
          obtain ⟨b, off, c', e1, _, e2⟩ := ls_at (HLS.out.below HC.out.2) hzj
          simp only [Value.slice.injEq, Option.some.injEq, Addr.mk.injEq] at e1
          obtain ⟨⟨rfl, rfl, -⟩, -, -⟩ := e1
          exact e2
        simp only [Nat.zero_add] at x0 x1 x2 x3 x4 x5
        obtain ⟨M, k, hcg, hkb, hnx⟩ := cgo_step (p := p) hzj HY.out
        have HCG := hid hcg
        have HNX := hid hnx
        have hj0 : (0 : Int) ≤ (j : Int) := by omega
        have hjn : (j : Int) < (n : Int) := by omega
        have hjz : ((j : Int) + 1 == 0) = false := by simp; omega
        have hkb2 : (k : Int) ≤ 5864062014806 := by omega
        clear hcg hnx hzj hkb hE
        by_cases hT : tmo z = tmo y
        · have HTE : Hid (teq y.a y.b y.c z.a z.b z.c = true) := by
            show _ = _
            rw [teq_iff]
            have h1 := congrArg Prod.fst hT
            have h2 := congrArg (fun q => q.2.1) hT
            have h3 := congrArg (fun q => q.2.2) hT
            exact ⟨h1.symm, h2.symm, h3.symm⟩
          have hte := HTE.out
          have HNT := hid hT
          clear hT
          go_upto_region 6 with fail
          obtain ⟨W2, hW2⟩ : ∃ W2, W2 = wr.alloc (.cells #[.int .i64 y.at_, .int .u64 y.a, .int .u64 y.b, .int .u64 y.c, .int .u64 y.k, .int .u64 y.v] 36) := ⟨_, rfl⟩
          obtain ⟨b2, hb2⟩ : ∃ b2, b2 = wr.heap.size := ⟨_, rfl⟩
          rw [← hW2, ← hb2]
          have G2 : Gr wr W2 := by rw [hW2]; exact (Gr.refl _).alloc _
          have hbk : W2.heap[b2]? = some (.cells #[.int .i64 y.at_, .int .u64 y.a, .int .u64 y.b, .int .u64 y.c, .int .u64 y.k, .int .u64 y.v] 36 (0, 0)) := by rw [hW2, hb2]; exact heap_new' _ _
          obtain ⟨t0, t1, t2, t3, t4, t5⟩ : Mc W2 b2 0 y := by simp [Mc, World.cell?, hbk]
          have hbl : b2 < W2.heap.size := (Array.getElem?_eq_some_iff.1 hbk).1
          have HG2 := hid G2
          have HBK := hid hbk
          clear hW2 hb2 hbk
          have x1' := (HG2.out.cell hgw).trans x1
          have x2' := (HG2.out.cell hgw).trans x2
          have x3' := (HG2.out.cell hgw).trans x3
          have hgw2 := Nat.lt_of_lt_of_le hgw HG2.out.size
          go_quiet (fail)
          go_upto_region 8 with fail
          have ho4 : (W2.drewN nq).ownsRow W1.heap.size 51 5 (.slice q5 m5 c5) (M.length + 1) (fl EC (M ++ [mkC p (tmo z, k)])) := by
            have h1 := owns_below HC.out.1 (HG2.out.drewN nq).below
            rw [HCG.out] at h1
            exact owns_re h1 (by simp) rfl
          have hm6 : m5 = M.length + 1 := by rw [hlen5.out, HCG.out]; simp
          have HMB : Hid (M.length ≤ 2932031007402) := by show _ ≤ _; omega
          subst hm6
          have HB3 : Hid (Below W1.heap.size W1 (W2.drewN nq)) := HC.out.2.trans ((HG2.out.drewN nq).below.mono HC.out.2.size)
          obtain ⟨w3, hw3⟩ : ∃ w3, w3 = W2.drewN nq := ⟨_, rfl⟩
          rw [← hw3] at ho4 HB3 ⊢
          clear hw3
          obtain ⟨gq, hgq⟩ : ∃ gq, q5 = some ⟨gq, 0, none⟩ := by
            obtain ⟨gq, cq, hgq, _⟩ := owns_formC ho4 (Nat.succ_pos _)
            simp only [Value.slice.injEq] at hgq
            exact ⟨gq, hgq.1⟩
          subst hgq
          obtain ⟨z0, HI4⟩ := owns_inc ho4
          have HIN := hid HI4
          obtain ⟨hgb, hgw3, hfz⟩ := owns_at ho4
          have hfz4 := hfz (M.length * 5 + 4)
          have a1 : (0 : Int) ≤ (M.length : Int) := by omega
          have a2 : (M.length : Int) < (M.length : Int) + 1 := by omega
          have a3 : M.length ≤ 2932031007402 := by have h1 := HMB.out; omega
          have HGB := hid hgb
          clear ho4 hfz HI4 hgb
          have hkn : k ≤ 5864062014806 := by omega
          clear hkb2 hte hmi
          have z0' : w3.cell? ⟨gq, M.length * 5 + 4, none⟩ = some (.int .i64 (k : Nat)) := z0
          clear z0
          go_wp2_with fail
          obtain ⟨ho5, hk5⟩ := HIN.out ((k : Int) + 1)
          have HF := hid (And.intro ho5 (HB3.out.trans (hk5.below HB3.out.size (fun k e => by rw [e]; exact HGB.out))))
          clear ho5 hk5
          generalize w3.setCell ⟨gq, M.length * 5 + 4, none⟩ (.int .i64 ((k : Int) + 1)) = w5 at *
          go_roundw
          case rel =>
            refine ⟨j + 2, by omega, by simp; omega, ⟨_, _, _, rfl⟩, ?_⟩
            have he := HNX.out
            rw [if_pos HNT.out] at he
            unfold Cr
            rw [he]
            exact ⟨owns_re HF.out.1 (by simp) rfl, HF.out.2⟩
          case measure => simp [RowKit.intOf]; omega
        · have HTE : Hid (teq y.a y.b y.c z.a z.b z.c = false) := by
            show _ = _
            rw [← Bool.not_eq_true, teq_iff]
            rintro ⟨h1, h2, h3⟩
            exact hT (Prod.ext h1.symm (Prod.ext h2.symm h3.symm))
          have hte := HTE.out
          have HNT := hid hT
          clear hT
          go_upto_region 6 with fail
          obtain ⟨W2, hW2⟩ : ∃ W2, W2 = wr.alloc (.cells #[.int .i64 y.at_, .int .u64 y.a, .int .u64 y.b, .int .u64 y.c, .int .u64 y.k, .int .u64 y.v] 36) := ⟨_, rfl⟩
          obtain ⟨b2, hb2⟩ : ∃ b2, b2 = wr.heap.size := ⟨_, rfl⟩
          rw [← hW2, ← hb2]
          have G2 : Gr wr W2 := by rw [hW2]; exact (Gr.refl _).alloc _
          have hbk : W2.heap[b2]? = some (.cells #[.int .i64 y.at_, .int .u64 y.a, .int .u64 y.b, .int .u64 y.c, .int .u64 y.k, .int .u64 y.v] 36 (0, 0)) := by rw [hW2, hb2]; exact heap_new' _ _
          obtain ⟨t0, t1, t2, t3, t4, t5⟩ : Mc W2 b2 0 y := by simp [Mc, World.cell?, hbk]
          have hbl : b2 < W2.heap.size := (Array.getElem?_eq_some_iff.1 hbk).1
          have HG2 := hid G2
          have HBK := hid hbk
          clear hW2 hb2 hbk
          have x1' := (HG2.out.cell hgw).trans x1
          have x2' := (HG2.out.cell hgw).trans x2
          have x3' := (HG2.out.cell hgw).trans x3
          have hgw2 := Nat.lt_of_lt_of_le hgw HG2.out.size
          go_quiet (fail)
          go_upto_region 7 with fail
          obtain ⟨M0, hM0⟩ : ∃ M0, M0 = M := ⟨_, rfl⟩
          rw [← hM0] at HCG HNX
          clear hM0 M
          have HOW : Hid ((W2.drewN nq).ownsRow W1.heap.size 51 5 (.slice q5 m5 c5) m5 (fl EC (cgo p d (j + 1)))) := owns_re (owns_below HC.out.1 (HG2.out.drewN _).below) hlen5.out.symm rfl
          have HAP : Hid ((m5 + 1) * 40 ≤ 140737488355328 ∧ m5 + 1 ≤ maxLen ∧ W1.heap.size ≤ (W2.drewN nq).heap.size) := ⟨by have := HMN.out; omega, by unfold maxLen; omega, Nat.le_trans HC.out.2.size (HG2.out.drewN _).size⟩
          go_wp2_with (at_builtin; refine wpApp1 EC Try.underlying45 infoC rfl (by decide) rfl _ _ rfl W1.heap.size _ m5 _ rfl HOW.out ⟨p, y.a, y.b, y.c, 0⟩ (by first | rfl | (go_simp; done)) HAP.out.1 HAP.out.2.1 HAP.out.2.2 _ rfl _ ?_)
          intro g6 c6 w3 ho3 hg3 hn3
          have HB3 : Hid (Below W1.heap.size W1 w3) := by
            have h1 : Below W1.heap.size W1 (W2.drewN nq) := HC.out.2.trans ((HG2.out.drewN _).below.mono HC.out.2.size)
            refine h1.trans ((Kp.grownBy (S := fun k => W1.heap.size ≤ k) hg3 (fun k hk => (HC.out.1.lt k hk).1)).below h1.size (fun _ h => h))
          obtain ⟨M, hM⟩ : ∃ M, M = cgo p d (j + 1) := ⟨_, rfl⟩
          have hml : M.length = m5 := by rw [hM]; exact hlen5.out.symm
          have ho4 : w3.ownsRow W1.heap.size 51 5 (.slice (some ⟨g6, 0, none⟩) (M.length + 1) c6) (M.length + 1) (fl EC (M ++ [⟨p, y.a, y.b, y.c, 0⟩])) := by
            rw [hml]
            refine owns_re ho3 rfl ?_
            rw [hM, fl_append, fl_one]
          rw [← hml]
          have HMB : Hid (M.length ≤ 2932031007402) := by rw [hml]; exact hmi
          have HM := hid hM
          have HML := hid hml
          clear ho3 hg3 hn3 hml hM
          obtain ⟨z0, HI4⟩ := owns_inc ho4
          have HIN := hid HI4
          obtain ⟨hgb, hgw3, hfz⟩ := owns_at ho4
          have hfz4 := hfz (M.length * 5 + 4)
          have a1 : (0 : Int) ≤ (M.length : Int) := by omega
          have a2 : (M.length : Int) < (M.length : Int) + 1 := by omega
          have a3 : M.length ≤ 2932031007402 := by have h1 := HMB.out; omega
          have HGB := hid hgb
          clear ho4 hfz HI4 hgb
          go_wp2_with fail
          obtain ⟨ho5, hk5⟩ := HIN.out 1
          have HF := hid (And.intro ho5 (HB3.out.trans (hk5.below HB3.out.size (fun k e => by rw [e]; exact HGB.out))))
          clear ho5 hk5
          generalize w3.setCell ⟨g6, M.length * 5 + 4, none⟩ (.int .i64 1) = w5 at *
          go_roundw
          case rel =>
            refine ⟨j + 2, by omega, by first | (simp; done) | (simp; omega), ⟨_, _, _, rfl⟩, ?_⟩
            have he : cgo p d (j + 2) = M ++ [⟨p, y.a, y.b, y.c, 1⟩] := by rw [HNX.out, if_neg HNT.out, HM.out, HCG.out]; rfl
            unfold Cr
            rw [he]
            exact ⟨owns_re HF.out.1 (by simp) rfl, HF.out.2⟩
          case measure => simp [RowKit.intOf]; omega
    · have hz : ¬ ((i : Int) < (n : Int)) := by omega
      have hin : i = n := by omega
      go_wp2
      go_ret
      have hd : cgo p d i = cat p l := by
        unfold cgo cat
        rw [hin, ← HDL.out, List.take_length, HD.out.grp]
      have hC := HC.out
      unfold Cr at hC
      rw [hd] at hC
      have hm : m5 = (cat p l).length := by
        rcases owns_form hC.1 with ⟨e, e2⟩ | ⟨g5, c5', e, _⟩
        · cases e; exact e2.symm
        · cases e; rfl
      refine ⟨_, rfl, ⟨q5, c5, by rw [hm]; rfl⟩, owns_base hC.1 HK.out.size, ?_⟩
      exact (HK.out.mono (fun k e => by rw [e]; rfl)).trans (T := fun _ => False) (Kp.of_below hC.2) (fun _ _ h => h.elim)
end Go.Proofs.Ytaaobchodbnkpaa.Qe
