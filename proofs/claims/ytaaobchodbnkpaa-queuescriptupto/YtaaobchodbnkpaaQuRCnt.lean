import Derived.Test.YtaaobchodbnkpaaQuSrt
import Derived.Test.YtaaobchodbnkpaaQuCnt2
namespace Go.Proofs.Ytaaobchodbnkpaa.Qe
open Go.RowKit Go.Sort
attribute [local go_sem ↓] Go.wp_at_zero Go.wp_at_succ

/-- The counts at a place, out of its times in order. -/
theorem cat_of {p : Int} {l : List Ms} {R : List Tq} (hs : R.Pairwise fun a b => tl a b = true) (hm : ∀ t, t ∈ R ↔ t ∈ l.map tmo) : cat p l = R.map fun t => mkC p (t, (l.map tmo).count t) := by
  have hg := gct_ok (l.map tmo)
  have : gct (l.map tmo) = R.map fun t => (t, (l.map tmo).count t) := by
    refine srt_same hg.srt (List.pairwise_map.2 hs) fun x => ?_
    obtain ⟨t, n⟩ := x
    rw [hg.cnt t n, List.mem_map]
    constructor
    · rintro ⟨h1, h2⟩
      refine ⟨t, (hm t).2 (List.count_pos_iff.1 (by omega)), by rw [h1]⟩
    · rintro ⟨u, hu, he⟩
      simp only [Prod.mk.injEq] at he
      obtain ⟨rfl, rfl⟩ := he
      exact ⟨rfl, List.count_pos_iff.2 ((hm u).1 hu)⟩
  unfold cat
  rw [this, List.map_map]
  rfl
theorem count_next {l : List Ms} {j : Nat} {y : Ms} (h : l[j]? = some y) (t : Tq) : ((l.take (j + 1)).map tmo).count t = ((l.take j).map tmo).count t + (if tmo y = t then 1 else 0) := by
  rw [List.take_add_one, h]
  simp only [Option.toList_some, List.map_append, List.map_cons, List.map_nil, List.count_append, List.count_singleton]
  congr 1
  by_cases e : tmo y = t
  · simp [e]
  · simp [e]
theorem count_le (l : List Ms) (j : Nat) (t : Tq) : ((l.take j).map tmo).count t ≤ j := Nat.le_trans List.count_le_length (by rw [List.length_map, List.length_take]; omega)
theorem owns_sl {w : World} {base : Nat} {e : TypeId} {s n : Nat} {v : Value} {xs : List Value} (h : w.ownsRow base e s v n xs) : ∃ q m c, v = .slice q m c := by
  rcases h.2 with ⟨h0, _⟩ | ⟨_, _, _, hv, _⟩
  · exact ⟨_, _, _, h0⟩
  · exact ⟨_, _, _, hv⟩
theorem own_ne2 {W : World} {b b' : Nat} {e e' : TypeId} {s s' n n' : Nat} {v v' : Value} {xs xs' : List Value} (h : W.ownsRow b e s v n xs) (k : W.ownsRow b' e' s' v' n' xs') (hne : e ≠ e') : ∀ g, v.ownBlock = some g → v'.ownBlock ≠ some g := fun g hg hg' => by
  rcases h.2 with ⟨hv, _⟩ | ⟨g1, _, _, hv, _, hh, _⟩
  · rw [hv] at hg; simp [Value.ownBlock] at hg
  · rcases k.2 with ⟨hv', _⟩ | ⟨g2, _, _, hv', _, hh', _⟩
    · rw [hv'] at hg'; simp [Value.ownBlock] at hg'
    · rw [hv] at hg
      rw [hv'] at hg'
      simp [Value.ownBlock] at hg hg'
      subst hg hg'
      rw [hh] at hh'
      simp only [Option.some.injEq, Obj.cells.injEq] at hh'
      exact hne hh'.2.1
set_option maxHeartbeats 8000000 in
set_option maxRecDepth 100000 in
theorem rcounts_any {S : Nat → Prop} {rb N : Nat} {v : Value} {L : List Ms} (w : World) (h : Rd w S rb N v L) (hN : N ≤ 192) (hL : L.length ≤ 1000000) : Calls Try.prog 21 #[.pointer (some ⟨rb, 0, none⟩)] w (Cnts w (ctsTo (fun p : Nat => atp L (p : Int)) N)) := by
  have heq := fun a b c x y z W => run_eqT a b c x y z W
  have HLI : Hid (∀ (W : World) (p : Int), Below w.heap.size w W → Calls Try.prog 23 #[.pointer (some ⟨rb, 0, none⟩), .int .i64 p] W (Ans W (atp L p))) := fun W p hW => rlist_any p W (h.below hW) (by omega)
  have HC0 : Hid (∀ W, Below w.heap.size w W → W.cell? ⟨rb, 0, none⟩ = some (.int .i64 (N : Nat)) ∧ rb < W.heap.size) := fun W hW => ⟨(h.below hW).c0, (h.below hW).lt⟩
  have HAL : Hid (∀ p, (atp L p).length ≤ 1000000) := fun p => Nat.le_trans (List.length_filter_le _ _) hL
  obtain ⟨Q, hQ⟩ : ∃ Q : Nat → List Ms, Q = fun p : Nat => atp L (p : Int) := ⟨_, rfl⟩
  have HQ : Hid (∀ p : Nat, Q p = atp L (p : Int)) := fun p => by rw [hQ]
  have HCT : Hid (∀ p, p ≤ N → (ctsTo Q p).length ≤ p * 1000000) := fun p _ => by
    have h1 := ctsTo_len Q p
    have h2 : sumTo (fun i => (Q i).length) p ≤ p * 1000000 := by
      clear h1
      induction p with
      | zero => exact Nat.le_refl _
      | succ p ih =>
        rw [show sumTo (fun i => (Q i).length) (p + 1) = sumTo (fun i => (Q i).length) p + (Q p).length from rfl]
        have h3 := ih (by omega)
        have h4 := HAL.out (p : Int)
        rw [← HQ.out p] at h4
        omega
    omega
  rw [← hQ]
  clear h hQ hL
  unfold Cnts
  go_enter Try.func21, Try.ntmps21
  go_wp2_with fail
  go_loopw [3, 4, 5, 6, 7, 8, 9, 10] (fun s3 s4 _ _ _ _ _ _ wr => ∃ p : Nat, p ≤ N ∧ s4 = .int .i64 (p : Nat) ∧ (∃ q m c, s3 = .slice q m c) ∧ Hid (wr.ownsRow w.heap.size 51 5 s3 (ctsTo Q p).length (fl EC (ctsTo Q p)) ∧ Below w.heap.size w wr)) (fun _ s4 _ _ _ _ _ _ _ => N - (RowKit.intOf s4).toNat)
  case atStart => exact ⟨0, Nat.zero_le _, rfl, ⟨_, _, _, rfl⟩, World.ownsRow_nil _ _ _ _, (Gr.refl _).below⟩
  case round =>
    obtain ⟨p, hp, rfl, ⟨q3, m3, c3, rfl⟩, HI⟩ := hrel
    obtain ⟨c0, l0⟩ := HC0.out wr HI.out.2
    by_cases hlt : p < N
    · have hz : (p : Int) < (N : Int) := by omega
      have hli := HLI.out wr (p : Int) HI.out.2
      go_wp2_with fail
      refine hli.mono ?_
      rintro e w2 ⟨u, rfl, ⟨pl, cl, rfl⟩, hu, hB2⟩
      obtain ⟨l, hl⟩ : ∃ l, l = atp L (p : Int) := ⟨_, rfl⟩
      rw [← hl] at hu ⊢
      have HQP : Hid (Q p = l) := by show _ = _; rw [HQ.out, hl]
      have hnl : l.length ≤ 1000000 := by rw [hl]; exact HAL.out _
      obtain ⟨n, hn⟩ : ∃ n, n = l.length := ⟨_, rfl⟩
      have HLL : Hid (Ls EM w2 (.slice pl n cl) l) := by rw [hn]; exact owns_ls (E := EM) hu
      have HLO : Hid (w2.ownsRow 0 36 6 (.slice pl n cl) n (fl EM l)) := by rw [hn]; exact owns_base hu (Nat.zero_le _)
      rw [← hn] at hnl ⊢
      have HN := hid hn
      have HO : Hid (w2.ownsRow w.heap.size 51 5 (.slice q3 m3 c3) (ctsTo Q p).length (fl EC (ctsTo Q p)) ∧ Below w.heap.size w w2) := ⟨owns_below HI.out.1 hB2, HI.out.2.trans (hB2.mono HI.out.2.size)⟩
      clear hl hn hu hB2 hli c0 l0 HI
      go_wp2_with fail
      go_loopw [6, 7] (fun s6 s7 wr => ∃ i : Nat, i ≤ n ∧ s7 = .int .i64 (i : Nat) ∧ (∃ q m c, s6 = .slice q m c) ∧ Hid (wr.ownsRow w2.heap.size 32 3 s6 i (fl So.ET ((l.take i).map tmo)) ∧ Below w2.heap.size w2 wr)) (fun _ s7 _ => n - (RowKit.intOf s7).toNat)
      case atStart => exact ⟨0, Nat.zero_le _, rfl, ⟨_, _, _, rfl⟩, World.ownsRow_nil _ _ _ _, (Gr.refl _).below⟩
      case round =>
        obtain ⟨i, hi, rfl, ⟨q6, m6, c6, rfl⟩, HI⟩ := hrel
        by_cases hli : i < n
        · have hz : (i : Int) < (n : Int) := by omega
          have hi0 : (0 : Int) ≤ (i : Int) := by omega
          obtain ⟨x, hx⟩ : ∃ x, l[i]? = some x := ⟨l[i]'(by have := HN.out; omega), by simp⟩
          obtain ⟨b1, o1, q1, e1, l1, y0, y1, y2, y3, y4, y5⟩ := ls_at (HLL.out.below HI.out.2) hx
          simp only [Value.slice.injEq] at e1
          obtain ⟨rfl, -, rfl⟩ := e1
          have HX := hid hx
          have hown := hid HI.out.1
          have hbs := HI.out.2.size
          clear hx
          go_wp2_with (at_builtin; refine So.Cn.wpApp1 rfl _ _ rfl w2.heap.size (.slice q6 m6 c6) i _ rfl hown.out (tmo x) (by first | rfl | (go_simp; done)) (by omega) hbs ?_)
          intro g7 c7 w7 h7 g7' _
          have HW7 : Hid (w7.ownsRow w2.heap.size 32 3 (.slice (some ⟨g7, 0, none⟩) (i + 1) c7) (i + 1) (fl So.ET ((l.take (i + 1)).map tmo)) ∧ Below w2.heap.size w2 w7) := ⟨owns_re h7 rfl (by rw [List.take_add_one, HX.out]; simp [fl]), HI.out.2.trans ((Kp.grownBy (S := fun k => (Value.slice q6 m6 c6).ownBlock = some k) g7' (fun _ h => h)).below HI.out.2.size (fun k e => (hown.out.lt k e).1))⟩
          clear h7 g7' hown
          go_wp2_with fail
          exact ⟨⟨i + 1, by omega, by go_num, ⟨_, _, _, rfl⟩, HW7.out⟩, by simp [RowKit.intOf]; omega⟩
        · have hz : ¬ (i : Int) < (n : Int) := by omega
          have hin : i = n := by omega
          have HT0 := HI.out.1
          rw [hin, HN.out, List.take_length] at HT0
          have hso := So.rsorted_any (.slice q6 m6 c6) (l.map tmo) wr (owns_ls (E := So.ET) (owns_re HT0 (by simp) rfl)) (by rw [List.length_map, ← HN.out]; exact hnl)
          have HB3 := hid HI.out.2
          clear HT0 HI hin hi hli
          go_wp2_with fail
          refine hso.mono ?_
          rintro e w3 ⟨v3, R, rfl, hR, hsrt, hmem, hB3⟩
          have hro := hR.owns
          obtain ⟨q8, m8, c8, hv8⟩ := owns_sl hro
          have hm8 : m8 = R.length := by
            obtain ⟨pp, cc, e8⟩ := (owns_ls (E := So.ET) hro).form
            rw [hv8] at e8
            simp only [Value.slice.injEq] at e8
            exact e8.2.1
          subst hv8
          have HRL : Hid (w3.ownsRow 0 32 3 (.slice q8 m8 c8) m8 (fl So.ET R)) := by rw [hm8]; rw [hm8] at hro; exact owns_base hro (Nat.zero_le _)
          have HCAT : Hid (cat (p : Int) l = R.map fun t => mkC (p : Int) (t, (l.map tmo).count t)) := cat_of hsrt (fun t => hmem t)
          have HM8 := hid hm8
          have HR8 : Hid (m8 ≤ n) := by
            show _ ≤ _
            rw [hm8, HN.out]
            have h1 := congrArg List.length HCAT.out
            rw [List.length_map] at h1
            rw [← h1]
            exact cat_len _ _
          have hB23 : Below w2.heap.size w2 w3 := HB3.out.trans (hB3.mono HB3.out.size)
          have HO3 : Hid (w3.ownsRow w.heap.size 51 5 (.slice q3 m3 c3) (ctsTo Q p).length (fl EC (ctsTo Q p)) ∧ Below w.heap.size w w3) := ⟨owns_below HO.out.1 hB23, HO.out.2.trans (hB23.mono HO.out.2.size)⟩
          have HL3 := hid (owns_below HLO.out hB23)
          have hm8n := HR8.out
          clear hR hsrt hmem hB3 hro hm8 hso hB23 HB3
          go_wp2_with fail
          go_loopw [3, 8, 9, 10] (fun s3 s8 _ _ wr => ∃ i : Nat, i ≤ m8 ∧ s8 = .int .i64 (i : Nat) ∧ (∃ q m c, s3 = .slice q m c) ∧ Hid (wr.ownsRow w.heap.size 51 5 s3 (ctsTo Q p ++ (R.take i).map fun t => mkC (p : Int) (t, (l.map tmo).count t)).length (fl EC (ctsTo Q p ++ (R.take i).map fun t => mkC (p : Int) (t, (l.map tmo).count t))) ∧ Below w.heap.size w wr ∧ wr.ownsRow 0 36 6 (.slice pl n cl) n (fl EM l) ∧ wr.ownsRow 0 32 3 (.slice q8 m8 c8) m8 (fl So.ET R))) (fun _ s8 _ _ _ => m8 - (RowKit.intOf s8).toNat)
          case atStart => exact ⟨0, Nat.zero_le _, rfl, ⟨_, _, _, rfl⟩, by simpa using HO3.out.1, HO3.out.2, HL3.out, HRL.out⟩
          case round =>
            clear HO3 HL3 HRL
            obtain ⟨i, hi, rfl, ⟨q9, m9, c9, rfl⟩, HI⟩ := hrel
            obtain ⟨P0, hP0⟩ : ∃ P0, P0 = ctsTo Q p ++ (R.take i).map fun t => mkC (p : Int) (t, (l.map tmo).count t) := ⟨_, rfl⟩
            have HP := hid hP0
            rw [← hP0] at HI
            clear hP0
            by_cases hli : i < m8
            · have hz : (i : Int) < (m8 : Int) := by omega
              have hi0 : (0 : Int) ≤ (i : Int) := by omega
              obtain ⟨t, ht⟩ : ∃ t, R[i]? = some t := ⟨R[i]'(by have := HM8.out; omega), by simp⟩
              have HT := hid ht
              clear ht
              go_wp2_with fail
              go_loopw [9, 10] (fun s9 s10 wx => ∃ (j k : Nat), j ≤ n ∧ k ≤ j ∧ s10 = .int .i64 (j : Nat) ∧ s9 = .int .i64 (k : Nat) ∧ Hid (k = ((l.take j).map tmo).count t ∧ Gr wr wx)) (fun _ s10 _ => n - (RowKit.intOf s10).toNat)
              case atStart => exact ⟨0, 0, Nat.zero_le _, Nat.le_refl _, rfl, rfl, by simp, Gr.refl _⟩
              case round =>
                obtain ⟨j, k, hj, hk, rfl, rfl, HG⟩ := hrel
                obtain ⟨b2, o2, q2, e2, l2, z0, z1, z2⟩ := ((owns_ls (E := So.ET) (owns_re HI.out.2.2.2 HM8.out rfl)).below HG.out.2.below).at3q HT.out
                simp only [Value.slice.injEq] at e2
                obtain ⟨rfl, -, rfl⟩ := e2
                by_cases hlj : j < n
                · have hzj : (j : Int) < (n : Int) := by omega
                  have hj0 : (0 : Int) ≤ (j : Int) := by omega
                  obtain ⟨y, hy⟩ : ∃ y, l[j]? = some y := ⟨l[j]'(by have := HN.out; omega), by simp⟩
                  obtain ⟨b1, o1, q1, e1, l1, y0, y1, y2, y3, y4, y5⟩ := ls_at ((owns_ls (E := EM) (owns_re HI.out.2.2.1 HN.out rfl)).below HG.out.2.below) hy
                  simp only [Value.slice.injEq] at e1
                  obtain ⟨rfl, -, rfl⟩ := e1
                  have HCN := hid (count_next hy t)
                  clear hy
                  by_cases hyt : tmo y = t
                  · have hqe : teq y.a y.b y.c t.1 t.2.1 t.2.2 = true := So.teq_t (s := tmo y) hyt
                    have HYT := hid hyt
                    clear hyt
                    go_wp2_with fail
                    go_quiet (fail)
                    go_wp2_with fail
                    go_roundw
                    case rel => exact ⟨j + 1, k + 1, by omega, by omega, by simp, by simp, by rw [HCN.out, if_pos HYT.out, HG.out.1], HG.out.2.drewN _⟩
                    case measure => simp [RowKit.intOf]; omega
                  · have hqe : teq y.a y.b y.c t.1 t.2.1 t.2.2 = false := So.teq_f (s := tmo y) hyt
                    have HYT : Hid (tmo y ≠ t) := hyt
                    clear hyt
                    go_wp2_with fail
                    go_quiet (fail)
                    go_wp2_with fail
                    go_roundw
                    case rel => exact ⟨j + 1, k, by omega, by omega, by simp, by simp, by rw [HCN.out, if_neg HYT.out, HG.out.1]; rfl, HG.out.2.drewN _⟩
                    case measure => simp [RowKit.intOf]; omega
                · have hzj : ¬ (j : Int) < (n : Int) := by omega
                  have hjn : j = n := by omega
                  have HK : Hid (k = (l.map tmo).count t) := by
                    show _ = _
                    rw [HG.out.1, hjn, HN.out, List.take_length]
                  have hown : Hid (wr.ownsRow w.heap.size 51 5 (.slice q9 m9 c9) P0.length (fl EC P0)) := owns_below HI.out.1 HG.out.2.below
                  have hbx : Below w.heap.size w wr := HI.out.2.1.trans (HG.out.2.below.mono HI.out.2.1.size)
                  have hbs := hbx.size
                  have HPL : Hid ((P0.length + 1) * 40 ≤ 140737488355328 ∧ P0.length + 1 ≤ maxLen) := by
                    have h1 := HCT.out p (by omega)
                    have h2 : P0.length ≤ p * 1000000 + i := by
                      rw [HP.out, List.length_append, List.length_map, List.length_take]
                      omega
                    unfold maxLen
                    exact ⟨by omega, by omega⟩
                  have HBX := hid hbx
                  have HG2 := hid HG.out.2
                  clear HG hjn hlj hbx hj
                  go_wp2_with (at_builtin; refine wpApp1 EC Try.underlying45 infoC rfl (by decide) rfl _ _ rfl w.heap.size (.slice q9 m9 c9) P0.length _ rfl hown.out (mkC (p : Int) (t, k)) (by first | rfl | (go_simp; done)) HPL.out.1 HPL.out.2 hbs _ rfl _ ?_)
                  intro g9 c9' w9 h9 g9' _
                  have hK9 := Kp.grownBy (S := fun q => (Value.slice q9 m9 c9).ownBlock = some q) g9' (fun _ h => h)
                  have HRES : Hid (w9.ownsRow w.heap.size 51 5 (.slice (some ⟨g9, 0, none⟩) (P0.length + 1) c9') (ctsTo Q p ++ (R.take (i + 1)).map fun t => mkC (p : Int) (t, (l.map tmo).count t)).length (fl EC (ctsTo Q p ++ (R.take (i + 1)).map fun t => mkC (p : Int) (t, (l.map tmo).count t))) ∧ Below w.heap.size w w9 ∧ w9.ownsRow 0 36 6 (.slice pl n cl) n (fl EM l) ∧ w9.ownsRow 0 32 3 (.slice (some ⟨b2, o2, none⟩) m8 c8) m8 (fl So.ET R)) := by
                    have e : (ctsTo Q p ++ (R.take (i + 1)).map fun t => mkC (p : Int) (t, (l.map tmo).count t)) = P0 ++ [mkC (p : Int) (t, k)] := by
                      rw [HP.out, List.take_add_one, HT.out, HK.out]
                      simp
                    have o1 := owns_below HI.out.2.2.1 HG2.out.below
                    have o2 := owns_below HI.out.2.2.2 HG2.out.below
                    refine ⟨by rw [e]; exact owns_re h9 (by simp) (by rw [fl_append, fl_one]), HBX.out.trans (hK9.below HBX.out.size (fun q e => (hown.out.lt q e).1)), owns_kp hK9 o1 (fun q hq => own_ne2 o1 hown.out (by decide) q hq), owns_kp hK9 o2 (fun q hq => own_ne2 o2 hown.out (by decide) q hq)⟩
                  clear h9 g9' hK9 hown
                  go_wp2_with fail
                  exact ⟨⟨i + 1, by omega, by go_num, ⟨_, _, _, rfl⟩, HRES.out⟩, by simp [RowKit.intOf]; omega⟩
            · have hz : ¬ (i : Int) < (m8 : Int) := by omega
              have him : i = m8 := by omega
              have HE : Hid (ctsTo Q (p + 1) = P0) := by
                show _ = _
                rw [HP.out, him, HM8.out, List.take_length, ← HCAT.out]
                show ctsTo Q p ++ cat (p : Int) (Q p) = _
                rw [HQP.out]
              clear him
              go_wp2_with fail
              exact ⟨⟨p + 1, by omega, by go_num, ⟨_, _, _, rfl⟩, by rw [HE.out]; exact HI.out.1, HI.out.2.1⟩, by simp [RowKit.intOf]; omega⟩
    · have hz : ¬ (p : Int) < (N : Int) := by omega
      have hpn : p = N := by omega
      have HR := HI.out
      rw [hpn] at HR
      have hform := (owns_ls (E := EC) HR.1).form
      go_wp2_with fail
      go_ret
      exact ⟨_, rfl, hform, HR⟩
end Go.Proofs.Ytaaobchodbnkpaa.Qe
