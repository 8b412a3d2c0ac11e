import Derived.Test.YtbomkeginbhhoaaCCuts
namespace Go.Proofs.Ytbomkeginbhhoaa
open Go.RowKit Go.Sort
attribute [local go_sem ↓] Go.wp_at_zero Go.wp_at_succ

theorem rbel0 (a b : P2) : rbel 0 a b = (decide (a.1 ≤ b.1) && decide (a.2 ≤ b.2)) := by simp [rbel]
theorem rfst0 (a b : P2) : rfst 0 a b = (decide (a.1 < b.1) || (decide (a.1 = b.1) && decide (a.2 < b.2))) := by simp [rfst]
theorem ords0 : Ords (rbel 0) (rfst 0) where
  refl a := by rw [rbel0]; simp
  trans a b c := by rw [rbel0, rbel0, rbel0]; simp; omega
  anti a b := by
    rw [rbel0, rbel0]; simp
    intro h1 h2 h3 h4
    exact Prod.ext (by omega) (by omega)
  irr a := by rw [rfst0]; simp
  tr a b c := by rw [rfst0, rfst0, rfst0]; simp; omega
  tot a b := by
    rw [rfst0, rfst0]
    intro hne h
    simp at h ⊢
    by_cases h1 : a.1 = b.1
    · have h2 : a.2 ≠ b.2 := fun e => hne (Prod.ext h1 e)
      have := h.2 h1
      omega
    · omega

theorem take_found {l : List P2} {k : Nat} {s t : P2} (hs : l[k]? = some s) : decide (t ∈ l.take (k + 1)) = (decide (t ∈ l.take k) || decide (s = t)) := by
  rw [List.take_add_one, hs, Bool.eq_iff_iff, Bool.or_eq_true, decide_eq_true_iff, decide_eq_true_iff, decide_eq_true_iff, List.mem_append, Option.toList_some, List.mem_singleton, eq_comm (a := t)]
theorem take_any {l : List P2} {k : Nat} {s : P2} {p : P2 → Bool} (hs : l[k]? = some s) : (l.take (k + 1)).any p = ((l.take k).any p || p s) := by
  rw [List.take_add_one, hs, List.any_append]
  simp
/-- Two cells that lie there. -/
def Cx (w : World) (b o : Nat) (x : P2) : Prop := b < w.heap.size ∧ w.cell? ⟨b, o, none⟩ = some (.int .i64 x.1) ∧ w.cell? ⟨b, o + 1, none⟩ = some (.int .i64 x.2)
theorem Cx.kp {S : Nat → Prop} {w w' : World} {b o : Nat} {x : P2} (h : Cx w b o x) (hk : Kp S w w') (hS : ¬ S b) : Cx w' b o x :=
  ⟨Nat.lt_of_lt_of_le h.1 hk.size, (World.cell?_of_block (a := ⟨b, o, none⟩) (hk.block b h.1 hS)).trans h.2.1, (World.cell?_of_block (a := ⟨b, o + 1, none⟩) (hk.block b h.1 hS)).trans h.2.2⟩
theorem Cx.gr {w w' : World} {b o : Nat} {x : P2} (h : Cx w b o x) (hk : Gr w w') : Cx w' b o x := h.kp (S := fun _ => False) (Kp.of_below hk.below) (fun h => h)
theorem Cx.grown {W : World} {b o : Nat} {x : P2} (h : Cx W b o x) : (∀ (n : Nat) (os : Array Obj), (grow (W.drewN n) os).cell? ⟨b, o, none⟩ = some (.int .i64 x.1)) ∧ (∀ (n : Nat) (os : Array Obj), (grow (W.drewN n) os).cell? ⟨b, o + 1, none⟩ = some (.int .i64 x.2)) :=
  ⟨cell_grown (a := ⟨b, o, none⟩) h.1 h.2.1, cell_grown (a := ⟨b, o + 1, none⟩) h.1 h.2.2⟩

set_option maxHeartbeats 2000000 in
set_option maxRecDepth 100000 in
theorem chainLeast_any (u1 u2 : Value) (l asked : List P2) (w : World) (hu1 : Lst w u1 l) (hu2 : Lst w u2 asked) (hbig1 : l.length * 16 ≤ 140737488351232) (hbig2 : asked.length * 16 ≤ 140737488351232) :
    Calls Try.prog 3 #[u1, u2] w fun e w' => e = .returned (.bool true) ∧ Below w.heap.size w w' := by
  have hmx : Try.prog.follows .mixedOrders = true := by kernel_rfl
  have heq := fun a b x y W => run_eqP2 a b x y W
  have HU1 : Hid (Lst w u1 l) := hu1
  have HU2 : Hid (Lst w u2 asked) := hu2
  obtain ⟨pu, cu, rfl⟩ := hu1.form
  obtain ⟨pa, ca, rfl⟩ := hu2.form
  clear hu1 hu2
  have hm := made_at 0 (by decide) (by decide) w
  go_enter Try.func3, Try.ntmps3
  go_wp2_with fail
  refine hm.mono ?_
  rintro e w1 ⟨cb, fb, ff, rfl, hcb, hf, hc, hg⟩
  have B1 : Hid (Below w.heap.size w w1) := hg.below
  have C1 : Hid (Ch w1 cb fb ff (.slice none 0 0) []) := hc
  clear hm hc hg
  go_wp2_with fail
  refine (known_any _).mono ?_
  rintro e w2 ⟨rfl, hb2⟩
  have B2 : Hid (Below w.heap.size w w2) := B1.out.trans (hb2.mono B1.out.size)
  have C2 : Hid (Ch w2 cb fb ff (.slice none 0 0) []) := C1.out.below hb2
  clear hb2 B1 C1
  go_wp2_with fail
  go_loopw [6, 7] (fun s6 s7 wr => ∃ (k : Nat) (vr : Value), k ≤ l.length ∧ s7 = .int .i64 k ∧ s6 = .int .i64 ((cjoin (rbel 0) (rfst 0) [] (l.take k)).length : Nat) ∧ Hid (Ch wr cb fb ff vr (cjoin (rbel 0) (rfst 0) [] (l.take k)) ∧ Below w.heap.size w wr ∧ ∀ g, vr.ownBlock = some g → w.heap.size ≤ g)) (fun _ s7 _ => l.length - (RowKit.intOf s7).toNat)
  case atStart => exact ⟨0, .slice none 0 0, Nat.zero_le _, rfl, rfl, C2.out, B2.out, fun g h => by simp [Value.ownBlock] at h⟩
  case round =>
    obtain ⟨k, vr, hk, rfl, rfl, HI⟩ := hrel
    clear B2 C2
    by_cases hlt : k < l.length
    · have hltz : (k : Int) < (l.length : Int) := by omega
      obtain ⟨hch, hbw, hrow⟩ := HI.out
      obtain ⟨y, hy⟩ : ∃ y, l[k]? = some y := ⟨l[k], by simp⟩
      have HLw := HU1.out.below hbw
      obtain ⟨b1, o1, c1, e1, z1, x1, x2⟩ := HLw.at2 hy
      simp only [Value.slice.injEq] at e1
      obtain ⟨rfl, -, rfl⟩ := e1
      have hbb : b1 < w.heap.size := HU1.out.blk b1 rfl
      have hjl := cjoin_length (bel := rbel 0) (fst := rfst 0) [] (l.take k)
      have htl : (l.take k).length = k := by simp; omega
      have HJ : Hid (cjoin (rbel 0) (rfst 0) [] (l.take (k + 1)) = cins (rbel 0) (rfst 0) (cjoin (rbel 0) (rfst 0) [] (l.take k)) y) := cjoin_take_succ hy
      rw [htl, List.length_nil, Nat.zero_add] at hjl
      clear hy HLw
      generalize cjoin (rbel 0) (rfst 0) [] (l.take k) = f at *
      have hil := cins_length (bel := rbel 0) (fst := rfst 0) f y
      have hCov : ∀ W, Ch W cb fb ff vr f → _ := fun W h => covers_any (bel := rbel 0) y W h (by omega) hf.b
      have hIns : ∀ W, Ch W cb fb ff vr f → _ := fun W h => insert_any (bel := rbel 0) (fst := rfst 0) y W h (by omega) hf.b hf.f
      have hCov2 : ∀ W v', Ch W cb fb ff v' (cins (rbel 0) (rfst 0) f y) → _ := fun W v' h => covers_any (bel := rbel 0) y W h (by omega) hf.b
      rw [cov_ins ords0] at hCov2
      have S0 : wr.cell? ⟨b1, o1 + k * 2, none⟩ = some (.int .i64 y.1) ∧ wr.cell? ⟨b1, o1 + k * 2 + 1, none⟩ = some (.int .i64 y.2) ∧ b1 < wr.heap.size := ⟨x1, x2, z1⟩
      have keepG : ∀ W W' : World, (W.cell? ⟨b1, o1 + k * 2, none⟩ = some (.int .i64 y.1) ∧ W.cell? ⟨b1, o1 + k * 2 + 1, none⟩ = some (.int .i64 y.2) ∧ b1 < W.heap.size) → Gr W W' → (W'.cell? ⟨b1, o1 + k * 2, none⟩ = some (.int .i64 y.1) ∧ W'.cell? ⟨b1, o1 + k * 2 + 1, none⟩ = some (.int .i64 y.2) ∧ b1 < W'.heap.size) := fun W W' h hg =>
        ⟨(hg.cell h.2.2).trans h.1, (hg.cell h.2.2).trans h.2.1, Nat.lt_of_lt_of_le h.2.2 hg.size⟩
      have keepT : ∀ (W W' : World) (v' : Value), (W.cell? ⟨b1, o1 + k * 2, none⟩ = some (.int .i64 y.1) ∧ W.cell? ⟨b1, o1 + k * 2 + 1, none⟩ = some (.int .i64 y.2) ∧ b1 < W.heap.size) → Turn cb vr v' W W' → (W'.cell? ⟨b1, o1 + k * 2, none⟩ = some (.int .i64 y.1) ∧ W'.cell? ⟨b1, o1 + k * 2 + 1, none⟩ = some (.int .i64 y.2) ∧ b1 < W'.heap.size) := fun W W' v' h ht => by
        have := Cx.kp (b := b1) (o := o1 + k * 2) (x := y) ⟨h.2.2, h.1, h.2.1⟩ ht.1 (fun e => by
          rcases e with e | e
          · omega
          · have := hrow b1 e; omega)
        exact ⟨this.2.1, this.2.2, this.1⟩
      have C3 : Ch wr.drew cb fb ff vr f := hch.below (Gr.refl _).drew.below
      have HBW : Hid (Below w.heap.size w wr.drew) := hbw.trans ((Gr.refl _).drew.below.mono hbw.size)
      have HRO : Hid (∀ g, vr.ownBlock = some g → w.heap.size ≤ g) := hrow
      clear hbw hrow
      clear x1 x2 z1
      cases hq : ccov (rbel 0) f y with
      | true =>
        rw [hq] at hCov hIns
        go_wp2_with fail
        go_region_held3 (fun w' => w'.cell? ⟨b1, o1 + k * 2, none⟩ = some (.int .i64 y.1) ∧ w'.cell? ⟨b1, o1 + k * 2 + 1, none⟩ = some (.int .i64 y.2) ∧ b1 < w'.heap.size)
          (first | exact S0 | exact keepG _ _ (by assumption) (Gr.refl _).drew | exact keepG _ _ (by assumption) (by assumption) | exact keepT _ _ _ (by assumption) (by assumption))
          (first | (go_at_call 10; refine (hCov2 _ _ hch6).mono ?_; rintro e w7 ⟨rfl, hg7⟩) | (go_at_call 10; refine (hCov _ C3).mono ?_; rintro e w5 ⟨rfl, hg5⟩) | (go_at_call 11; refine (hIns _ (C3.below hg5.below)).mono ?_; rintro e w6 ⟨v6, rfl, hch6, ht6⟩))
        have z5 := HBW.out.size
        have B6 := ht6.below (B := w.heap.size) (Nat.le_trans z5 hg5.size) hcb HRO.out
        have B7 : Hid (Below w.heap.size w w7) := ((HBW.out.trans (hg5.below.mono z5)).trans B6.1).trans (hg7.below.mono (Nat.le_trans (Nat.le_trans z5 hg5.size) B6.1.size))
        have C7 : Hid (Ch w7 cb fb ff v6 (cins (rbel 0) (rfst 0) f y)) := hch6.below hg7.below
        have R7 : Hid (∀ g, v6.ownBlock = some g → w.heap.size ≤ g) := B6.2
        clear hg5 hg7 ht6 hch6 C3 keepG keepT S0 hCov hCov2 hIns HBW HRO B6 z5
        go_wp2_with fail
        refine (len_any w7 C7.out).mono ?_
        rintro e w8 ⟨rfl, rfl⟩
        go_wp2
        exact ⟨⟨k + 1, v6, by omega, by go_num, by rw [HJ.out], by rw [HJ.out]; exact C7.out, B7.out, R7.out⟩, by simp [RowKit.intOf]; omega⟩
      | false =>
        rw [hq] at hCov hIns
        go_wp2_with fail
        go_region_held3 (fun w' => w'.cell? ⟨b1, o1 + k * 2, none⟩ = some (.int .i64 y.1) ∧ w'.cell? ⟨b1, o1 + k * 2 + 1, none⟩ = some (.int .i64 y.2) ∧ b1 < w'.heap.size)
          (first | exact S0 | exact keepG _ _ (by assumption) (Gr.refl _).drew | exact keepG _ _ (by assumption) (by assumption) | exact keepT _ _ _ (by assumption) (by assumption))
          (first | (go_at_call 10; refine (hCov2 _ _ hch6).mono ?_; rintro e w7 ⟨rfl, hg7⟩) | (go_at_call 10; refine (hCov _ C3).mono ?_; rintro e w5 ⟨rfl, hg5⟩) | (go_at_call 11; refine (hIns _ (C3.below hg5.below)).mono ?_; rintro e w6 ⟨v6, rfl, hch6, ht6⟩))
        have z5 := HBW.out.size
        have B6 := ht6.below (B := w.heap.size) (Nat.le_trans z5 hg5.size) hcb HRO.out
        have B7 : Hid (Below w.heap.size w w7) := ((HBW.out.trans (hg5.below.mono z5)).trans B6.1).trans (hg7.below.mono (Nat.le_trans (Nat.le_trans z5 hg5.size) B6.1.size))
        have C7 : Hid (Ch w7 cb fb ff v6 (cins (rbel 0) (rfst 0) f y)) := hch6.below hg7.below
        have R7 : Hid (∀ g, v6.ownBlock = some g → w.heap.size ≤ g) := B6.2
        clear hg5 hg7 ht6 hch6 C3 keepG keepT S0 hCov hCov2 hIns HBW HRO B6 z5
        go_wp2_with fail
        refine (len_any w7 C7.out).mono ?_
        rintro e w8 ⟨rfl, rfl⟩
        go_wp2
        exact ⟨⟨k + 1, v6, by omega, by go_num, by rw [HJ.out], by rw [HJ.out]; exact C7.out, B7.out, R7.out⟩, by simp [RowKit.intOf]; omega⟩
    · have hltz : ¬ (k : Int) < (l.length : Int) := by omega
      rw [List.take_of_length_le (by omega)] at HI
      have HT : Hid (l.take k = l) := List.take_of_length_le (by omega)
      rw [HT.out]
      obtain ⟨hch, hbw, -⟩ := HI.out
      have hFl := cjoin_length (bel := rbel 0) (fst := rfst 0) [] l
      rw [List.length_nil, Nat.zero_add] at hFl
      have HG : Hid (Good (rbel 0) (rfst 0) (cjoin (rbel 0) (rfst 0) [] l)) := good_join ords0 good_nil l
      have HM : Hid (∀ t ∈ cjoin (rbel 0) (rfst 0) [] l, t ∈ l) := fun t ht => by
        rcases mem_join ht with h | h
        · exact h
        · simp at h
      have HC : Hid (∀ x, ccov (rbel 0) (cjoin (rbel 0) (rfst 0) [] l) x = l.any (fun y => rbel 0 y x)) := fun x => cov_all ords0 l x
      obtain ⟨F, hF⟩ : ∃ F, F = cjoin (rbel 0) (rfst 0) [] l := ⟨_, rfl⟩
      rw [← hF] at hch hFl HG HM HC ⊢
      have hli := list_any wr hch (by omega)
      clear hF HI HT hlt
      go_wp2_with fail
      refine hli.mono ?_
      rintro e w3 ⟨v3, rfl, ho3, hb3⟩
      have LF : Hid (Lst w3 v3 F) := owns_lst ho3
      obtain ⟨pg, cg, rfl⟩ := LF.out.form
      have B3 : Hid (Below w.heap.size w w3) := hbw.trans (hb3.mono hbw.size)
      have LL : Hid (Lst w3 (.slice pu l.length cu) l) := HU1.out.below B3.out
      have LA : Hid (Lst w3 (.slice pa asked.length ca) asked) := HU2.out.below B3.out
      have C3 : Hid (Ch w3 cb fb ff vr F) := hch.below hb3
      have hBel : ∀ a b W, _ := fun a b W => below0_ok.calls a b W
      have hFst : ∀ a b W, _ := fun a b W => first0_ok.calls a b W
      clear hli ho3 hb3 hbw hch HU1 HU2 hcb hk hltz
      go_wp2_with fail
      go_loopw [9] (fun s9 wr => ∃ i : Nat, i ≤ F.length ∧ s9 = .int .i64 i ∧ Below w3.heap.size w3 wr) (fun s9 _ => F.length - (RowKit.intOf s9).toNat)
      case atStart => exact ⟨0, Nat.zero_le _, rfl, Below.refl _ _⟩
      case round =>
        obtain ⟨i, hi, rfl, hbw⟩ := hrel
        generalize wr = W3 at *
        have hsz := hbw.size
        by_cases hlt : i < F.length
        · have hltz : (i : Int) < (F.length : Int) := by omega
          obtain ⟨t, ht⟩ : ∃ t, F[i]? = some t := ⟨F[i], by simp⟩
          have HT : Hid (F[i]? = some t) := ht
          have HMt : Hid (t ∈ l) := HM.out t (List.mem_of_getElem? ht)
          obtain ⟨b1, o1, c1, e1, z1, -, -⟩ := LF.out.at2 ht
          simp only [Value.slice.injEq] at e1
          obtain ⟨rfl, -, rfl⟩ := e1
          have AT : Hid (∀ W, Below w3.heap.size w3 W → Cx W b1 (o1 + i * 2) t) := fun W hW => by
            obtain ⟨b2, o2, c2, e2, z2, x1, x2⟩ := (LF.out.below hW).at2 ht
            simp only [Value.slice.injEq, Option.some.injEq, Addr.mk.injEq, and_true] at e2
            obtain ⟨⟨rfl, rfl⟩, -⟩ := e2
            exact ⟨z2, x1, x2⟩
          clear ht z1
          go_wp2_with fail
          go_loopw [10, 11] (fun s10 s11 wr => ∃ m : Nat, m ≤ l.length ∧ s11 = .int .i64 m ∧ s10 = .bool (decide (t ∈ l.take m)) ∧ Below w3.heap.size w3 wr) (fun _ s11 _ => l.length - (RowKit.intOf s11).toNat)
          case atStart => exact ⟨0, Nat.zero_le _, rfl, by simp, hbw⟩
          case round =>
            clear hbw hsz
            obtain ⟨m, hm, rfl, rfl, hbw⟩ := hrel
            have hsz := hbw.size
            by_cases hml : m < l.length
            · have hmz : (m : Int) < (l.length : Int) := by omega
              obtain ⟨q, hq⟩ : ∃ q, l[m]? = some q := ⟨l[m], by simp⟩
              obtain ⟨b2, o2, c2, e2, z2, y1, y2⟩ := (LL.out.below hbw).at2 hq
              simp only [Value.slice.injEq] at e2
              obtain ⟨rfl, -, rfl⟩ := e2
              obtain ⟨z3, t1, t2⟩ := AT.out wr hbw
              have HN : Hid (decide (t ∈ l.take (m + 1)) = (decide (t ∈ l.take m) || decide (q = t))) := take_found hq
              clear hq
              generalize decide (t ∈ l.take m) = fd at *
              cases fd with
              | true =>
                go_wp2_with fail
                go_quiet (fail)
                go_wp2
                exact ⟨⟨m + 1, by omega, by go_num, by rw [HN.out]; rfl, hbw.trans (((Gr.refl wr).drewN _).below.mono hsz)⟩, by simp [RowKit.intOf]; omega⟩
              | false =>
                by_cases hst : q = t
                · have hq := peq_t hst
                  have HST : Hid (q = t) := hst
                  clear hst
                  go_wp2_with fail
                  go_quiet (fail)
                  go_wp2
                  exact ⟨⟨m + 1, by omega, by go_num, by rw [HN.out, decide_eq_true HST.out]; rfl, hbw.trans (((Gr.refl wr).drewN _).below.mono hsz)⟩, by simp [RowKit.intOf]; omega⟩
                · have hq := peq_f hst
                  have HST : Hid (¬ q = t) := hst
                  clear hst
                  go_wp2_with fail
                  go_quiet (fail)
                  go_wp2
                  exact ⟨⟨m + 1, by omega, by go_num, by rw [HN.out, decide_eq_false HST.out]; rfl, hbw.trans (((Gr.refl wr).drewN _).below.mono hsz)⟩, by simp [RowKit.intOf]; omega⟩
            · have hmz : ¬ (m : Int) < (l.length : Int) := by omega
              have hfd : decide (t ∈ l.take m) = true := by rw [List.take_of_length_le (by omega)]; exact decide_eq_true HMt.out
              rw [hfd]
              clear hfd hml hm
              go_wp2_with fail
              go_loopw [12] (fun s12 wr => ∃ j : Nat, j ≤ F.length ∧ s12 = .int .i64 j ∧ Below w3.heap.size w3 wr) (fun s12 _ => F.length - (RowKit.intOf s12).toNat)
              case atStart => exact ⟨0, Nat.zero_le _, rfl, hbw⟩
              case round =>
                clear hbw hsz hmz
                obtain ⟨j, hj, rfl, hbw⟩ := hrel
                have hsz := hbw.size
                have ATw := AT.out wr hbw
                obtain ⟨z3, t1, t2⟩ := id ATw
                obtain ⟨gt1, gt2⟩ := ATw.grown
                clear ATw
                by_cases hjl : j < F.length
                · have hjz : (j : Int) < (F.length : Int) := by omega
                  obtain ⟨q, hq⟩ : ∃ q, F[j]? = some q := ⟨F[j], by simp⟩
                  obtain ⟨b2, o2, c2, e2, z2, y1, y2⟩ := (LF.out.below hbw).at2 hq
                  simp only [Value.slice.injEq, Option.some.injEq, Addr.mk.injEq, and_true] at e2
                  obtain ⟨⟨rfl, rfl⟩, -, rfl⟩ := e2
                  by_cases hij : i = j
                  · have hne : ((i : Int) != (j : Int)) = false := by rw [hij]; simp
                    clear hij hq gt1 gt2
                    go_wp2_with fail
                    go_quiet (fail)
                    go_wp2
                    exact ⟨⟨j + 1, by omega, by go_num, hbw.trans (((Gr.refl wr).drewN _).below.mono hsz)⟩, by simp [RowKit.intOf]; omega⟩
                  · have hne : ((i : Int) != (j : Int)) = true := by simp; omega
                    have hb := fun W => hBel q t W
                    rw [good_off HG.out hq HT.out (fun e => hij e.symm)] at hb
                    have gq1 := cell_grown (a := ⟨b1, o1 + j * 2, none⟩) z2 y1
                    have gq2 := cell_grown (a := ⟨b1, o1 + j * 2 + 1, none⟩) z2 y2
                    clear hij hq y1 y2 t1 t2
                    go_wp2_with fail
                    go_quiet_grown (first | (go_at_call 14; refine Calls.grown_of (v := .bool false) (hb _)))
                    have G9 : Gr wr (grow (wr.drewN nq) osq) := ((Gr.refl _).drewN _).grown _
                    go_wp2
                    exact ⟨⟨j + 1, by omega, by go_num, hbw.trans (G9.below.mono hsz)⟩, by simp [RowKit.intOf]; omega⟩
                · have hjz : ¬ (j : Int) < (F.length : Int) := by omega
                  rcases Nat.eq_zero_or_pos i with hi0 | hi0
                  case' inl =>
                    have hiz : decide ((0 : Int) < (i : Int)) = false := decide_eq_false (by omega)
                    have hiN : decide (0 < i) = false := decide_eq_false (by omega)
                    clear hi0 gt1 gt2
                    go_wp2_with fail
                    go_quiet (fail)
                    have hgn : Gr wr (wr.drewN nq) := (Gr.refl _).drewN nq
                  case' inr =>
                    have hiz : (0 : Int) < (i : Int) := by omega
                    have hiN : 0 < i := hi0
                    obtain ⟨p, hp⟩ : ∃ p, i = p + 1 := ⟨i - 1, by omega⟩
                    obtain ⟨q, hq⟩ : ∃ q, F[p]? = some q := ⟨F[p]'(by omega), by simp⟩
                    have hfs := fun W => hFst q t W
                    rw [good_next HG.out hq (by rw [← hp]; exact HT.out)] at hfs
                    have hsub : (i : Int) - 1 = (p : Int) := by omega
                    have hpz : (p : Int) < (F.length : Int) := by omega
                    have hwp : IntKind.i64.wrap (p : Int) = (p : Int) := by rw [IntKind.wrap_i64]; omega
                    obtain ⟨b2, o2, c2, e2, z2, y1, y2⟩ := (LF.out.below hbw).at2 hq
                    simp only [Value.slice.injEq, Option.some.injEq, Addr.mk.injEq, and_true] at e2
                    obtain ⟨⟨rfl, rfl⟩, -, rfl⟩ := e2
                    have gq1 := cell_grown (a := ⟨b1, o1 + p * 2, none⟩) z2 y1
                    have gq2 := cell_grown (a := ⟨b1, o1 + p * 2 + 1, none⟩) z2 y2
                    clear hq y1 y2 t1 t2 hp
                    go_wp2_with fail
                    go_quiet_grown (first | (go_at_call 15; refine Calls.grown_of (v := .bool true) (hfs _)))
                    have hgn : Gr wr (grow (wr.drewN nq) osq) := ⟨nq, osq, rfl⟩
                  all_goals go_wp2
                  all_goals exact ⟨⟨i + 1, by omega, by go_num, hbw.trans (hgn.below.mono hsz)⟩, by simp [RowKit.intOf]; omega⟩
        · have hltz : ¬ (i : Int) < (F.length : Int) := by omega
          clear hi hlt
          go_wp2_with fail
          go_loopw [13] (fun s13 wr => ∃ i : Nat, i ≤ asked.length ∧ s13 = .int .i64 i ∧ Below w3.heap.size w3 wr) (fun s13 _ => asked.length - (RowKit.intOf s13).toNat)
          case atStart => exact ⟨0, Nat.zero_le _, rfl, hbw⟩
          case round =>
            clear hbw hsz hltz
            obtain ⟨i, hi, rfl, hbw⟩ := hrel
            have hsz := hbw.size
            by_cases hlt : i < asked.length
            · have hltz : (i : Int) < (asked.length : Int) := by omega
              obtain ⟨t, ht⟩ : ∃ t, asked[i]? = some t := ⟨asked[i], by simp⟩
              obtain ⟨b1, o1, c1, e1, z1, -, -⟩ := LA.out.at2 ht
              simp only [Value.slice.injEq] at e1
              obtain ⟨rfl, -, rfl⟩ := e1
              have AT : Hid (∀ W, Below w3.heap.size w3 W → Cx W b1 (o1 + i * 2) t) := fun W hW => by
                obtain ⟨b2, o2, c2, e2, z2, x1, x2⟩ := (LA.out.below hW).at2 ht
                simp only [Value.slice.injEq, Option.some.injEq, Addr.mk.injEq, and_true] at e2
                obtain ⟨⟨rfl, rfl⟩, -⟩ := e2
                exact ⟨z2, x1, x2⟩
              clear ht z1
              go_wp2_with fail
              go_loopw [14, 15] (fun s14 s15 wr => ∃ m : Nat, m ≤ l.length ∧ s15 = .int .i64 m ∧ s14 = .bool ((l.take m).any (fun y => rbel 0 y t)) ∧ Below w3.heap.size w3 wr) (fun _ s15 _ => l.length - (RowKit.intOf s15).toNat)
              case atStart => exact ⟨0, Nat.zero_le _, rfl, by simp, hbw⟩
              case round =>
                clear hbw hsz
                obtain ⟨m, hm, rfl, rfl, hbw⟩ := hrel
                have hsz := hbw.size
                have ATw := AT.out wr hbw
                obtain ⟨z3, t1, t2⟩ := id ATw
                obtain ⟨gt1, gt2⟩ := ATw.grown
                clear ATw
                by_cases hml : m < l.length
                · have hmz : (m : Int) < (l.length : Int) := by omega
                  obtain ⟨q, hq⟩ : ∃ q, l[m]? = some q := ⟨l[m], by simp⟩
                  obtain ⟨b2, o2, c2, e2, z2, y1, y2⟩ := (LL.out.below hbw).at2 hq
                  simp only [Value.slice.injEq] at e2
                  obtain ⟨rfl, -, rfl⟩ := e2
                  have HN : Hid ((l.take (m + 1)).any (fun y => rbel 0 y t) = ((l.take m).any (fun y => rbel 0 y t) || rbel 0 q t)) := take_any hq
                  have hb := fun W => hBel q t W
                  clear hq
                  generalize (l.take m).any (fun y => rbel 0 y t) = fd at *
                  generalize rbel 0 q t = nx at *
                  cases fd with
                  | true =>
                    clear gt1 gt2
                    go_wp2_with fail
                    go_quiet (fail)
                    go_wp2
                    exact ⟨⟨m + 1, by omega, by go_num, by rw [HN.out]; rfl, hbw.trans (((Gr.refl wr).drewN _).below.mono hsz)⟩, by simp [RowKit.intOf]; omega⟩
                  | false =>
                    have gq1 := cell_grown (a := ⟨b2, o2 + m * 2, none⟩) z2 y1
                    have gq2 := cell_grown (a := ⟨b2, o2 + m * 2 + 1, none⟩) z2 y2
                    clear y1 y2 t1 t2
                    go_wp2_with fail
                    go_quiet_grown (first | (go_at_call 14; refine Calls.grown_of (v := .bool nx) (hb _)))
                    have G9 : Gr wr (grow (wr.drewN nq) osq) := ((Gr.refl _).drewN _).grown _
                    go_wp2
                    exact ⟨⟨m + 1, by omega, by go_num, by rw [HN.out]; rfl, hbw.trans (G9.below.mono hsz)⟩, by simp [RowKit.intOf]; omega⟩
                · have hmz : ¬ (m : Int) < (l.length : Int) := by omega
                  have hcv := covers_any (bel := rbel 0) t wr (C3.out.below hbw) (by omega) hf.b
                  rw [HC.out t] at hcv
                  have hfd : (l.take m).any (fun y => rbel 0 y t) = l.any (fun y => rbel 0 y t) := by rw [List.take_of_length_le (by omega)]
                  rw [hfd]
                  generalize l.any (fun y => rbel 0 y t) = fd at *
                  clear hfd gt1 gt2
                  go_wp2_with fail
                  refine hcv.mono ?_
                  rintro e w9 ⟨rfl, hg9⟩
                  have hself : (fd != fd) = false := by simp
                  go_wp2
                  exact ⟨⟨i + 1, by omega, by go_num, hbw.trans (hg9.below.mono hsz)⟩, by simp [RowKit.intOf]; omega⟩
            · have hltz : ¬ (i : Int) < (asked.length : Int) := by omega
              go_wp2
              go_ret
              exact ⟨rfl, B3.out.trans (hbw.mono B3.out.size)⟩
end Go.Proofs.Ytbomkeginbhhoaa
