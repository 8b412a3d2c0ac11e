import Derived.Test.YtghpekkncfckaaaCaLaw
namespace Go.Proofs.Ytghpekkncfckaaa.Ca
open Go.RowKit Go.Sort
attribute [local go_sem ↓] Go.wp_at_zero Go.wp_at_succ
theorem flT_set (L : List T3) (k : Nat) (x : T3) : ((((fl ET L).set (k * 3) (.int .u64 x.1)).set (k * 3 + 1) (.int .u64 x.2.1)).set (k * 3 + 2) (.int .u64 x.2.2)) = fl ET (L.set k x) := by
  induction L generalizing k with
  | nil => simp [fl]
  | cons y L ih =>
    rw [fl_cons]
    cases k with
    | zero => simp [ET, fl]
    | succ k =>
      rw [List.set_cons_succ, fl_cons, ← ih k, show (k + 1) * 3 = k * 3 + 3 by omega]
      simp [ET]
theorem owns_set3 {w : World} {g N cap k : Nat} {L : List T3} (x : T3) (h : w.ownsRow 0 25 3 (.slice (some ⟨g, 0, none⟩) N cap) N (fl ET L)) :
    (((w.setCell ⟨g, k * 3, none⟩ (.int .u64 x.1)).setCell ⟨g, k * 3 + 1, none⟩ (.int .u64 x.2.1)).setCell ⟨g, k * 3 + 2, none⟩ (.int .u64 x.2.2)).ownsRow 0 25 3 (.slice (some ⟨g, 0, none⟩) N cap) N (fl ET (L.set k x)) ∧ Kp (fun j => j = g) w (((w.setCell ⟨g, k * 3, none⟩ (.int .u64 x.1)).setCell ⟨g, k * 3 + 1, none⟩ (.int .u64 x.2.1)).setCell ⟨g, k * 3 + 2, none⟩ (.int .u64 x.2.2)) := by
  obtain ⟨h1, k1⟩ := owns_cell0 (q := k * 3) (.int .u64 x.1) h
  obtain ⟨h2, k2⟩ := owns_cell0 (q := k * 3 + 1) (.int .u64 x.2.1) h1
  obtain ⟨h3, k3⟩ := owns_cell0 (q := k * 3 + 2) (.int .u64 x.2.2) h2
  rw [flT_set] at h3
  exact ⟨h3, (k1.trans k2 (fun _ _ h => h)).trans k3 (fun _ _ h => h)⟩
theorem bd_done (y : Nat) (h : (y + 1) * 24 ≤ 140737488355328) : (0 + y) * 24 ≤ 140737488355328 ∧ 0 + y ≤ maxLen ∧ y + 1 ≤ maxLen ∧ y ≤ maxLen ∧ y ≤ 5864062014804 := by
  have h2 : y + 1 ≤ 5864062014805 := Nat.le_trans ((Nat.le_div_iff_mul_le (by omega)).2 h) (by simp)
  have h3 : (y + 1) * 24 ≤ 140737488355328 := h
  clear h
  unfold maxLen
  refine ⟨?_, ?_, ?_, ?_, ?_⟩
  · exact Nat.le_trans (Nat.mul_le_mul_right 24 (show 0 + y ≤ y + 1 by omega)) h3
  · clear h3; omega
  · clear h3; omega
  · clear h3; omega
  · clear h3; omega
set_option maxHeartbeats 1000000 in
theorem r5openW_any (v : Value) (l : List T3) (x : T3) (w : World) (hv : Lw ET w v l) (hl : l.length ≤ 9223372036854775807) :
    Calls Try.prog 15 #[v, tv x] w fun e w' => e = .returned (.bool (opn l x)) ∧ Gr w w' := by
  rcases hv with hv | ⟨rfl, p, c, rfl⟩
  · exact r5open_any v l x w hv hl
  · clear hl
    obtain ⟨W1, hW1⟩ : ∃ W1, W1 = w.alloc (.cells #[.int .u64 x.1, .int .u64 x.2.1, .int .u64 x.2.2] 25) := ⟨_, rfl⟩
    have G1 : Hid (Gr w W1) := by rw [hW1]; exact (Gr.refl _).alloc _
    go_enter Try.func15, Try.ntmps15
    go_wp2_with fail
    rw [← hW1]
    clear hW1
    go_loopw [5] (fun s5 wr => s5 = .int .i64 0 ∧ wr = W1) (fun _ _ => 0)
    case atStart => exact ⟨rfl, rfl⟩
    case round =>
      obtain ⟨rfl, rfl⟩ := hrel
      go_wp2
      go_ret
      exact ⟨rfl, G1.out⟩
/-- While the front is looked at and written over: the list that was answered, the front's copy. -/
def Dn (w w4 : World) (g n cap : Nat) (F : List T3) (M : List Ct) (v : Value) (i : Nat) (W : World) : Prop :=
  ∃ X : List T3, X.length = n + 1 ∧ (∀ j, i ≤ j → X[j]? = (F ++ [((0, 0, 77) : T3)])[j]?) ∧ W.ownsRow 0 25 3 (.slice (some ⟨g, 0, none⟩) (n + 1) cap) (n + 1) (fl ET X) ∧ W.ownsRow w4.heap.size 36 5 v M.length (fl EC M) ∧ Below w.heap.size w W
set_option maxHeartbeats 16000000 in
set_option maxRecDepth 100000 in
theorem ldone_any {S : Nat → Prop} {pb : Nat} {v : Value} {l : List Ct} {F : List T3} (w : World) (hP : Pb w S pb l) (hl : l.length * 40 ≤ 140737488355328) (hv : Lw ET w v F) (hF : (F.length + 1) * 24 ≤ 140737488355328) :
    Calls Try.prog 22 #[.pointer (some ⟨pb, 0, none⟩), v] w fun e w' => ∃ p m c, e = .returned (.tuple #[.slice p m c, .bool true]) ∧ Hid (Tld w ((srt l).filter fun x => !opn F x.t) (.slice p m c) w' ∧ m = ((srt l).filter fun x => !opn F x.t).length) := by
  have hmx : Try.prog.follows .mixedOrders = true := by kernel_rfl
  obtain ⟨pv, cv0, rfl⟩ := hv.form
  have HV := hid hv
  have HP := hid hP
  have HBL := hid hl
  have BD := hid (bd_done F.length hF)
  have HF1 := hid hF
  obtain ⟨n, hn⟩ : ∃ n, n = F.length := ⟨_, rfl⟩
  rw [← hn] at HV BD HF1
  rw [← hn]
  have hnb : n ≤ 5864062014804 := BD.out.2.2.2.2
  have HN := hid hn
  obtain ⟨M, hM⟩ : ∃ M, M = (srt l).filter fun x => !opn F x.t := ⟨_, rfl⟩
  rw [← hM]
  have HMM := hid hM
  clear hv hP hl hF hn hM
  go_enter Try.func22, Try.ntmps22
  have HZ : Hid (Below w.heap.size w (w.alloc (.cells #[] 25))) := ((Gr.refl _).alloc _).below
  go_wp2_with (at_builtin; refine wpAppW ET Try.underlying26 infoT rfl (by decide) rfl _ _ rfl w.heap.size _ 0 [] rfl (World.ownsRow_made w #[] 0 (Nat.le_refl _) (Nat.zero_le _) rfl) _ F rfl (HV.out.below HZ.out) (by have := BD.out.1; rw [← HN.out]; exact this) (by have := BD.out.2.1; rw [← HN.out]; exact this) HZ.out.size ?_)
  intro v2 w2 ho2 hg2
  have HB2 : Hid (Below w.heap.size w w2) := HZ.out.trans ((Kp.grownBy (S := fun k => k = w.heap.size) hg2 (fun k hk => by simpa [Value.ownBlock] using hk.symm)).below HZ.out.size (fun k hk => by rw [hk]; exact Nat.le_refl _))
  have HO2 : Hid (w2.ownsRow w.heap.size 25 3 v2 n (fl ET F)) := owns_re ho2 (by first | (rw [HN.out]; done) | (rw [HN.out]; simp)) (by simp)
  clear ho2 hg2 HZ
  go_wp2_with (at_builtin; refine wpApp1 ET Try.underlying26 infoT rfl (by decide) rfl _ _ rfl w.heap.size v2 n _ rfl HO2.out ((0, 0, 77) : T3) (by first | rfl | (go_simp; done)) HF1.out BD.out.2.2.1 HB2.out.size _ rfl _ ?_)
  intro g cap w4 ho4 hg4 hn4
  have HB4 : Hid (Below w.heap.size w w4) := HB2.out.trans ((Kp.grownBy (S := fun k => w.heap.size ≤ k) hg4 (fun k hk => (HO2.out.lt k hk).1)).below HB2.out.size (fun _ h => h))
  have HO4 : Hid (w4.ownsRow w.heap.size 25 3 (.slice (some ⟨g, 0, none⟩) (n + 1) cap) (n + 1) (fl ET (F ++ [(0, 0, 77)]))) := owns_re ho4 rfl (by rw [fl_append, fl_one])
  have HCAP : Hid (n + 1 ≤ cap ∧ cap ≤ maxLen ∧ w.heap.size ≤ g ∧ g < w4.heap.size) := ⟨(owns_cap ho4).1, (owns_cap ho4).2, (ho4.lt g rfl).1, (ho4.lt g rfl).2⟩
  clear ho4 hg4 hn4 HB2 HO2
  have hcap1 : n + 1 ≤ cap := HCAP.out.1
  have hcap2 : (n : Int) ≤ (cap : Int) := by omega
  have hc0 : ¬ cap = 0 := by omega
  have hcn : ¬ cap = n := by omega
  have hLF : Ls ET w4 (.slice (some ⟨g, 0, none⟩) (n + 1) cap) (F ++ [(0, 0, 77)]) := owns_ls (E := ET) (ts := F ++ [((0, 0, 77) : T3)]) (owns_re HO4.out (by rw [List.length_append, ← HN.out]; rfl) rfl)
  have hL4 : Ls ET w4 (.slice (some ⟨g, 0, none⟩) n cap) F := by
    have h := hLF.cut (k := n) (by rw [List.length_append, ← HN.out]; exact Nat.le_succ n) cap
    rw [List.take_append_of_le_length (by rw [← HN.out]; exact Nat.le_refl _), List.take_of_length_le (by rw [← HN.out]; exact Nat.le_refl _)] at h
    exact h
  have HLF := hid hLF
  have hc := done_any w4 (HP.out.below HB4.out) HBL.out hL4 (by rw [← HN.out]; exact BD.out.2.2.2.1)
  clear hL4 hLF
  go_wp2_with fail
  refine hc.mono ?_
  clear hc
  rintro e w5 ⟨p5, m5, c5, rfl, H5⟩
  rw [← HMM.out] at H5
  have HD5 : Hid (Dn w w4 g n cap F M (.slice p5 m5 c5) 0 w5) := ⟨_, by rw [List.length_append, ← HN.out]; rfl, fun _ _ => rfl, owns_base (owns_below HO4.out H5.out.1.2) (Nat.zero_le _), H5.out.1.1, HB4.out.trans (H5.out.1.2.mono HB4.out.size)⟩
  have HM5 := hid H5.out.2
  obtain ⟨b', o, q', e', l', y0, y1, y2⟩ := atT (HLF.out.below H5.out.1.2) (j := n) (t := ((0, 0, 77) : T3)) (by rw [List.getElem?_append_right (by rw [← HN.out]; exact Nat.le_refl _), ← HN.out, Nat.sub_self]; rfl)
  simp only [Value.slice.injEq, Option.some.injEq, Addr.mk.injEq, and_true] at e'
  obtain ⟨⟨rfl, rfl⟩, -⟩ := e'
  rw [Nat.zero_add] at y0 y1 y2
  have hn1 : (n : Int) < ((n + 1 : Nat) : Int) := by omega
  have hn2 : (n : Int) < (n : Int) + 1 := by omega
  have hn0 : (0 : Int) ≤ (n : Int) := by omega
  have hz4 : Hid (w.heap.size ≤ w4.heap.size) := HB4.out.size
  clear H5 HO4 HLF HP HBL HB4 hcap2 hc0 hcn
  go_wp2_with fail
  clear y0 y1 y2 l'
  go_loopw [8, 9] (fun s8 s9 wr => ∃ i : Nat, i ≤ n ∧ s9 = .int .i64 (i : Nat) ∧ s8 = .bool true ∧ Hid (Dn w w4 g n cap F M (.slice p5 m5 c5) i wr)) (fun _ s9 _ => n - (RowKit.intOf s9).toNat)
  case atStart => exact ⟨0, Nat.zero_le _, rfl, by first | rfl | simp, HD5.out⟩
  case round =>
    clear HD5
    obtain ⟨i, hi, rfl, rfl, HI⟩ := hrel
    by_cases hlt : i < n
    · have hz : (i : Int) < (n : Int) := by omega
      have hi1 : (i : Int) < ((n + 1 : Nat) : Int) := by omega
      have hi2 : (i : Int) < (n : Int) + 1 := by omega
      have hi0 : (0 : Int) ≤ (i : Int) := by omega
      obtain ⟨X, hX, hXF, oX, oM, bW⟩ := HI.out
      obtain ⟨x, hx⟩ : ∃ x, F[i]? = some x := ⟨F[i]'(by have := HN.out; omega), by simp⟩
      have hXi : X[i]? = some x := by rw [hXF i (Nat.le_refl _), List.getElem?_append_left (by rw [← HN.out]; exact hlt)]; exact hx
      obtain ⟨b1, o1, q1, e1, l1, x0, x1, x2⟩ := atT ((HV.out.ls hx).below bW) hx
      simp only [Value.slice.injEq] at e1
      obtain ⟨rfl, -, rfl⟩ := e1
      obtain ⟨b', o, q', e', l', y0, y1, y2⟩ := atT (owns_ls (E := ET) (ts := X) (owns_re oX hX.symm rfl)) hXi
      simp only [Value.slice.injEq, Option.some.injEq, Addr.mk.injEq, and_true] at e'
      obtain ⟨⟨rfl, rfl⟩, -⟩ := e'
      rw [Nat.zero_add] at y0 y1 y2
      have heq : ∀ (W : World), Sem.run Try.prog (Op.equalIn 10000 25 (.agg #[.int .u64 x.1, .int .u64 x.2.1, .int .u64 x.2.2]) (.agg #[.int .u64 x.1, .int .u64 x.2.1, .int .u64 x.2.2])) W = .ok true W := fun W => by
        have h := run_eqT x.1 x.2.1 x.2.2 x.1 x.2.1 x.2.2 W
        rw [teq_t rfl] at h
        exact h
      have HST : Hid (∀ W, Gr wr W → Dn w w4 g n cap F M (.slice p5 m5 c5) (i + 1) (((W.setCell ⟨g, i * 3, none⟩ (.int .u64 0)).setCell ⟨g, i * 3 + 1, none⟩ (.int .u64 0)).setCell ⟨g, i * 3 + 2, none⟩ (.int .u64 0)) ∧ (∀ q, W.frozen? ⟨g, q, none⟩ = false) ∧ Tc W g (i * 3) x ∧ g < W.heap.size) := fun W hW => by
        have oX' := owns_below oX hW.below
        obtain ⟨m1, m2⟩ := owns_set3 (k := i) ((0, 0, 0) : T3) oX'
        refine ⟨⟨X.set i (0, 0, 0), by rw [List.length_set]; exact hX, fun j hj => by rw [List.getElem?_set_ne (by omega)]; exact hXF j (by omega), m1, owns_kp m2 (owns_below oM hW.below) (fun k hk e => ?_), (bW.trans (hW.below.mono bW.size)).trans (m2.below (Nat.le_trans bW.size hW.size) (fun k e => by rw [e]; exact HCAP.out.2.2.1))⟩, fun q => owns_frozen0 oX' q, ⟨(hW.cell l').trans y0, (hW.cell l').trans y1, (hW.cell l').trans y2⟩, Nat.lt_of_lt_of_le l' hW.size⟩
        have h1 := (oM.lt k hk).1
        have h2 := HCAP.out.2.2.2
        omega
      clear hx hXi hXF oX oM bW hX HI
      go_wp2_with fail
      go_quiet (fail)
      obtain ⟨W7, hW7⟩ : ∃ V, V = wr.drewN nq := ⟨_, rfl⟩
      have G7 : Gr wr W7 := by rw [hW7]; exact (Gr.refl _).drewN _
      rw [← hW7]
      clear hW7
      obtain ⟨HE0, hfz, ⟨t0, t1, t2⟩, t3⟩ := HST.out W7 G7
      have HE := hid HE0
      have f0 := hfz (i * 3)
      have f1 := hfz (i * 3 + 1)
      have f2 := hfz (i * 3 + 2)
      clear HE0 hfz HST x0 x1 x2 y0 y1 y2 l1 l' heq G7
      go_wp2_with fail
      go_roundw
      case rel => exact ⟨i + 1, hlt, by go_num, rfl, HE.out⟩
      case measure => simp [RowKit.intOf]; omega
    · have hz : ¬ ((i : Int) < (n : Int)) := by omega
      obtain ⟨X, -, -, -, oM, bW⟩ := HI.out
      go_wp2
      refine bodyPost_ret (v := .tuple #[.slice p5 m5 c5, .bool true]) (by simp [results, Try.results22, go_sem]) rfl ?_
      exact ⟨p5, m5, c5, rfl, ⟨owns_base oM hz4.out, bW⟩, HM5.out⟩
end Go.Proofs.Ytghpekkncfckaaa.Ca
