import Derived.Test.YtnpmmodcmfgbjaaGreatMRap
import Derived.Test.YtnpmmodcmfgbjaaGreatMTel1
import Derived.Test.YtnpmmodcmfgbjaaGreatMScr2
namespace Go.Proofs.YtnpmmodcmfgbjaaGreat
open Go.RowKit Go.Sort Go.Maps
open Tt (Tl byd byd_f byd_t)
attribute [local go_sem ↓] Go.wp_at_zero Go.wp_at_succ

/-- A slice that reads as a list, or an empty one wherever it lies. -/
def Lq (w : World) (v : Value) (l : List Dl) : Prop := Ls ED w v l ∨ (l = [] ∧ ∃ a c, v = .slice (some a) 0 c)
theorem Lq.below {w w' : World} {v : Value} {l : List Dl} (h : Lq w v l) (hb : Below w.heap.size w w') : Lq w' v l := h.imp (fun h => h.below hb) id
theorem Lq.form {w : World} {v : Value} {l : List Dl} (h : Lq w v l) : ∃ p c, v = .slice p l.length c := by
  rcases h with h | ⟨rfl, a, c, rfl⟩
  · exact h.form
  · exact ⟨_, _, rfl⟩
theorem Lq.at4 {w : World} {v : Value} {ts : List Dl} (h : Lq w v ts) {j : Nat} {t : Dl} (hj : ts[j]? = some t) :
    ∃ b off c, v = .slice (some ⟨b, off, none⟩) ts.length c ∧ b < w.heap.size ∧ w.cell? ⟨b, off + j * 4, none⟩ = some (.int .u64 t.1.1.1) ∧ w.cell? ⟨b, off + j * 4 + 1, none⟩ = some (.int .u64 t.1.1.2.1) ∧ w.cell? ⟨b, off + j * 4 + 2, none⟩ = some (.int .u64 t.1.1.2.2) ∧ w.cell? ⟨b, off + j * 4 + 3, none⟩ = some (.int .i64 t.2) := by
  rcases h with h | ⟨rfl, _⟩
  · exact h.at4 hj
  · simp at hj
/-- 'append(own, l...)' of such a one. -/
theorem wpAppQ {w : World} {ops : Array Oper} {rest : List Oper} {o : Oper} {a : Act} {Q : Exit → Act → World → Prop} (hgd : o.guard = none) (s x : Operand)
    (ho : o.op = .call { callee := .builtin .append, args := #[s, x], argTypes := #[38, 38] })
    (base : Nat) (v : Value) (n : Nat) (xs : List Value) (hs : a.eval s = v) (hown : w.ownsRow base 54 4 v n xs)
    (v1 : Value) (ts : List Dl) (hx : a.eval x = v1) (hv : Lq w v1 ts) (hbig : (n + ts.length) * 32 ≤ 140737488355328) (hbase : base ≤ w.heap.size)
    (h : ∀ v' w', w'.ownsRow base 54 4 v' (n + ts.length) (xs ++ fl ED ts) → w.grownBy w' v.ownBlock → wpList Tryz.prog ops Q rest (a.put o.dst v') w') : wpList Tryz.prog ops Q (o :: rest) a w := by
  rcases hv with hv | ⟨rfl, ad, c, rfl⟩
  · exact wpAppL (E := ED) Tryz.underlying38 infoDl rfl (by decide) hgd s x ho base v n xs hs hown v1 ts hx hv hbig (by unfold maxLen; omega) hbase h
  · obtain ⟨i0, hi, hz0, hz1, hz2⟩ := info_parts infoDl
    refine wpList_append_own _ hgd s x _ ho base 54 i0 _ 4 32 Tryz.underlying38 hi hz0 hz1 hz2 rfl (by decide) v n xs hs hown ad 0 c [] hx rfl (fun j u hj => by simp at hj) (by simp) (by simp at hbig; unfold maxLen; omega) (by simpa using hbig) hbase ?_
    intro v' w' h1 h2 _
    exact h v' w' h1 h2
set_option maxHeartbeats 1000000 in
set_option maxRecDepth 100000 in
theorem deltas_lq {va vb : Value} {l : List Dl} (w : World) (ha : Ls ED w va l) (hb : Lq w vb l) (hl : l.length ≤ maxLen) :
    Calls Tryz.prog 22 #[va, vb] w fun e w' => e = .returned (.bool true) ∧ Gr w w' := by
  rcases hb with hb | ⟨rfl, a, c, rfl⟩
  · have := deltas_any va vb l l w ha hb hl
    rw [decide_eq_true rfl] at this
    exact this
  · obtain ⟨pa, ca, rfl⟩ := ha.form
    clear ha
    go_enter Tryz.func22, Tryz.ntmps22
    go_wp2
    go_loopw [5] (fun s5 wr => s5 = .int .i64 0 ∧ wr = w) (fun _ _ => 0)
    case atStart => exact ⟨rfl, rfl⟩
    case round =>
      obtain ⟨rfl, hwr⟩ := hrel
      rw [hwr]
      go_wp2
      go_ret
      exact ⟨rfl, Gr.refl _⟩
set_option maxHeartbeats 4000000 in
set_option maxRecDepth 100000 in
theorem rapply_lq (w : World) (r : Rm) (T : List Tm) (N : List Int) (h : RM w r T N) (hbd : ∀ t, -2147483647 ≤ cn T N t ∧ cn T N t ≤ 2147483647) (v : Value) (ds : List Dl) (hv : Lq w v ds) (hl : T.length + ds.length ≤ 400000) :
    Calls Tryz.prog 28 #[rmp r, v] w fun e w' => RAp r T N ds w e w' := by
  have hmx : Tryz.prog.follows .mixedOrders = true := by kernel_rfl
  have hbe := fun n W => rbeyond_any n W
  have hcp := (rcopy_any w r T N h).mono fun e w' ⟨r', h1, h2⟩ => (⟨r'.b, r'.t, r'.n, h1, h2⟩ : ∃ nb nt nn, e = Ending.returned (Value.pointer (some ⟨nb, 0, none⟩)) ∧ Hid (RM w' ⟨nb, nt, nn⟩ T N ∧ Below w.heap.size w w' ∧ ∀ k, Rm.own ⟨nb, nt, nn⟩ k → w.heap.size ≤ k))
  have HR : Hid (RM w r T N) := h
  have HBD : Hid (∀ t, -2147483647 ≤ cn T N t ∧ cn T N t ≤ 2147483647) := hbd
  obtain ⟨rb, vt, vn⟩ := r
  change Calls Tryz.prog 28 #[.pointer (some ⟨rb, 0, none⟩), v] w _
  change Calls Tryz.prog _ #[.pointer (some ⟨rb, 0, none⟩)] w _ at hcp
  have HV : Hid (Lq w v ds) := hv
  obtain ⟨pv, cv', rfl⟩ := hv.form
  clear hv h hbd
  go_enter Tryz.func28, Tryz.ntmps28
  go_wp2_with fail
  refine hcp.mono ?_
  rintro e w1 ⟨nb, nt0, nn0, rfl, H1⟩
  clear hcp
  have HI0 : Hid (∃ nt nn T1 N1, RM w1 ⟨nb, nt, nn⟩ T1 N1 ∧ T1.length ≤ T.length + 0 ∧ cn T1 N1 = newc (cn T N) (ds.take 0) ∧ (∀ d ∈ ds.take 0, byd d.2 = false) ∧ Below w.heap.size w w1 ∧ ∀ q, Rm.own ⟨nb, nt, nn⟩ q → w.heap.size ≤ q) := ⟨nt0, nn0, T, N, H1.out.1, by omega, by rw [List.take_zero, newc_nil HBD.out], by simp, H1.out.2.1, H1.out.2.2⟩
  clear H1
  go_wp2_with fail
  go_loopw [7] (fun s7 wq => ∃ k : Nat, k ≤ ds.length ∧ s7 = .int .i64 k ∧ Hid (∃ nt nn T1 N1, RM wq ⟨nb, nt, nn⟩ T1 N1 ∧ T1.length ≤ T.length + k ∧ cn T1 N1 = newc (cn T N) (ds.take k) ∧ (∀ d ∈ ds.take k, byd d.2 = false) ∧ Below w.heap.size w wq ∧ ∀ q, Rm.own ⟨nb, nt, nn⟩ q → w.heap.size ≤ q)) (fun s7 _ => ds.length - (RowKit.intOf s7).toNat)
  case atStart => exact ⟨0, Nat.zero_le _, rfl, HI0.out⟩
  case round =>
    obtain ⟨k, hk, rfl, HI⟩ := hrel
    by_cases hkl : k < ds.length
    · have hkz : (k : Int) < (ds.length : Int) := by omega
      obtain ⟨d, hd⟩ : ∃ d, ds[k]? = some d := ⟨ds[k], by simp⟩
      have HD : Hid (ds[k]? = some d) := hd
      obtain ⟨nt, nn, T1, N1, i1, i2, i3, i4, i5, i6⟩ := HI.out
      obtain ⟨bd, od, ccd, ed, zd, d1, d2, d3, d4⟩ := (HV.out.below i5).at4 hd
      have zd0 : bd < w.heap.size := by
        obtain ⟨bd', od', _, e', z', _⟩ := HV.out.at4 hd
        rw [e'] at ed
        simp only [Value.slice.injEq, Option.some.injEq, Addr.mk.injEq] at ed
        omega
      simp only [Value.slice.injEq] at ed
      obtain ⟨rfl, -, rfl⟩ := ed
      have HB : Hid (Below w.heap.size w wr) := i5
      have HI2 : Hid (RM wr ⟨nb, nt, nn⟩ T1 N1 ∧ T1.length ≤ T.length + k ∧ cn T1 N1 = newc (cn T N) (ds.take k) ∧ (∀ d ∈ ds.take k, byd d.2 = false) ∧ ∀ q, Rm.own ⟨nb, nt, nn⟩ q → w.heap.size ≤ q) := ⟨i1, i2, i3, i4, i6⟩
      have hb1 := hbe d.2
      clear i1 i3 i4 i5 i6 hd HI
      cases hy : byd d.2 with
      | true =>
        rw [hy] at hb1
        have HBA : Hid (bad (cn T N) ds = true) := bad_d (List.mem_of_getElem? HD.out) hy
        go_wp2_with fail
        refine (hb1 _).mono ?_
        rintro e w5 ⟨rfl, hw5⟩
        rw [hw5]
        clear hw5
        go_wp2
        go_ret2
        exact Or.inl ⟨HBA.out, rfl, HB.out⟩
      | false =>
        rw [hy] at hb1
        have hadd := radd_any wr.drew ⟨nb, nt, nn⟩ T1 N1 (HI2.out.1.bel (Gr.refl _).drew.below) (by omega) d.1 d.2 (byd_f.1 hy)
        change Calls Tryz.prog _ #[.pointer (some ⟨nb, 0, none⟩), _, _] _ _ at hadd
        have S0 : (wr.drew.cell? ⟨bd, od + k * 4, none⟩ = some (.int .u64 d.1.1.1) ∧ wr.drew.cell? ⟨bd, od + k * 4 + 1, none⟩ = some (.int .u64 d.1.1.2.1) ∧ wr.drew.cell? ⟨bd, od + k * 4 + 2, none⟩ = some (.int .u64 d.1.1.2.2) ∧ wr.drew.cell? ⟨bd, od + k * 4 + 3, none⟩ = some (.int .i64 d.2) ∧ bd < wr.drew.heap.size) := ⟨d1, d2, d3, d4, zd⟩
        have keepK : ∀ W W' : World, (W.cell? ⟨bd, od + k * 4, none⟩ = some (.int .u64 d.1.1.1) ∧ W.cell? ⟨bd, od + k * 4 + 1, none⟩ = some (.int .u64 d.1.1.2.1) ∧ W.cell? ⟨bd, od + k * 4 + 2, none⟩ = some (.int .u64 d.1.1.2.2) ∧ W.cell? ⟨bd, od + k * 4 + 3, none⟩ = some (.int .i64 d.2) ∧ bd < W.heap.size) → Kp (Rm.own ⟨nb, nt, nn⟩) W W' → (W'.cell? ⟨bd, od + k * 4, none⟩ = some (.int .u64 d.1.1.1) ∧ W'.cell? ⟨bd, od + k * 4 + 1, none⟩ = some (.int .u64 d.1.1.2.1) ∧ W'.cell? ⟨bd, od + k * 4 + 2, none⟩ = some (.int .u64 d.1.1.2.2) ∧ W'.cell? ⟨bd, od + k * 4 + 3, none⟩ = some (.int .i64 d.2) ∧ bd < W'.heap.size) := fun W W' h hk => by
          have hb := hk.block bd h.2.2.2.2 (fun e => by have := HI2.out.2.2.2.2 bd e; omega)
          refine ⟨?_, ?_, ?_, ?_, Nat.lt_of_lt_of_le h.2.2.2.2 hk.size⟩
          · rw [World.cell?_of_block (a := ⟨bd, od + k * 4, none⟩) hb]; exact h.1
          · rw [World.cell?_of_block (a := ⟨bd, od + k * 4 + 1, none⟩) hb]; exact h.2.1
          · rw [World.cell?_of_block (a := ⟨bd, od + k * 4 + 2, none⟩) hb]; exact h.2.2.1
          · rw [World.cell?_of_block (a := ⟨bd, od + k * 4 + 3, none⟩) hb]; exact h.2.2.2.1
        have HYF : Hid (byd d.2 = false) := hy
        clear hy d2 d3 d1
        go_wp2_with fail
        refine (hb1 _).mono ?_
        rintro e w5 ⟨rfl, hw5⟩
        rw [hw5]
        clear hw5
        clear hb1 zd
        go_wp2_with fail
        clear d4
        go_region_held3 (fun w' => (w'.cell? ⟨bd, od + k * 4, none⟩ = some (.int .u64 d.1.1.1) ∧ w'.cell? ⟨bd, od + k * 4 + 1, none⟩ = some (.int .u64 d.1.1.2.1) ∧ w'.cell? ⟨bd, od + k * 4 + 2, none⟩ = some (.int .u64 d.1.1.2.2) ∧ w'.cell? ⟨bd, od + k * 4 + 3, none⟩ = some (.int .i64 d.2) ∧ bd < w'.heap.size))
          (first | exact S0 | exact keepK _ _ (by assumption) (by assumption))
          (first | (go_at_call 50; refine hadd.mono ?_; rintro e w8 ⟨rfl, ⟨nb', nt', nn'⟩, T2, N2, hb', hR', hl', hc', hk', ho'⟩))
        have hb'' : nb' = nb := hb'
        subst hb''
        have HE : Hid (∃ nt nn T1 N1, RM w8 ⟨nb', nt, nn⟩ T1 N1 ∧ T1.length ≤ T.length + (k + 1) ∧ cn T1 N1 = newc (cn T N) (ds.take (k + 1)) ∧ (∀ d ∈ ds.take (k + 1), byd d.2 = false) ∧ Below w.heap.size w w8 ∧ ∀ q, Rm.own ⟨nb', nt, nn⟩ q → w.heap.size ≤ q) := by
          obtain ⟨j1, j2, j3, j4, j5⟩ := HI2.out
          have hz := HB.out.size
          refine ⟨nt', nn', T2, N2, hR', by omega, ?_, fun d' hd' => ?_, HB.out.trans (((Kp.of_gr (Gr.refl wr).drew).trans hk' (fun _ _ h => h)).below hz j5), fun q hq => ?_⟩
          · rw [hc', newc_take_succ HD.out, ← j3]
            rfl
          · rw [List.take_add_one, HD.out] at hd'
            rcases List.mem_append.1 hd' with h | h
            · exact j4 d' h
            · simp at h
              rw [h]
              exact HYF.out
          · rcases ho' q hq with h | h
            · exact j5 q h
            · exact Nat.le_trans hz h
        clear hb' hR' hl' hc' hk' ho' S0 keepK hadd HI2
        go_wp2
        go_roundw
        case rel => exact ⟨k + 1, by omega, by go_num, HE.out⟩
        case measure => simp [RowKit.intOf]; omega
    · have hkz : ¬ (k : Int) < (ds.length : Int) := by omega
      have hkk : k = ds.length := by omega
      subst hkk
      rw [List.take_length] at HI
      obtain ⟨nt, nn, T1, N1, i1, i2, i3, i4, i5, i6⟩ := HI.out
      have HX : Hid (RM wr ⟨nb, nt, nn⟩ T1 N1 ∧ T1.length ≤ T.length + ds.length ∧ cn T1 N1 = newc (cn T N) ds ∧ (∀ d ∈ ds, byd d.2 = false) ∧ Below w.heap.size w wr ∧ ∀ q, Rm.own ⟨nb, nt, nn⟩ q → w.heap.size ≤ q) := ⟨i1, i2, i3, i4, i5, i6⟩
      obtain ⟨pt, ct, hft⟩ : ∃ p c, nt = .slice p T1.length c := i1.lsT.form
      obtain ⟨pn, cc, hfn⟩ : ∃ p c, nn = .slice p N1.length c := i1.lsN.form
      subst hft hfn
      have n0 : wr.cell? ⟨nb, 0, none⟩ = some (Value.slice pt T1.length ct) := i1.c0
      have n1 : wr.cell? ⟨nb, 1, none⟩ = some (Value.slice pn N1.length cc) := i1.c1
      have hnl : nb < wr.heap.size := i1.lt
      have HNl : Hid (N1.length = T1.length) := i1.len
      have hN1b : N1.length ≤ 400000 := by rw [i1.len]; omega
      obtain ⟨wk, hwk⟩ : ∃ wk, wk = wr := ⟨wr, rfl⟩
      rw [← hwk] at HX n0 n1 hnl
      rw [← hwk]
      clear i1 i3 i4 i5 i6 HI hwk
      go_wp2_with fail
      go_loopw [8] (fun s8 wq => ∃ k : Nat, k ≤ N1.length ∧ s8 = .int .i64 k ∧ wq = wk ∧ Hid (∀ n ∈ N1.take k, byd n = false)) (fun s8 _ => N1.length - (RowKit.intOf s8).toNat)
      case atStart => exact ⟨0, Nat.zero_le _, rfl, rfl, by simp [Hid]⟩
      case round =>
        obtain ⟨k, hk, rfl, hwq, HK⟩ := hrel
        rw [hwq]
        clear hwq
        by_cases hkl : k < N1.length
        · have hkz : (k : Int) < (N1.length : Int) := by omega
          obtain ⟨n, hn⟩ : ∃ n, N1[k]? = some n := ⟨N1[k], by simp⟩
          have hb1 := hbe n
          obtain ⟨b2, o2, c2, e2, z2, y1⟩ := HX.out.1.lsN.atI hn
          simp only [Value.slice.injEq] at e2
          obtain ⟨rfl, -, rfl⟩ := e2
          cases hy : byd n with
          | true =>
            rw [hy] at hb1
            have HBA : Hid (bad (cn T N) ds = true) := by
              obtain ⟨j1, _, j3, _⟩ := HX.out
              obtain ⟨t, ht⟩ : ∃ t, T1[k]? = some t := ⟨T1[k]'(by have := HNl.out; omega), by simp⟩
              refine bad_t HBD.out (t := t) ?_
              rw [← j3, cn_at ht (nodup_take ht j1.nd) hn]
              exact hy
            clear hn hy
            go_wp2_with fail
            refine (hb1 _).mono ?_
            rintro e w5 ⟨rfl, hw5⟩
            rw [hw5]
            clear hw5
            go_wp2
            go_ret2
            exact Or.inl ⟨HBA.out, rfl, HX.out.2.2.2.2.1⟩
          | false =>
            rw [hy] at hb1
            have HK2 : Hid (∀ n ∈ N1.take (k + 1), byd n = false) := fun m hm => by
              rw [List.take_add_one, hn] at hm
              rcases List.mem_append.1 hm with h | h
              · exact HK.out m h
              · simp at h
                rw [h]
                exact hy
            clear hn hy
            go_wp2_with fail
            refine (hb1 _).mono ?_
            rintro e w5 ⟨rfl, hw5⟩
            rw [hw5]
            clear hw5
            go_wp2
            go_roundw
            case rel => exact ⟨k + 1, by omega, by go_num, by first | rfl | trivial, HK2.out⟩
            case measure => simp [RowKit.intOf]; omega
        · have hkz : ¬ (k : Int) < (N1.length : Int) := by omega
          have hkk : k = N1.length := by omega
          subst hkk
          rw [List.take_length] at HK
          have HBA : Hid (bad (cn T N) ds = false) := by
            obtain ⟨j1, _, j3, j4, _⟩ := HX.out
            exact bad_not j4 fun t => by rw [← j3]; exact cn_not j1.nd HNl.out HK.out t
          have hf1 := rmfront_any wk ⟨rb, vt, vn⟩ T N (HR.out.bel (HX.out.2.2.2.2.1))
          change Calls Tryz.prog _ #[.pointer (some ⟨rb, 0, none⟩)] _ _ at hf1
          clear HK hbe
          go_wp2_with fail
          refine hf1.mono ?_
          rintro e w9 ⟨v9, R9, rfl, ho9, hp9, hm9, hb9⟩
          have HF9 : Hid (Fc (cn T N) R9 ∧ Out wk.heap.size w9 v9 R9 ∧ Below wk.heap.size wk w9) := ⟨⟨hp9, hm9⟩, ho9, hb9⟩
          have hf2 := rmfront_any w9 ⟨nb, (Value.slice pt T1.length ct), (Value.slice pn N1.length cc)⟩ T1 N1 (HX.out.1.bel hb9)
          change Calls Tryz.prog _ #[.pointer (some ⟨nb, 0, none⟩)] _ _ at hf2
          clear hf1 ho9 hp9 hm9 hb9 hkl hkz n0 n1 hnl
          go_wp2_with fail
          refine hf2.mono ?_
          rintro e w10 ⟨v10, R10, rfl, ho10, hp10, hm10, hb10⟩
          have HF10 : Hid (Fc (newc (cn T N) ds) R10 ∧ Out w9.heap.size w10 v10 R10 ∧ Below w9.heap.size w9 w10) := ⟨⟨hp10, by rw [← HX.out.2.2.1]; exact hm10⟩, ho10, hb10⟩
          have HBK : Hid (Below wk.heap.size wk w10) := HF9.out.2.2.trans (hb10.mono HF9.out.2.2.size)
          have HB0 : Hid (Below w.heap.size w w10) := HX.out.2.2.2.2.1.trans (HBK.out.mono HX.out.2.2.2.2.1.size)
          have HR10 : Hid (RM w10 ⟨rb, vt, vn⟩ T N) := HR.out.bel HB0.out
          have HN10 : Hid (RM w10 ⟨nb, (Value.slice pt T1.length ct), (Value.slice pn N1.length cc)⟩ T1 N1) := HX.out.1.bel HBK.out
          have hrbw : rb < w.heap.size := HR.out.lt
          have hnbw : w.heap.size ≤ nb := HX.out.2.2.2.2.2 nb (Or.inl rfl)
          have hne : nb ≠ rb := by omega
          obtain ⟨hs1, hs2⟩ := setT HR10.out.blk (Value.slice pt T1.length ct)
          obtain ⟨hs3, hs4⟩ := setN hs1 (Value.slice pn N1.length cc)
          have q0 : w10.cell? ⟨rb, 0, none⟩ = some vt := HR10.out.c0
          have q0f : w10.frozen? ⟨rb, 0, none⟩ = false := HR10.out.f0
          have q1 : w10.cell? ⟨nb, 0, none⟩ = some (Value.slice pt T1.length ct) := HN10.out.c0
          have q2 : (w10.setCell ⟨rb, 0, none⟩ (Value.slice pt T1.length ct)).cell? ⟨rb, 1, none⟩ = some vn := by simp [World.cell?, hs1]
          have q2f : (w10.setCell ⟨rb, 0, none⟩ (Value.slice pt T1.length ct)).frozen? ⟨rb, 1, none⟩ = false := by simp [World.frozen?, hs1]
          have q3 : (w10.setCell ⟨rb, 0, none⟩ (Value.slice pt T1.length ct)).cell? ⟨nb, 1, none⟩ = some (Value.slice pn N1.length cc) := (World.cell?_of_block (a := ⟨nb, 1, none⟩) (hs2.block nb HN10.out.lt hne)).trans HN10.out.c1
          have HK12 : Hid (Kp (fun k => k = rb) w10 ((w10.setCell ⟨rb, 0, none⟩ (Value.slice pt T1.length ct)).setCell ⟨rb, 1, none⟩ (Value.slice pn N1.length cc))) := hs2.trans hs4 (fun _ _ h => h)
          have HS12 : Hid (RM ((w10.setCell ⟨rb, 0, none⟩ (Value.slice pt T1.length ct)).setCell ⟨rb, 1, none⟩ (Value.slice pn N1.length cc)) ⟨rb, (Value.slice pt T1.length ct), (Value.slice pn N1.length cc)⟩ T1 N1) := by
            have hx := HX.out.2.2.2.2.2
            refine ⟨hs3, owns_kp HK12.out HN10.out.tm (fun q hq e => ?_), owns_kp HK12.out HN10.out.ct (fun q hq e => ?_), HN10.out.len, fun e => ?_, fun e => ?_, HN10.out.o3, HN10.out.nd, HN10.out.few⟩
            · have := hx q (Or.inr (Or.inl hq)); omega
            · have := hx q (Or.inr (Or.inr hq)); omega
            · have := hx rb (Or.inr (Or.inl e)); omega
            · have := hx rb (Or.inr (Or.inr e)); omega
          have hwz : w.heap.size ≤ w9.heap.size := Nat.le_trans HX.out.2.2.2.2.1.size HF9.out.2.2.size
          have hwk : w.heap.size ≤ wk.heap.size := HX.out.2.2.2.2.1.size
          have HL9a : Hid (Lst ((w10.setCell ⟨rb, 0, none⟩ (Value.slice pt T1.length ct)).setCell ⟨rb, 1, none⟩ (Value.slice pn N1.length cc)) v9 R9) := HK12.out.ls (owns_ls (E := ET) (HF9.out.2.1.below HF10.out.2.2).owns) (fun g hg e => by have := (HF9.out.2.1.owns.lt g hg).1; omega)
          have HL10a : Hid (Lst ((w10.setCell ⟨rb, 0, none⟩ (Value.slice pt T1.length ct)).setCell ⟨rb, 1, none⟩ (Value.slice pn N1.length cc)) v10 R10) := HK12.out.ls (owns_ls (E := ET) HF10.out.2.1.owns) (fun g hg e => by have := (HF10.out.2.1.owns.lt g hg).1; omega)
          have HKW : Hid (Kp (fun k => k = rb) w ((w10.setCell ⟨rb, 0, none⟩ (Value.slice pt T1.length ct)).setCell ⟨rb, 1, none⟩ (Value.slice pn N1.length cc))) := (Kp.of_below (S := fun k => k = rb) (HB0.out)).trans HK12.out (fun _ _ h => h)
          have HZE : Hid (((w10.setCell ⟨rb, 0, none⟩ (Value.slice pt T1.length ct)).setCell ⟨rb, 1, none⟩ (Value.slice pn N1.length cc)).heap.size = w10.heap.size) := by simp [Hid, World.setCell]
          have hr9 : R9.length ≤ 400000 := Nat.le_trans (fc_le HF9.out.1 HR.out.len) (by omega)
          have hr10 : R10.length ≤ 400000 := Nat.le_trans (fc_le (by rw [HX.out.2.2.1]; exact HF10.out.1) HNl.out) (by omega)
          clear hf2 ho10 hp10 hm10 hb10 hs1 hs2 hs3 hs4
          go_wp2_with (at_builtin; refine Cn.wpAppL rfl _ _ rfl ((w10.setCell ⟨rb, 0, none⟩ (Value.slice pt T1.length ct)).setCell ⟨rb, 1, none⟩ (Value.slice pn N1.length cc)).heap.size (.slice none 0 0) 0 [] rfl (World.ownsRow_nil _ _ _ _) v9 R9 rfl HL9a.out (by omega) (Nat.le_refl _) ?_)
          intro v13 w13 ho13 hg13
          clear q0 q0f q1 q2 q2f q3 HK12
          generalize ((w10.setCell ⟨rb, 0, none⟩ (Value.slice pt T1.length ct)).setCell ⟨rb, 1, none⟩ (Value.slice pn N1.length cc)) = w12 at *
          have B13 : Below w12.heap.size w12 w13 := (Kp.grownBy (S := fun _ => False) hg13 (fun k hk => by simp [Value.ownBlock] at hk)).below (Nat.le_refl _) (fun _ h => h.elim)
          have ho13' : w13.ownsRow w12.heap.size 37 3 v13 R9.length (flT R9) := by rw [HZE.out]; exact ho13
          have HL9 : Hid (Lst w13 v9 R9) := HL9a.out.below B13
          have HL10b : Hid (Lst w13 v10 R10) := HL10a.out.below B13
          have HBX : Hid (Below w12.heap.size w12 w13) := B13
          have hz13 := B13.size
          clear ho13 hg13 B13 HL9
          go_wp2_with (at_builtin; refine Cn.wpAppL rfl _ _ rfl w12.heap.size v13 R9.length (flT R9) rfl ho13' v10 R10 rfl HL10b.out (by omega) hz13 ?_)
          intro v14 w14 ho14 hg14
          have K14 : Kp (fun k => w12.heap.size ≤ k) w13 w14 := Kp.grownBy hg14 (fun k hk => (ho13'.lt k hk).1)
          have B14 : Below w12.heap.size w12 w14 := HBX.out.trans (K14.below HBX.out.size (fun _ h => h))
          have HE14 : Hid (w14.ownsRow w12.heap.size 37 3 v14 (R9 ++ R10).length (flT (R9 ++ R10)) ∧ Below w12.heap.size w12 w14) := ⟨owns_re ho14 (by rw [List.length_append]) (by rw [flT_append]), B14⟩
          have hso := rsorted_any v14 (R9 ++ R10) w14 (owns_ls (E := ET) HE14.out.1) (by rw [List.length_append]; omega)
          clear ho13' hg14 ho14 K14 B14 HL10b hz13 HBX
          go_wp2_with fail
          refine hso.mono ?_
          rintro e w15 ⟨v15, RB, rfl, ho15, hp15, hm15, hb15⟩
          have B15 : Hid (Below w12.heap.size w12 w15) := HE14.out.2.trans (hb15.mono HE14.out.2.size)
          have HOM : Hid (om R9 R10 RB = dlt R9 R10) := om_dlt (tol_nodup HF9.out.1.1) (tol_nodup HF10.out.1.1) hp15 hm15
          have hrb : RB.length ≤ 800000 := Nat.le_trans (nodup_le (tol_nodup hp15) fun y hy => (hm15 y).1 hy) (by rw [List.length_append]; omega)
          have HLB : Hid (Lst w15 v15 RB) := owns_ls (E := ET) ho15.owns
          have HL9 : Hid (Lst w15 v9 R9) := HL9a.out.below B15.out
          have HL10 : Hid (Lst w15 v10 R10) := HL10a.out.below B15.out
          obtain ⟨pb, cb, hvb⟩ := HLB.out.form
          subst hvb
          clear hso ho15 hp15 hm15 hb15 HL9a HL10a HE14
          go_wp2_with fail
          go_loopw [12, 13] (fun s12 s13 wq => ∃ k : Nat, k ≤ RB.length ∧ s13 = .int .i64 k ∧ Hid (wq.ownsRow w15.heap.size 54 4 s12 (om R9 R10 (RB.take k)).length (fl ED (om R9 R10 (RB.take k))) ∧ Below w15.heap.size w15 wq)) (fun _ s13 _ => RB.length - (RowKit.intOf s13).toNat)
          case atStart => exact ⟨0, Nat.zero_le _, rfl, World.ownsRow_nil _ _ _ _, Below.refl _ _⟩
          case round =>
            obtain ⟨k, hk, rfl, HK⟩ := hrel
            by_cases hkl : k < RB.length
            · have hkz : (k : Int) < (RB.length : Int) := by omega
              obtain ⟨y, hy⟩ : ∃ y, RB[k]? = some y := ⟨RB[k], by simp⟩
              have HY : Hid (RB[k]? = some y) := hy
              have HM : Hid (om R9 R10 (RB.take (k + 1)) = (om R9 R10 (RB.take k) ++ (if y ∈ R10 then [] else [(y, -1)])) ++ (if y ∈ R9 then [] else [(y, 1)])) := om_take_succ hy
              have hML : (om R9 R10 (RB.take k)).length ≤ 1600000 := Nat.le_trans om_length (by rw [List.length_take]; omega)
              obtain ⟨b1, o1, c1, e1, z1, x1, x2, x3⟩ := (HLB.out.below HK.out.2).at3 hy
              simp only [Value.slice.injEq] at e1
              obtain ⟨rfl, -, rfl⟩ := e1
              clear hy
              generalize om R9 R10 (RB.take k) = M at *
              by_cases hn : y ∈ R10
              · skip
                by_cases hs : y ∈ R9
                · skip
                  have HM2 : Hid (om R9 R10 (RB.take (k + 1)) = M) := by rw [HM.out, if_pos hn, if_pos hs]; simp [Hid]
                  clear HM
                  have hh := has_any v10 R10 y wr (HL10.out.below HK.out.2) (by omega)
                  rw [decide_eq_true hn] at hh
                  go_wp2_with fail
                  refine hh.mono ?_
                  rintro e w16 ⟨rfl, hg16⟩
                  have B16 : Hid (Below w15.heap.size w15 w16) := HK.out.2.trans (hg16.below.mono HK.out.2.size)
                  have HO16 : Hid (w16.ownsRow w15.heap.size 54 4 u12 M.length (fl ED M)) := owns_below HK.out.1 hg16.below
                  obtain ⟨b2, o2, c2, e2, z2, a1, a2, a3⟩ := (HLB.out.below B16.out).at3 HY.out
                  simp only [Value.slice.injEq, Option.some.injEq, Addr.mk.injEq, and_true] at e2
                  obtain ⟨⟨rfl, rfl⟩, -⟩ := e2
                  have hz16 := B16.out.size
                  clear hh hg16 x1 x2 x3 z1
                  have hw := has_any v9 R9 y w16 (HL9.out.below B16.out) (by omega)
                  rw [decide_eq_true hs] at hw
                  go_wp2_with fail
                  refine hw.mono ?_
                  rintro e w18 ⟨rfl, hg18⟩
                  have B18 : Hid (Below w15.heap.size w15 w18) := B16.out.trans (hg18.below.mono B16.out.size)
                  have HO18 : Hid (w18.ownsRow w15.heap.size 54 4 u12 M.length (fl ED M)) := owns_below HO16.out hg18.below
                  obtain ⟨b4, o4, c4, e4, z4, k1, k2, k3⟩ := (HLB.out.below B18.out).at3 HY.out
                  simp only [Value.slice.injEq, Option.some.injEq, Addr.mk.injEq, and_true] at e4
                  obtain ⟨⟨rfl, rfl⟩, -⟩ := e4
                  have hz18 := B18.out.size
                  clear hw hg18
                  go_wp2
                  go_roundw
                  case rel => exact ⟨k + 1, by omega, by go_num, by rw [HM2.out]; exact ⟨by first | exact HO18.out | exact owns_re HO18.out (by simp) rfl, B18.out⟩⟩
                  case measure => simp [RowKit.intOf]; omega
                · skip
                  have HM2 : Hid (om R9 R10 (RB.take (k + 1)) = (M) ++ [(y, 1)]) := by rw [HM.out, if_pos hn, if_neg hs]; simp [Hid]
                  clear HM
                  have hh := has_any v10 R10 y wr (HL10.out.below HK.out.2) (by omega)
                  rw [decide_eq_true hn] at hh
                  go_wp2_with fail
                  refine hh.mono ?_
                  rintro e w16 ⟨rfl, hg16⟩
                  have B16 : Hid (Below w15.heap.size w15 w16) := HK.out.2.trans (hg16.below.mono HK.out.2.size)
                  have HO16 : Hid (w16.ownsRow w15.heap.size 54 4 u12 M.length (fl ED M)) := owns_below HK.out.1 hg16.below
                  obtain ⟨b2, o2, c2, e2, z2, a1, a2, a3⟩ := (HLB.out.below B16.out).at3 HY.out
                  simp only [Value.slice.injEq, Option.some.injEq, Addr.mk.injEq, and_true] at e2
                  obtain ⟨⟨rfl, rfl⟩, -⟩ := e2
                  have hz16 := B16.out.size
                  clear hh hg16 x1 x2 x3 z1
                  have hw := has_any v9 R9 y w16 (HL9.out.below B16.out) (by omega)
                  rw [decide_eq_false hs] at hw
                  go_wp2_with fail
                  refine hw.mono ?_
                  rintro e w18 ⟨rfl, hg18⟩
                  have B18 : Hid (Below w15.heap.size w15 w18) := B16.out.trans (hg18.below.mono B16.out.size)
                  have HO18 : Hid (w18.ownsRow w15.heap.size 54 4 u12 M.length (fl ED M)) := owns_below HO16.out hg18.below
                  obtain ⟨b4, o4, c4, e4, z4, k1, k2, k3⟩ := (HLB.out.below B18.out).at3 HY.out
                  simp only [Value.slice.injEq, Option.some.injEq, Addr.mk.injEq, and_true] at e4
                  obtain ⟨⟨rfl, rfl⟩, -⟩ := e4
                  have hz18 := B18.out.size
                  clear hw hg18
                  go_wp2_with (at_builtin; refine wpApp1D rfl _ _ rfl w15.heap.size _ M.length _ rfl HO18.out (y, 1) rfl (by omega) hz18 ?_)
                  intro g19 c19 w19 ho19 hg19 hl19
                  have HE : Hid (w19.ownsRow w15.heap.size 54 4 (.slice (some ⟨g19, 0, none⟩) (M.length + 1) c19) (M ++ [(y, 1)]).length (fl ED (M ++ [(y, 1)])) ∧ Below w15.heap.size w15 w19) := ⟨owns_re ho19 (by simp) (by simp only [fl_append, fl_one]), B18.out.trans ((Kp.grownBy (S := fun k => w15.heap.size ≤ k) hg19 (fun k hk => (HO18.out.lt k hk).1)).below B18.out.size (fun _ h => h))⟩
                  clear ho19 hg19 hl19
                  go_wp2
                  go_roundw
                  case rel => exact ⟨k + 1, by omega, by go_num, by rw [HM2.out]; exact HE.out⟩
                  case measure => simp [RowKit.intOf]; omega
              · skip
                by_cases hs : y ∈ R9
                · skip
                  have HM2 : Hid (om R9 R10 (RB.take (k + 1)) = M ++ [(y, -1)]) := by rw [HM.out, if_neg hn, if_pos hs]; simp [Hid]
                  clear HM
                  have hh := has_any v10 R10 y wr (HL10.out.below HK.out.2) (by omega)
                  rw [decide_eq_false hn] at hh
                  go_wp2_with fail
                  refine hh.mono ?_
                  rintro e w16 ⟨rfl, hg16⟩
                  have B16 : Hid (Below w15.heap.size w15 w16) := HK.out.2.trans (hg16.below.mono HK.out.2.size)
                  have HO16 : Hid (w16.ownsRow w15.heap.size 54 4 u12 M.length (fl ED M)) := owns_below HK.out.1 hg16.below
                  obtain ⟨b2, o2, c2, e2, z2, a1, a2, a3⟩ := (HLB.out.below B16.out).at3 HY.out
                  simp only [Value.slice.injEq, Option.some.injEq, Addr.mk.injEq, and_true] at e2
                  obtain ⟨⟨rfl, rfl⟩, -⟩ := e2
                  have hz16 := B16.out.size
                  clear hh hg16 x1 x2 x3 z1
                  go_wp2_with (at_builtin; refine wpApp1D rfl _ _ rfl w15.heap.size _ M.length _ rfl HO16.out (y, -1) rfl (by omega) hz16 ?_)
                  intro g17 c17 w17 ho17 hg17 hl17
                  have HO17 : Hid (w17.ownsRow w15.heap.size 54 4 (.slice (some ⟨g17, 0, none⟩) (M.length + 1) c17) (M.length + 1) (fl ED (M ++ [(y, -1)]))) := by rw [fl_append, fl_one]; exact ho17
                  have B17 : Hid (Below w15.heap.size w15 w17) := B16.out.trans ((Kp.grownBy (S := fun k => w15.heap.size ≤ k) hg17 (fun k hk => (HO16.out.lt k hk).1)).below B16.out.size (fun _ h => h))
                  obtain ⟨b3, o3, c3, e3, z3, f1, f2, f3⟩ := (HLB.out.below B17.out).at3 HY.out
                  simp only [Value.slice.injEq, Option.some.injEq, Addr.mk.injEq, and_true] at e3
                  obtain ⟨⟨rfl, rfl⟩, -⟩ := e3
                  have hz17 := B17.out.size
                  clear ho17 hg17 hl17 a1 a2 a3 z2
                  have hw := has_any v9 R9 y w17 (HL9.out.below B17.out) (by omega)
                  rw [decide_eq_true hs] at hw
                  go_wp2_with fail
                  refine hw.mono ?_
                  rintro e w18 ⟨rfl, hg18⟩
                  have B18 : Hid (Below w15.heap.size w15 w18) := B17.out.trans (hg18.below.mono B17.out.size)
                  have HO18 : Hid (w18.ownsRow w15.heap.size 54 4 (.slice (some ⟨g17, 0, none⟩) (M.length + 1) c17) (M.length + 1) (fl ED (M ++ [(y, -1)]))) := owns_below HO17.out hg18.below
                  obtain ⟨b4, o4, c4, e4, z4, k1, k2, k3⟩ := (HLB.out.below B18.out).at3 HY.out
                  simp only [Value.slice.injEq, Option.some.injEq, Addr.mk.injEq, and_true] at e4
                  obtain ⟨⟨rfl, rfl⟩, -⟩ := e4
                  have hz18 := B18.out.size
                  clear hw hg18
                  go_wp2
                  go_roundw
                  case rel => exact ⟨k + 1, by omega, by go_num, by rw [HM2.out]; exact ⟨by first | exact HO18.out | exact owns_re HO18.out (by simp) rfl, B18.out⟩⟩
                  case measure => simp [RowKit.intOf]; omega
                · skip
                  have HM2 : Hid (om R9 R10 (RB.take (k + 1)) = (M ++ [(y, -1)]) ++ [(y, 1)]) := by rw [HM.out, if_neg hn, if_neg hs]; simp [Hid]
                  clear HM
                  have hh := has_any v10 R10 y wr (HL10.out.below HK.out.2) (by omega)
                  rw [decide_eq_false hn] at hh
                  go_wp2_with fail
                  refine hh.mono ?_
                  rintro e w16 ⟨rfl, hg16⟩
                  have B16 : Hid (Below w15.heap.size w15 w16) := HK.out.2.trans (hg16.below.mono HK.out.2.size)
                  have HO16 : Hid (w16.ownsRow w15.heap.size 54 4 u12 M.length (fl ED M)) := owns_below HK.out.1 hg16.below
                  obtain ⟨b2, o2, c2, e2, z2, a1, a2, a3⟩ := (HLB.out.below B16.out).at3 HY.out
                  simp only [Value.slice.injEq, Option.some.injEq, Addr.mk.injEq, and_true] at e2
                  obtain ⟨⟨rfl, rfl⟩, -⟩ := e2
                  have hz16 := B16.out.size
                  clear hh hg16 x1 x2 x3 z1
                  go_wp2_with (at_builtin; refine wpApp1D rfl _ _ rfl w15.heap.size _ M.length _ rfl HO16.out (y, -1) rfl (by omega) hz16 ?_)
                  intro g17 c17 w17 ho17 hg17 hl17
                  have HO17 : Hid (w17.ownsRow w15.heap.size 54 4 (.slice (some ⟨g17, 0, none⟩) (M.length + 1) c17) (M.length + 1) (fl ED (M ++ [(y, -1)]))) := by rw [fl_append, fl_one]; exact ho17
                  have B17 : Hid (Below w15.heap.size w15 w17) := B16.out.trans ((Kp.grownBy (S := fun k => w15.heap.size ≤ k) hg17 (fun k hk => (HO16.out.lt k hk).1)).below B16.out.size (fun _ h => h))
                  obtain ⟨b3, o3, c3, e3, z3, f1, f2, f3⟩ := (HLB.out.below B17.out).at3 HY.out
                  simp only [Value.slice.injEq, Option.some.injEq, Addr.mk.injEq, and_true] at e3
                  obtain ⟨⟨rfl, rfl⟩, -⟩ := e3
                  have hz17 := B17.out.size
                  clear ho17 hg17 hl17 a1 a2 a3 z2
                  have hw := has_any v9 R9 y w17 (HL9.out.below B17.out) (by omega)
                  rw [decide_eq_false hs] at hw
                  go_wp2_with fail
                  refine hw.mono ?_
                  rintro e w18 ⟨rfl, hg18⟩
                  have B18 : Hid (Below w15.heap.size w15 w18) := B17.out.trans (hg18.below.mono B17.out.size)
                  have HO18 : Hid (w18.ownsRow w15.heap.size 54 4 (.slice (some ⟨g17, 0, none⟩) (M.length + 1) c17) (M.length + 1) (fl ED (M ++ [(y, -1)]))) := owns_below HO17.out hg18.below
                  obtain ⟨b4, o4, c4, e4, z4, k1, k2, k3⟩ := (HLB.out.below B18.out).at3 HY.out
                  simp only [Value.slice.injEq, Option.some.injEq, Addr.mk.injEq, and_true] at e4
                  obtain ⟨⟨rfl, rfl⟩, -⟩ := e4
                  have hz18 := B18.out.size
                  clear hw hg18
                  go_wp2_with (at_builtin; refine wpApp1D rfl _ _ rfl w15.heap.size _ (M.length + 1) _ rfl HO18.out (y, 1) rfl (by omega) hz18 ?_)
                  intro g19 c19 w19 ho19 hg19 hl19
                  have HE : Hid (w19.ownsRow w15.heap.size 54 4 (.slice (some ⟨g19, 0, none⟩) ((M.length + 1) + 1) c19) ((M ++ [(y, -1)]) ++ [(y, 1)]).length (fl ED ((M ++ [(y, -1)]) ++ [(y, 1)])) ∧ Below w15.heap.size w15 w19) := ⟨owns_re ho19 (by simp) (by simp only [fl_append, fl_one]), B18.out.trans ((Kp.grownBy (S := fun k => w15.heap.size ≤ k) hg19 (fun k hk => (HO18.out.lt k hk).1)).below B18.out.size (fun _ h => h))⟩
                  clear ho19 hg19 hl19
                  go_wp2
                  go_roundw
                  case rel => exact ⟨k + 1, by omega, by go_num, by rw [HM2.out]; exact HE.out⟩
                  case measure => simp [RowKit.intOf]; omega
            · have hkz : ¬ (k : Int) < (RB.length : Int) := by omega
              have hkk : k = RB.length := by omega
              subst hkk
              rw [List.take_length, HOM.out] at HK
              have HFB : Hid (Below w12.heap.size w12 wr) := B15.out.trans (HK.out.2.mono B15.out.size)
              go_wp2
              go_ret2
              have hz12 := HKW.out.size
              have hz15 := B15.out.size
              refine Or.inr ⟨HBA.out, _, ⟨rb, (Value.slice pt T1.length ct), (Value.slice pn N1.length cc)⟩, T1, N1, R9, R10, rfl, rfl, HS12.out.bel HFB.out, HX.out.2.1, HX.out.2.2.1, HF9.out.1, HF10.out.1, owns_base HK.out.1 (by omega), HKW.out.trans (Kp.of_below (S := fun k => k = rb) HFB.out) (fun _ _ h => h), fun q hq => ?_, fun g hg e => ?_⟩
              · rcases hq with h | h | h
                · exact Or.inl h
                · exact Or.inr (HX.out.2.2.2.2.2 q (Or.inr (Or.inl h)))
                · exact Or.inr (HX.out.2.2.2.2.2 q (Or.inr (Or.inr h)))
              · have h1 := HS12.out.own_lt g hg
                have h2 := (HK.out.1.lt g e).1
                omega
/-- Apply, both ways in one. -/
theorem apply_uni (m : Ml) (ds : List Dl) (u : Value) (w : World) (h : m.ok w) (hF : IsFr m.f m.fr) (hu : Ls ED w u ds) (hbig : m.n + 2 * ds.length + 1 ≤ 2199023255552) :
    Calls Tryz.prog 21 #[.pointer (some ⟨m.mb, 0, none⟩), u] w fun e w' => ∃ (vo : Value) (m' : Ml) (d : List Dl), e = .returned (.tuple #[vo, .int .i64 (if bad m.f ds = true then 12 else 0)]) ∧ Hid ((m'.mb = m.mb ∧ m'.tb = m.tb ∧ m'.b = m.b ∧ m'.cb = m.cb) ∧ m'.ok w' ∧ IsFr m'.f m'.fr ∧ m'.n ≤ m.n + 2 * ds.length ∧
      m'.f = (if bad m.f ds = true then m.f else newc m.f ds) ∧ d = (if bad m.f ds = true then [] else dlt m.fr m'.fr) ∧ w'.ownsRow w.heap.size 54 4 vo d.length (fl ED d) ∧ Kp (fun k => k = m.b ∨ k = m.cb ∨ m.v.ownBlock = some k) w w' ∧ (∀ g, m'.v.ownBlock = some g → m.v.ownBlock = some g ∨ w.heap.size ≤ g) ∧ ∀ g, m'.v.ownBlock = some g → vo.ownBlock ≠ some g) := by
  refine (apply_any ds u w h hF hu hbig).mono ?_
  rintro e w' (⟨hb, rfl, hbl⟩ | ⟨hb, vo, v', fr', hF', rfl, ho, hM, hK, hV, hN⟩)
  · rw [if_pos hb]
    exact ⟨_, m, [], rfl, ⟨rfl, rfl, rfl, rfl⟩, Mu.below h hbl, hF, by omega, by rw [if_pos hb], by rw [if_pos hb], World.ownsRow_nil _ _ _ _, Kp.of_below hbl, fun g hg => Or.inl hg, fun g _ => by simp [Value.ownBlock]⟩
  · rw [if_neg (by rw [hb]; simp)]
    exact ⟨vo, ⟨m.mb, m.tb, m.b, m.cb, m.n + 2 * ds.length, v', newc m.f ds, fr'⟩, dlt m.fr fr', rfl, ⟨rfl, rfl, rfl, rfl⟩, hM, hF', Nat.le_refl _, by rw [if_neg (by rw [hb]; simp)], by rw [if_neg (by rw [hb]; simp)], ho, hK, hV, hN⟩
/-- The document's. -/
theorem rapply_uni (r : Rd) (ds : List Dl) (v : Value) (w : World) {f f' : Tm → Int} {fr fr' : List Tm} (h : r.ok w) (hc : cn r.T r.N = f) (hbd : ∀ t, -2147483647 ≤ f t ∧ f t ≤ 2147483647) (hF : IsFr f fr) (hf' : f' = if bad f ds = true then f else newc f ds) (hF' : IsFr f' fr') (hv : Lq w v ds) (hl : r.T.length + ds.length ≤ 400000) :
    Calls Tryz.prog 28 #[rmp r.r, v] w fun e w' => ∃ (vo : Value) (r' : Rd) (d : List Dl), e = .returned (.tuple #[vo, .int .i64 (if bad f ds = true then 12 else 0)]) ∧ Hid (d = (if bad f ds = true then [] else dlt fr fr') ∧ r'.r.b = r.r.b ∧ r'.ok w' ∧ cn r'.T r'.N = f' ∧ r'.T.length ≤ r.T.length + ds.length ∧
      w'.ownsRow w.heap.size 54 4 vo d.length (fl ED d) ∧ Kp (fun k => k = r.r.b) w w' ∧ (∀ k, r'.r.own k → r.r.own k ∨ w.heap.size ≤ k) ∧ ∀ g, r'.r.own g → vo.ownBlock ≠ some g) := by
  refine (rapply_lq w r.r r.T r.N h (by rw [hc]; exact hbd) v ds hv hl).mono ?_
  unfold RAp
  rw [hc]
  rintro e w' (⟨hb, rfl, hbl⟩ | ⟨hb, vo, r', T', N', was, now, rfl, hrb, hR, hT, hcn, hwas, hnow, ho, hK, hown, hne⟩)
  · rw [if_pos hb]
    exact ⟨_, r, [], rfl, by rw [if_pos hb], rfl, h.bel hbl, by rw [hc, hf', if_pos hb], by omega, World.ownsRow_nil _ _ _ _, Kp.of_below hbl, fun k hk => Or.inl hk, fun g _ => by simp [Value.ownBlock]⟩
  · have hnb : ¬ bad f ds = true := by rw [hb]; simp
    rw [if_neg hnb] at hf'
    rw [if_neg hnb]
    have e1 : was = fr := isFr_same hF hwas.1 hwas.2
    have e2 : now = fr' := isFr_same hF' (by exact hnow.1) (by rw [hf']; exact hnow.2)
    refine ⟨vo, ⟨r', T', N'⟩, dlt was now, rfl, by rw [if_neg hnb, e1, e2], hrb, hR, by rw [hf']; exact hcn, hT, ho, hK, fun k hk => ?_, hne⟩
    rcases hown k hk with h1 | h1
    · exact Or.inl (Or.inl h1)
    · exact Or.inr h1
end Go.Proofs.YtnpmmodcmfgbjaaGreat
