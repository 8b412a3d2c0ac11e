import Derived.Test.YthbdbmbdfhbeiaaGreatYAny1
namespace Go.Proofs.YthbdbmbdfhbeiaaGreat
open Go.RowKit Go.Sort Go.Maps
open Mm (Sz st EM)
open Pp (kr)
attribute [local go_sem ↓] Go.wp_at_zero Go.wp_at_succ

set_option maxHeartbeats 8000000 in
set_option maxRecDepth 100000 in
theorem anything_any (v : Value) (l : List Ct) (w : World) (hv : Q.Ls EC w v l) :
    Calls Tryz.prog 3 #[v] w fun e w' => e = .returned (.bool true) ∧ Below w.heap.size w w' := by
  have hmx : Tryz.prog.follows .mixedOrders = true := by kernel_rfl
  obtain ⟨pv, cv, rfl⟩ := hv.form
  have HV : Hid (Q.Ls EC w (.slice pv l.length cv) l) := hv
  clear hv
  go_enter Tryz.func3, Tryz.ntmps3
  go_wp2_with fail
  refine (Pp.new_any 5 _).mono ?_
  rintro e w1 ⟨rfl, ht1, hg1⟩
  go_wp2_with fail
  refine (Mm.new_any 7 _).mono ?_
  rintro e w2 ⟨rfl, hu2, hg2⟩
  go_wp2_with fail
  refine (known_any _).mono ?_
  rintro e w3 ⟨rfl, hb3⟩
  have HA0 : Hid (All w w3 (w.heap.size + 1) w.heap.size (w1.heap.size + 1 + 1) (w1.heap.size + 1) ⟨w1.heap.size, .slice none 0 0, .slice none 0 0⟩ (fun _ => 0) [] [] 0 0) := by
    refine All.init hg1 ht1 (Nat.le_refl _) hg2 ?_ (Nat.le_refl _) (by omega) hb3
    simpa using hu2
  clear ht1 hg1 hu2 hg2 hb3
  go_wp2_with fail
  obtain ⟨tb, htb⟩ : ∃ tb, tb = w.heap.size + 1 := ⟨_, rfl⟩
  obtain ⟨ub, hub⟩ : ∃ ub, ub = w1.heap.size + 1 + 1 := ⟨_, rfl⟩
  obtain ⟨bu, hbu⟩ : ∃ bu, bu = w1.heap.size + 1 := ⟨_, rfl⟩
  obtain ⟨bm, hbm⟩ : ∃ bm, bm = w.heap.size := ⟨_, rfl⟩
  obtain ⟨rb, hrb⟩ : ∃ rb, rb = w1.heap.size := ⟨_, rfl⟩
  have HA1 : Hid (All w w3 tb bm ub bu ⟨rb, .slice none 0 0, .slice none 0 0⟩ (fun _ => 0) [] [] 0 0) := by rw [htb, hub, hbu, hbm, hrb]; exact HA0.out
  rw [← hub, ← htb, ← hrb]
  clear HA0 htb hub hbu hbm hrb
  go_loopw [27] (fun s27 wr => ∃ k : Nat, k ≤ l.length ∧ k ≤ 200 ∧ s27 = .int .i64 k ∧ Hid (∃ (r : Rf) (f : Pr → Int) (N : List Rk) (C : List Int), r.b = rb ∧ All w wr tb bm ub bu r f N C k k)) (fun s27 _ => l.length - (RowKit.intOf s27).toNat)
  case atStart => exact ⟨0, Nat.zero_le _, by decide, rfl, _, _, _, _, rfl, HA1.out⟩
  case round =>
    clear HA1
    obtain ⟨k, hk, hk2, rfl, HI⟩ := hrel
    obtain ⟨r, f, N, C, hrb, hA⟩ := HI.out
    have HA : Hid (All w wr tb bm ub bu r f N C k k) := hA
    clear HI hA
    by_cases hlt : k < l.length
    · have hltz : (k : Int) < (l.length : Int) := by omega
      obtain ⟨c, hc⟩ : ∃ c, l[k]? = some c := ⟨l[k], by simp⟩
      obtain ⟨b1, o1, c1, e1, z1, x0, x1, x2, x3⟩ := ls_at4 (HV.out.below (HA.out.below)) hc
      simp only [Value.slice.injEq] at e1
      obtain ⟨rfl, -, rfl⟩ := e1
      obtain ⟨x, n⟩ := c
      simp only at x0 x1 x2 x3
      clear hc
      by_cases h200 : k = 200
      · have h200z : ((k : Int) == 200) = true := by simp; omega
        have H200 : Hid (k = 200) := h200
        clear h200
        have HA2 : Hid (All w (wr.alloc (.cells #[.int .i64 x.1.1, .int .u8 x.1.2.1, .int .u8 x.1.2.2, .int .i64 n] 44)) tb bm ub bu r f N C k k) := HA.out.kept ((Gr.refl wr).alloc _).below
        clear HA
        go_wp2_with fail
        have hks := Mm.keys_any _ HA2.out.u (by omega) (fun s hs => by obtain ⟨z, hz, _⟩ := fu_ne (by omega) hs; exact ⟨z, hz⟩)
        refine hks.mono ?_
        rintro e w5 ⟨vk, zs, hs5, rfl, ho5, -, hb5⟩
        have HA5 : Hid (All w w5 tb bm ub bu r f N C k k) := HA2.out.kept hb5
        rw [fu_sup (by omega) hs5] at ho5
        have hls : Q.Ls EM w5 vk ((zl k).map st) := Q.owns_ls (E := EM) ho5
        obtain ⟨pk, ck, rfl⟩ := hls.form
        rw [List.length_map, zl_length] at hls ⊢
        have HL5 : Hid (Q.Ls EM w5 (.slice pk k ck) ((zl k).map st)) := hls
        clear hks hs5 ho5 hb5 HA2 hls
        go_wp2_with fail
        go_loopw [93] (fun s93 wr => ∃ i : Nat, i ≤ k ∧ s93 = .int .i64 i ∧ Gr w5 wr) (fun s93 _ => k - (RowKit.intOf s93).toNat)
        case atStart => exact ⟨0, Nat.zero_le _, rfl, Gr.refl _⟩
        case round =>
          obtain ⟨i, hi, rfl, hgr⟩ := hrel
          by_cases hik : i < k
          · have hikz : (i : Int) < (k : Int) := by omega
            obtain ⟨b5, o5, c5, e5, z5, y0, y1, y2, y3⟩ := ls_atM (HL5.out.below hgr.below) (j := i) (p := st (zn i)) (by rw [List.getElem?_map, zl_get hik]; rfl)
            rw [List.length_map, zl_length] at e5
            simp only [Value.slice.injEq] at e5
            obtain ⟨rfl, -, rfl⟩ := e5
            have Y0 : wr.cell? ⟨b5, o5 + i * 4, none⟩ = some (.int .i64 (i : Int)) := by
              have h := y0
              have hz := zn_val (n := i) (by omega)
              simp only [st, hz] at h
              exact h
            have Y1 : wr.cell? ⟨b5, o5 + i * 4 + 1, none⟩ = some (.int .u64 0) := y1
            have Y2 : wr.cell? ⟨b5, o5 + i * 4 + 2, none⟩ = some (.int .u64 0) := y2
            have Y3 : wr.cell? ⟨b5, o5 + i * 4 + 3, none⟩ = some (.int .u64 0) := y3
            have hse : ((i : Int) != (i : Int)) = false := by simp
            clear y0 y1 y2 y3
            go_wp2
            exact ⟨⟨i + 1, by omega, by go_num, hgr.alloc _⟩, by simp [RowKit.intOf]; omega⟩
          · have hikz : ¬ (i : Int) < (k : Int) := by omega
            have hA6 := HA5.out.kept hgr.below
            have hpd := Pp.paired_any _ hA6.t hA6.rt hA6.rel (by omega)
            have hbl := hA6.below
            rw [show rp r = Value.pointer (some ⟨rb, 0, none⟩) by rw [← hrb]] at hpd
            clear hA6 HA5
            go_wp2_with fail
            refine hpd.mono ?_
            rintro e w9 ⟨rfl, hb9⟩
            go_wp2
            go_ret
            exact ⟨rfl, hbl.trans (hb9.mono hbl.size)⟩
      · have h200z : ((k : Int) == 200) = false := by simp; omega
        have hkm : k < 200 := by omega
        clear h200
        have HA2 : Hid (All w (wr.alloc (.cells #[.int .i64 x.1.1, .int .u8 x.1.2.1, .int .u8 x.1.2.2, .int .i64 n] 44)) tb bm ub bu r f N C k k) := HA.out.kept ((Gr.refl wr).alloc _).below
        go_wp2_with fail
        obtain ⟨bo, hbo⟩ : ∃ bo, bo = wr.heap.size := ⟨_, rfl⟩
        have hlow : ∀ q, r.own q → q ≠ bo := fun q hq => by have := HA.out.rt.own_lt q hq; omega
        have hlb : bm ≠ bo := by have := HA.out.t.ta.lt; omega
        obtain ⟨wc, hwc⟩ : ∃ wc, wc = wr.alloc (.cells #[.int .i64 x.1.1, .int .u8 x.1.2.1, .int .u8 x.1.2.2, .int .i64 n] 44) := ⟨_, rfl⟩
        have ob : ∀ j y, [Value.int .i64 x.1.1, .int .u8 x.1.2.1, .int .u8 x.1.2.2, .int .i64 n][j]? = some y → wc.cell? ⟨bo, j, none⟩ = some y := fun j y hj => by
          rw [hwc, hbo]
          have := World.news_of_block (heap_alloc_new wr (.cells #[.int .i64 x.1.1, .int .u8 x.1.2.1, .int .u8 x.1.2.2, .int .i64 n] 44)) j y hj
          rw [Q.addA, Nat.zero_add] at this
          exact this
        have S0 : (wc.cell? ⟨bo, 0, none⟩ = some (.int .i64 x.1.1) ∧ wc.cell? ⟨bo, 1, none⟩ = some (.int .u8 x.1.2.1) ∧ wc.cell? ⟨bo, 2, none⟩ = some (.int .u8 x.1.2.2) ∧ wc.cell? ⟨bo, 3, none⟩ = some (.int .i64 n) ∧ bo < wc.heap.size) := ⟨ob 0 _ rfl, ob 1 _ rfl, ob 2 _ rfl, ob 3 _ rfl, by rw [hwc, hbo]; simp⟩
        rw [← hwc] at HA2
        rw [← hwc, ← hbo]
        have HAd : Hid (All w wc.drew tb bm ub bu r f N C k k) := HA2.out.kept (Gr.refl wc).drew.below
        clear ob hwc hbo HA HA2 x0 x1 x2 x3
        have keepK : ∀ (S : Nat → Prop) (W W' : World), (W.cell? ⟨bo, 0, none⟩ = some (.int .i64 x.1.1) ∧ W.cell? ⟨bo, 1, none⟩ = some (.int .u8 x.1.2.1) ∧ W.cell? ⟨bo, 2, none⟩ = some (.int .u8 x.1.2.2) ∧ W.cell? ⟨bo, 3, none⟩ = some (.int .i64 n) ∧ bo < W.heap.size) → Kp S W W' → ¬ S bo → (W'.cell? ⟨bo, 0, none⟩ = some (.int .i64 x.1.1) ∧ W'.cell? ⟨bo, 1, none⟩ = some (.int .u8 x.1.2.1) ∧ W'.cell? ⟨bo, 2, none⟩ = some (.int .u8 x.1.2.2) ∧ W'.cell? ⟨bo, 3, none⟩ = some (.int .i64 n) ∧ bo < W'.heap.size) := fun S W W' h hk hn =>
          ⟨(World.cell?_of_block (a := ⟨bo, 0, none⟩) (hk.block bo h.2.2.2.2 hn)).trans h.1, (World.cell?_of_block (a := ⟨bo, 1, none⟩) (hk.block bo h.2.2.2.2 hn)).trans h.2.1, (World.cell?_of_block (a := ⟨bo, 2, none⟩) (hk.block bo h.2.2.2.2 hn)).trans h.2.2.1, (World.cell?_of_block (a := ⟨bo, 3, none⟩) (hk.block bo h.2.2.2.2 hn)).trans h.2.2.2.1, Nat.lt_of_lt_of_le h.2.2.2.2 hk.size⟩
        have keepG : ∀ W W' : World, (W.cell? ⟨bo, 0, none⟩ = some (.int .i64 x.1.1) ∧ W.cell? ⟨bo, 1, none⟩ = some (.int .u8 x.1.2.1) ∧ W.cell? ⟨bo, 2, none⟩ = some (.int .u8 x.1.2.2) ∧ W.cell? ⟨bo, 3, none⟩ = some (.int .i64 n) ∧ bo < W.heap.size) → Gr W W' → (W'.cell? ⟨bo, 0, none⟩ = some (.int .i64 x.1.1) ∧ W'.cell? ⟨bo, 1, none⟩ = some (.int .u8 x.1.2.1) ∧ W'.cell? ⟨bo, 2, none⟩ = some (.int .u8 x.1.2.2) ∧ W'.cell? ⟨bo, 3, none⟩ = some (.int .i64 n) ∧ bo < W'.heap.size) := fun W W' h hg => keepK (fun _ => False) W W' h (Kp.of_gr hg) (fun h => h)
        have keepB : ∀ W W' : World, (W.cell? ⟨bo, 0, none⟩ = some (.int .i64 x.1.1) ∧ W.cell? ⟨bo, 1, none⟩ = some (.int .u8 x.1.2.1) ∧ W.cell? ⟨bo, 2, none⟩ = some (.int .u8 x.1.2.2) ∧ W.cell? ⟨bo, 3, none⟩ = some (.int .i64 n) ∧ bo < W.heap.size) → Below W.heap.size W W' → (W'.cell? ⟨bo, 0, none⟩ = some (.int .i64 x.1.1) ∧ W'.cell? ⟨bo, 1, none⟩ = some (.int .u8 x.1.2.1) ∧ W'.cell? ⟨bo, 2, none⟩ = some (.int .u8 x.1.2.2) ∧ W'.cell? ⟨bo, 3, none⟩ = some (.int .i64 n) ∧ bo < W'.heap.size) := fun W W' h hg => keepK (fun _ => False) W W' h (Kp.of_below hg) (fun h => h)
        have keepM : ∀ W W' : World, (W.cell? ⟨bo, 0, none⟩ = some (.int .i64 x.1.1) ∧ W.cell? ⟨bo, 1, none⟩ = some (.int .u8 x.1.2.1) ∧ W.cell? ⟨bo, 2, none⟩ = some (.int .u8 x.1.2.2) ∧ W.cell? ⟨bo, 3, none⟩ = some (.int .i64 n) ∧ bo < W.heap.size) → Kp (fun q => q = bm) W W' → (W'.cell? ⟨bo, 0, none⟩ = some (.int .i64 x.1.1) ∧ W'.cell? ⟨bo, 1, none⟩ = some (.int .u8 x.1.2.1) ∧ W'.cell? ⟨bo, 2, none⟩ = some (.int .u8 x.1.2.2) ∧ W'.cell? ⟨bo, 3, none⟩ = some (.int .i64 n) ∧ bo < W'.heap.size) := fun W W' h hk => keepK _ W W' h hk (fun e => hlb e.symm)
        have keepO : ∀ W W' : World, (W.cell? ⟨bo, 0, none⟩ = some (.int .i64 x.1.1) ∧ W.cell? ⟨bo, 1, none⟩ = some (.int .u8 x.1.2.1) ∧ W.cell? ⟨bo, 2, none⟩ = some (.int .u8 x.1.2.2) ∧ W.cell? ⟨bo, 3, none⟩ = some (.int .i64 n) ∧ bo < W.heap.size) → Kp r.own W W' → (W'.cell? ⟨bo, 0, none⟩ = some (.int .i64 x.1.1) ∧ W'.cell? ⟨bo, 1, none⟩ = some (.int .u8 x.1.2.1) ∧ W'.cell? ⟨bo, 2, none⟩ = some (.int .u8 x.1.2.2) ∧ W'.cell? ⟨bo, 3, none⟩ = some (.int .i64 n) ∧ bo < W'.heap.size) := fun W W' h hk => keepK _ W W' h hk (fun e => hlow bo e rfl)
        have hadd := Pp.add_any x n wc.drew HAd.out.t (by unfold maxLen; omega)
        have hkey := fun W => Pp.key_any x W
        have hradd : ∀ (W1 W2 : World) (f' : Pr → Int), Pp.Tl W1 tb bm 5 (k + 1) f' → Kp (fun q => q = bm) wc.drew W1 → Gr W1 W2 → _ := fun W1 W2 _ _ h1 h2 => radd_rel x n W2 ((HAd.out.rt.kp h1 (fun q hq e => (HAd.out.sep q hq).2.1 e)).gr h2) HAd.out.rel (by have := HAd.out.few; omega)
        obtain ⟨s, hs⟩ : ∃ s, s = Pp.addf f x n x := ⟨_, rfl⟩
        obtain ⟨cd, hcd⟩ : ∃ cd, cd = Pp.addc f x n := ⟨_, rfl⟩
        obtain ⟨f1, hf1⟩ : ∃ f1, f1 = Pp.addf f x n := ⟨_, rfl⟩
        rw [← hf1] at hs
        simp only [← hcd, ← hf1] at hadd hradd
        have hget : ∀ (W : World) (r' : Rf) (N' : List Rk) (C' : List Int), All w W tb bm ub bu r' f1 N' C' (k + 1) k → Calls Tryz.prog 12 #[.pointer (some ⟨tb, 0, none⟩), pv x] W fun e w' => e = .returned (.int .i64 s) ∧ Gr W w' := fun W r' N' C' hA => by
          have := Pp.get_any x W hA.t
          rw [← hs] at this
          exact this
        have hrget : ∀ (W : World) (r' : Rf) (N' : List Rk) (C' : List Int), r'.b = r.b → All w W tb bm ub bu r' f1 N' C' (k + 1) k → Calls Tryz.prog 13 #[.pointer (some ⟨rb, 0, none⟩), kv (Pp.tx x) x.1.1] W fun e w' => e = .returned (.int .i64 s) ∧ Gr W w' := fun W r' N' C' hb hA => by
          have := rget_any (kr x) W hA.rt
          rw [← hA.rel.eq x, ← hs, show rp r' = Value.pointer (some ⟨rb, 0, none⟩) by rw [← hrb, ← hb]] at this
          exact this
        have hpd : ∀ (W : World) (r' : Rf) (N' : List Rk) (C' : List Int), r'.b = r.b → All w W tb bm ub bu r' f1 N' C' (k + 1) k → Calls Tryz.prog 14 #[.pointer (some ⟨tb, 0, none⟩), .pointer (some ⟨rb, 0, none⟩)] W fun e w' => e = .returned (.bool true) ∧ Below W.heap.size W w' := fun W r' N' C' hb hA => by
          have := Pp.paired_any W hA.t hA.rt hA.rel (by omega)
          rw [show rp r' = Value.pointer (some ⟨rb, 0, none⟩) by rw [← hrb, ← hb]] at this
          exact this
        have hradd2 : ∀ (W1 W2 : World), Pp.Tl W1 tb bm 5 (k + 1) f1 → Kp (fun q => q = bm) wc.drew W1 → Gr W1 W2 → Calls Tryz.prog 10 #[.pointer (some ⟨rb, 0, none⟩), kv (Pp.tx x) x.1.1, .int .i64 n] W2 fun e w' => e = .returned (.int .i64 cd) ∧ Kp r.own W2 w' ∧ ∃ r' N' C', r'.b = r.b ∧ All w w' tb bm ub bu r' f1 N' C' (k + 1) k := fun W1 W2 h0 h1 h2 => by
          have := hradd W1 W2 f1 h0 h1 h2
          rw [show rp r = Value.pointer (some ⟨rb, 0, none⟩) by rw [← hrb]] at this
          refine this.mono fun e w' ⟨he, r', N', C', a1, a2, a3, a4, a5, a6⟩ => ⟨he, a3, r', N', C', a1, HAd.out.both h0 h1 h2 a2 a3 a4 a5 a6⟩
        have hkey2 : ∀ (W W' : World) (r' : Rf) (N' : List Rk) (C' : List Int), All w W' tb bm ub bu r' f1 N' C' (k + 1) k → Calls Tryz.prog 11 #[pv x] W fun e w' => e = .returned (kv (Pp.tx x) x.1.1) ∧ Gr W w' := fun W _ _ _ _ _ => Pp.key_any x W
        have hse : ∀ q : Int, (q != q) = false := fun q => by simp
        clear hradd hs hcd hf1
        go_region_held3 (fun W => (W.cell? ⟨bo, 0, none⟩ = some (.int .i64 x.1.1) ∧ W.cell? ⟨bo, 1, none⟩ = some (.int .u8 x.1.2.1) ∧ W.cell? ⟨bo, 2, none⟩ = some (.int .u8 x.1.2.2) ∧ W.cell? ⟨bo, 3, none⟩ = some (.int .i64 n) ∧ bo < W.heap.size))
          (first | exact S0 | exact keepG _ _ (by assumption) (Gr.refl _).drew | exact keepM _ _ (by assumption) (by assumption) | exact keepG _ _ (by assumption) (by assumption) | exact keepO _ _ (by assumption) (by assumption) | exact keepB _ _ (by assumption) (by assumption))
          (first | (go_at_call 9; refine hadd.mono ?_; rintro e w4 ⟨rfl, ht4, hk4⟩) | (go_at_call 11; refine (hkey2 _ _ _ _ _ hA6).mono ?_; rintro e w8 ⟨rfl, g8⟩) | (go_at_call 11; refine (hkey _).mono ?_; rintro e w5 ⟨rfl, g5⟩) | (go_at_call 10; refine (hradd2 _ _ ht4 hk4 g5).mono ?_; rintro e w6 ⟨rfl, hk6, r6, N6, C6, hb6, hA6⟩) | (go_at_call 12; refine (hget _ _ _ _ hA6).mono ?_; rintro e w7 ⟨rfl, g7⟩) | (go_at_call 13; refine (hrget _ _ _ _ hb6 (hA6.kept (g7.trans g8).below)).mono ?_; rintro e w9 ⟨rfl, g9⟩) | (go_at_call 14; refine (hpd _ _ _ _ hb6 (hA6.kept ((g7.trans g8).trans g9).below)).mono ?_; rintro e w10 ⟨rfl, hb10⟩))
        have HA10 : Hid (All w w10 tb bm ub bu r6 f1 N6 C6 (k + 1) k) := (hA6.kept ((g7.trans g8).trans g9).below).kept hb10
        have hrb6 : r6.b = rb := hb6.trans hrb
        clear hA6 hb6 hk6 g5 g7 g8 g9 hb10 ht4 hk4 hadd hkey hkey2 hradd2 hget hrget hpd keepK keepG keepB keepM keepO HAd S0
        have HA11 : Hid (All w (w10.alloc (.cells #[.int .i64 (k : Int), .int .u64 0, .int .u64 0, .int .u64 0] 40)) tb bm ub bu r6 f1 N6 C6 (k + 1) k) := HA10.out.kept ((Gr.refl _).alloc _).below
        have hwk : wrap64 ((k : Int) + 1) = (k : Int) + 1 := by unfold wrap64; omega
        have hua := Mm.add_any (st ⟨k, by omega⟩) ((k : Int) + 1) _ HA11.out.u (by unfold maxLen; omega)
        rw [(fu_add k hkm).1, (fu_add k hkm).2] at hua
        go_wp2_with fail
        refine hua.mono ?_
        rintro e w12 ⟨rfl, hu12, hk12⟩
        have HA12 : Hid (All w w12 tb bm ub bu r6 f1 N6 C6 (k + 1) (k + 1)) := HA11.out.stamp hu12 hk12
        have bst : w10.heap.size < w12.heap.size := Nat.lt_of_lt_of_le (by simp) hk12.size
        have bx : ∀ j y, [Value.int .i64 (k : Int), .int .u64 0, .int .u64 0, .int .u64 0][j]? = some y → w12.cell? ⟨w10.heap.size, j, none⟩ = some y := fun j y hj => by
          have h1 := World.cell?_of_block (a := ⟨w10.heap.size, j, none⟩) (hk12.block w10.heap.size (by simp) (fun e => by have := HA10.out.u.ta.lt; omega))
          rw [h1]
          have := World.news_of_block (heap_alloc_new w10 (.cells #[.int .i64 (k : Int), .int .u64 0, .int .u64 0, .int .u64 0] 40)) j y hj
          rw [Q.addA, Nat.zero_add] at this
          exact this
        have q0 := bx 0 _ rfl
        have q1 := bx 1 _ rfl
        have q2 := bx 2 _ rfl
        have q3 := bx 3 _ rfl
        have hug := Mm.get_any (st ⟨k, by omega⟩) w12 HA12.out.u
        rw [fu_st, if_pos (by simp)] at hug
        clear bx hua hu12 hk12 HA11 HA10
        go_wp2_with fail
        refine hug.mono ?_
        rintro e w13 ⟨rfl, g13⟩
        have HA13 : Hid (All w w13 tb bm ub bu r6 f1 N6 C6 (k + 1) (k + 1)) := HA12.out.kept g13.below
        have hul := Mm.len_any w13 HA13.out.u
        have hse2 : ((k : Int) + 1 != (k : Int) + 1) = false := by simp
        clear hug g13 HA12
        go_wp2_with fail
        refine hul.mono ?_
        rintro e w14 ⟨ks, hks, rfl, rfl⟩
        rw [fu_len (by omega) hks]
        clear hks hul
        go_wp2
        exact ⟨⟨k + 1, by omega, by omega, by go_num, r6, f1, N6, C6, hrb6, HA13.out⟩, by simp [RowKit.intOf]; omega⟩
    · have hltz : ¬ (k : Int) < (l.length : Int) := by omega
      have HA2 : Hid (All w wr tb bm ub bu r f N C k k) := HA.out
      clear HA
      go_wp2_with fail
      have hks := Mm.keys_any _ HA2.out.u (by omega) (fun s hs => by obtain ⟨z, hz, _⟩ := fu_ne (by omega) hs; exact ⟨z, hz⟩)
      refine hks.mono ?_
      rintro e w5 ⟨vk, zs, hs5, rfl, ho5, -, hb5⟩
      have HA5 : Hid (All w w5 tb bm ub bu r f N C k k) := HA2.out.kept hb5
      rw [fu_sup (by omega) hs5] at ho5
      have hls : Q.Ls EM w5 vk ((zl k).map st) := Q.owns_ls (E := EM) ho5
      obtain ⟨pk, ck, rfl⟩ := hls.form
      rw [List.length_map, zl_length] at hls ⊢
      have HL5 : Hid (Q.Ls EM w5 (.slice pk k ck) ((zl k).map st)) := hls
      clear hks hs5 ho5 hb5 HA2 hls
      go_wp2_with fail
      go_loopw [93] (fun s93 wr => ∃ i : Nat, i ≤ k ∧ s93 = .int .i64 i ∧ Gr w5 wr) (fun s93 _ => k - (RowKit.intOf s93).toNat)
      case atStart => exact ⟨0, Nat.zero_le _, rfl, Gr.refl _⟩
      case round =>
        obtain ⟨i, hi, rfl, hgr⟩ := hrel
        by_cases hik : i < k
        · have hikz : (i : Int) < (k : Int) := by omega
          obtain ⟨b5, o5, c5, e5, z5, y0, y1, y2, y3⟩ := ls_atM (HL5.out.below hgr.below) (j := i) (p := st (zn i)) (by rw [List.getElem?_map, zl_get hik]; rfl)
          rw [List.length_map, zl_length] at e5
          simp only [Value.slice.injEq] at e5
          obtain ⟨rfl, -, rfl⟩ := e5
          have Y0 : wr.cell? ⟨b5, o5 + i * 4, none⟩ = some (.int .i64 (i : Int)) := by
            have h := y0
            have hz := zn_val (n := i) (by omega)
            simp only [st, hz] at h
            exact h
          have Y1 : wr.cell? ⟨b5, o5 + i * 4 + 1, none⟩ = some (.int .u64 0) := y1
          have Y2 : wr.cell? ⟨b5, o5 + i * 4 + 2, none⟩ = some (.int .u64 0) := y2
          have Y3 : wr.cell? ⟨b5, o5 + i * 4 + 3, none⟩ = some (.int .u64 0) := y3
          have hse : ((i : Int) != (i : Int)) = false := by simp
          clear y0 y1 y2 y3
          go_wp2
          exact ⟨⟨i + 1, by omega, by go_num, hgr.alloc _⟩, by simp [RowKit.intOf]; omega⟩
        · have hikz : ¬ (i : Int) < (k : Int) := by omega
          have hA6 := HA5.out.kept hgr.below
          have hpd := Pp.paired_any _ hA6.t hA6.rt hA6.rel (by omega)
          have hbl := hA6.below
          rw [show rp r = Value.pointer (some ⟨rb, 0, none⟩) by rw [← hrb]] at hpd
          clear hA6 HA5
          go_wp2_with fail
          refine hpd.mono ?_
          rintro e w9 ⟨rfl, hb9⟩
          go_wp2
          go_ret
          exact ⟨rfl, hbl.trans (hb9.mono hbl.size)⟩
end Go.Proofs.YthbdbmbdfhbeiaaGreat
