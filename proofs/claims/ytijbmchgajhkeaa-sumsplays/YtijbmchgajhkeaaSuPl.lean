import Derived.Test.YtijbmchgajhkeaaSuPy4
namespace Go.Proofs.Ytijbmchgajhkeaa
open Go.RowKit Go.Sort Go.Maps Go.Shelf
attribute [local go_sem ↓] Go.wp_at_zero Go.wp_at_succ
theorem op_cells {w : World} {b : Nat} {o : Opx} (h : w.heap[b]? = some (.cells #[.int .i64 o.k, .int .i64 o.i, .int .u64 o.t.1.1, .int .u64 o.t.1.2.1, .int .u64 o.t.1.2.2, .int .u64 o.r.1.1, .int .u64 o.r.2.1, .slice o.pf o.nF o.cf] 55 (0, 0))) :
    w.cell? ⟨b, 0, none⟩ = some (.int .i64 o.k) ∧ w.cell? ⟨b, 1, none⟩ = some (.int .i64 o.i) ∧ w.cell? ⟨b, 2, none⟩ = some (.int .u64 o.t.1.1) ∧ w.cell? ⟨b, 3, none⟩ = some (.int .u64 o.t.1.2.1) ∧ w.cell? ⟨b, 4, none⟩ = some (.int .u64 o.t.1.2.2) ∧ w.cell? ⟨b, 5, none⟩ = some (.int .u64 o.r.1.1) ∧ w.cell? ⟨b, 6, none⟩ = some (.int .u64 o.r.2.1) ∧ w.cell? ⟨b, 7, none⟩ = some (.slice o.pf o.nF o.cf) ∧ b < w.heap.size := by
  refine ⟨?_, ?_, ?_, ?_, ?_, ?_, ?_, ?_, (Array.getElem?_eq_some_iff.1 h).1⟩ <;> simp [World.cell?, h]
theorem wrI {q : Nat} (h : q < 2) : IntKind.i64.wrap (q : Int) = (q : Int) ∧ wrap64 (q : Int) = (q : Int) := by rw [IntKind.wrap_i64]; unfold wrap64; omega
set_option maxHeartbeats 32000000 in
set_option maxRecDepth 100000 in
theorem sumsPlays_any {p : Option Addr} {n c : Nat} {sc : List Opx} (w : World) (hs : Lw EO w (.slice p n c) sc) (hn : n = sc.length) (hnb : n ≤ 5864062014806) (hf : Fits w sc) :
    Calls Try.prog 5 #[.slice p n c] w fun e w' => e = .returned (.bool true) ∧ Below w.heap.size w w' := by
  have hmx : Try.prog.follows .mixedOrders = true := by kernel_rfl
  have HSC := hid hs
  have HN := hid hn
  have HFT := hid hf
  have hnb1 := hnb
  have hn1 := snew_any w
  clear hs hn hf
  go_enter Try.func5, Try.ntmps5
  go_wp2_with fail
  refine hn1.mono ?_
  rintro e w1 ⟨rfl, hS1, hg1⟩
  have hn2 := snew_any w1
  have HS1 := hid hS1
  have HG1 := hid hg1
  clear hn1 hS1 hg1
  go_wp2_with fail
  refine hn2.mono ?_
  rintro e w2 ⟨rfl, hS2, hg2⟩
  obtain ⟨W, hW⟩ : ∃ W, W = (((w2.alloc (.cells #[.pointer (some ⟨w.heap.size, 0, none⟩), .pointer (some ⟨w1.heap.size, 0, none⟩)] 24)).alloc (.cells #[.slice none 0 0] 52)).alloc (.cells #[.slice none 0 0] 52)).alloc (.cells #[.pointer (some ⟨w2.heap.size + 1, 0, none⟩), .pointer (some ⟨w2.heap.size + 2, 0, none⟩)] 50) := ⟨_, rfl⟩
  obtain ⟨gs, hgs⟩ : ∃ gs, gs = w2.heap.size := ⟨_, rfl⟩
  obtain ⟨gr, hgr⟩ : ∃ gr, gr = w2.heap.size + 3 := ⟨_, rfl⟩
  have HP : Hid (∃ s r S R A, Py w gs gr 0 0 s r S R A W) := by
    rw [hgs, hgr]
    exact ⟨_, _, _, _, _, Py.init HG1.out HS1.out hg2 hS2 hW⟩
  have hkn := known_any W
  clear hn2 hS2 hg2 HS1 HG1
  go_upto_region 3 with fail
  try simp only [World.heap_size_alloc]
  rw [← hW, ← hgr, ← hgs]
  clear hW hgs hgr
  go_wp2_with fail
  refine hkn.mono ?_
  rintro e w3 ⟨rfl, hb3⟩
  have HP3 : Hid (∃ s r S R A, Py w gs gr 0 0 s r S R A w3) := by
    obtain ⟨s, r, S, R, A, h⟩ := HP.out
    exact ⟨s, r, S, R, A, h.below hb3⟩
  clear hkn hb3 HP
  go_upto_block 0 with fail
  go_cut [2] (fun _ w' => Hid (∃ m s r S R A, m ≤ 300 ∧ Py w gs gr (3 * m) m s r S R A w'))
  case first =>
    go_wp2_with fail
    go_loopw [5, 6, 7, 23] (fun _ _ _ s23 wr => ∃ i : Nat, i ≤ n ∧ i ≤ 300 ∧ s23 = .int .i64 (i : Nat) ∧ Hid (∃ s r S R A, Py w gs gr (3 * i) i s r S R A wr)) (fun _ _ _ s23 _ => n - (RowKit.intOf s23).toNat)
    case atStart => exact ⟨0, Nat.zero_le _, Nat.zero_le _, rfl, HP3.out⟩
    case round =>
      clear HP3
      obtain ⟨i, hi, hi3, rfl, HI⟩ := hrel
      obtain ⟨s, r, S, R, A, hPy⟩ := HI.out
      by_cases hlt : i < n
      · have hz : (i : Int) < (n : Int) := by omega
        have hi0 : (0 : Int) ≤ (i : Int) := by omega
        obtain ⟨o, ho⟩ : ∃ o, sc[i]? = some o := ⟨sc[i]'(by have := HN.out; omega), by simp⟩
        obtain ⟨b1, o1, c1, e1, l1, x0, x1, x2, x3, x4, x5, x6, x7⟩ := ((HSC.out.below hPy.bl).ls ho).atO ho
        simp only [Value.slice.injEq] at e1
        obtain ⟨rfl, -, rfl⟩ := e1
        obtain ⟨F, hLw, hnF, hFb⟩ := HFT.out i o ho
        obtain ⟨W5, hW5⟩ : ∃ W5, W5 = wr.alloc (.cells #[.int .i64 o.k, .int .i64 o.i, .int .u64 o.t.1.1, .int .u64 o.t.1.2.1, .int .u64 o.t.1.2.2, .int .u64 o.r.1.1, .int .u64 o.r.2.1, .slice o.pf o.nF o.cf] 55) := ⟨_, rfl⟩
        obtain ⟨X, hX⟩ : ∃ X, X = wr.heap.size := ⟨_, rfl⟩
        have G5 : Gr wr W5 := by rw [hW5]; exact (Gr.refl _).alloc _
        have HBO : Hid (W5.heap[X]? = some (.cells #[.int .i64 o.k, .int .i64 o.i, .int .u64 o.t.1.1, .int .u64 o.t.1.2.1, .int .u64 o.t.1.2.2, .int .u64 o.r.1.1, .int .u64 o.r.2.1, .slice o.pf o.nF o.cf] 55 (0, 0))) := by rw [hW5, hX]; exact heap_new' _ _
        have P5 := hid (hPy.below G5.below)
        have HNX : Hid (∀ j, j < 2 → ¬ S j X ∧ ¬ R j X) := fun j hj => ⟨fun h => by have := (hPy.own j hj X (.inl h)).2.1; omega, fun h => by have := (hPy.own j hj X (.inr h)).2.1; omega⟩
        have HXN : Hid (X ≠ gs ∧ X ≠ gr) := ⟨fun e => by have := (Array.getElem?_eq_some_iff.1 hPy.cs).1; omega, fun e => by have := (Array.getElem?_eq_some_iff.1 hPy.cr).1; omega⟩
        have HLW := hid hLw
        have HNF := hid hnF
        obtain ⟨y0, y1, y2, y3, y4, y5, y6, y7, yz⟩ := op_cells HBO.out
        clear ho HI hPy G5 hLw hnF
        go_upto_region 8 with fail
        rw [← hW5, ← hX]
        clear hW5 hX x0 x1 x2 x3 x4 x5 x6 x7 l1
        by_cases h300 : i = 300
        · have hb3 : ((i : Int) == 300) = true := by simp [h300]
          have HE : Hid (∃ m s r S R A, m ≤ 300 ∧ Py w gs gr (3 * m) m s r S R A W5) := ⟨i, s, r, S, R, A, hi3, P5.out⟩
          go_wp2_with fail
          go_meet
          exact HE.out
        · have hb3 : ((i : Int) == 300) = false := by simp; omega
          go_upto_region 9 with fail
          go_cut [7] (fun s7 w' => s7 = .int .i64 ((ix o.i : Nat) : Int) ∧ w' = W5)
          case first =>
            rcases rem_cases o.i with h | h | h
            · go_wp2_with fail
              go_meet
              exact ⟨by rw [ix_ok.1 h]; rfl, rfl⟩
            · go_wp2_with fail
              go_meet
              exact ⟨by rw [ix_ok.2.1 h]; rfl, rfl⟩
            · go_wp2_with fail
              go_meet
              exact ⟨by rw [ix_ok.2.2 h]; rfl, rfl⟩
          case rest =>
            obtain ⟨rfl, hwc⟩ := hcut
            rw [hwc]
            clear hwc
            obtain ⟨j, hj⟩ : ∃ j, j = ix o.i := ⟨_, rfl⟩
            have hj2 : j < 2 := by rw [hj]; exact ix_lt _
            rw [← hj]
            clear hj
            obtain ⟨jo, hjo⟩ : ∃ q, q = 1 - j := ⟨_, rfl⟩
            have hjo2 : jo < 2 := by omega
            have hjne : j ≠ jo := by omega
            have hjz0 : (0 : Int) ≤ (j : Int) := by omega
            have hjz : (j : Int) < 2 := by omega
            have hqz : (1 : Int) - (j : Int) = (jo : Int) := by omega
            have hqz0 : (0 : Int) ≤ (jo : Int) := by omega
            have hqz2 : (jo : Int) < 2 := by omega
            clear hjo
            have hqw := (wrI hjo2).1
            have hqw2 := (wrI hjo2).2
            go_upto_if 37 with fail
            go_cut [2] (fun _ w' => Hid (∃ s r S R A, Py w gs gr (3 * i) i s r S R A w' ∧ w'.heap[X]? = some (.cells #[.int .i64 o.k, .int .i64 o.i, .int .u64 o.t.1.1, .int .u64 o.t.1.2.1, .int .u64 o.t.1.2.2, .int .u64 o.r.1.1, .int .u64 o.r.2.1, .slice o.pf o.nF o.cf] 55 (0, 0)) ∧ ∀ q, q < 2 → ¬ S q X ∧ ¬ R q X))
            case first =>
              by_cases h3 : o.k = 3
              · have k3 : ((o.k : Int) == 3) = true := by simp [h3]
                have cso := P5.out.cellS hjo2
                have zS := (Array.getElem?_eq_some_iff.1 P5.out.cs).1
                have zR := (Array.getElem?_eq_some_iff.1 P5.out.cr).1
                have hcp := scopy_any W5 (P5.out.su jo hjo2) (by omega)
                clear h3
                go_wp2_with fail
                refine hcp.mono ?_
                rintro e w6 ⟨sc', rfl, h6⟩
                have hcs6 := (h6.out.2.block gs zS).trans P5.out.cs
                have csj6 : w6.cell? ⟨gs, j, none⟩ = some (.pointer (some ⟨s j, 0, none⟩)) := by rcases two_cases hj2 with rfl | rfl <;> simp [World.cell?, hcs6]
                have fz6 : w6.frozen? ⟨gs, j, none⟩ = false := by simp [World.frozen?, hcs6]
                have zS6 := (Array.getElem?_eq_some_iff.1 hcs6).1
                obtain ⟨a1, a2, a3⟩ := setCell_blk (k := j) (v := .pointer (some ⟨sc', 0, none⟩)) hcs6
                obtain ⟨w7, hw7⟩ : ∃ w7, w7 = w6.setCell ⟨gs, j, none⟩ (.pointer (some ⟨sc', 0, none⟩)) := ⟨_, rfl⟩
                rw [← hw7] at a1 a2
                have C7 : Hid (w7.heap[gs]? = some (.cells #[.pointer (some ⟨if 0 = j then sc' else s 0, 0, none⟩), .pointer (some ⟨if 1 = j then sc' else s 1, 0, none⟩)] 24 (0, 0))) := by
                  show _ = _
                  rw [a1]
                  rcases two_cases hj2 with rfl | rfl <;> rfl
                have K7 : Hid (Kp (fun k => k = gs) w6 w7) := a2
                have hR7 : Rs w7 (R jo) (r jo) (A jo) := ((P5.out.ru jo hjo2).below h6.out.2).kp a2 (fun k h7 h8 => (P5.out.own jo hjo2 k (.inr h7)).2.2.1 h8)
                have hrc := rcopy_any w7 hR7 (by have := P5.out.len jo hjo2; omega)
                have hcr7 := (a2.block gr (Nat.lt_of_lt_of_le zR h6.out.2.size) (fun e => P5.out.lists.2.2 e.symm)).trans ((h6.out.2.block gr zR).trans P5.out.cr)
                have cro : w7.cell? ⟨gr, jo, none⟩ = some (.pointer (some ⟨r jo, 0, none⟩)) := by rcases two_cases hjo2 with rfl | rfl <;> simp [World.cell?, hcr7]
                have zR7 := (Array.getElem?_eq_some_iff.1 hcr7).1
                have BX7 : Hid (w7.heap[X]? = some (.cells #[.int .i64 o.k, .int .i64 o.i, .int .u64 o.t.1.1, .int .u64 o.t.1.2.1, .int .u64 o.t.1.2.2, .int .u64 o.r.1.1, .int .u64 o.r.2.1, .slice o.pf o.nF o.cf] 55 (0, 0))) := (a2.block X (Nat.lt_of_lt_of_le yz h6.out.2.size) HXN.out.1).trans ((h6.out.2.block X yz).trans HBO.out)
                clear hcp a1 a2 a3 hcs6 hR7 cso
                go_upto_region 12 with fail
                rw [← hw7]
                clear hw7 csj6 fz6 zS6
                go_wp2_with fail
                refine hrc.mono ?_
                rintro e w8 ⟨rc', rfl, h8⟩
                have hcr8 := (h8.out.2.block gr zR7).trans hcr7
                have crj8 : w8.cell? ⟨gr, j, none⟩ = some (.pointer (some ⟨r j, 0, none⟩)) := by rcases two_cases hj2 with rfl | rfl <;> simp [World.cell?, hcr8]
                have fz8 : w8.frozen? ⟨gr, j, none⟩ = false := by simp [World.frozen?, hcr8]
                have zR8 := (Array.getElem?_eq_some_iff.1 hcr8).1
                obtain ⟨a1, a2, a3⟩ := setCell_blk (k := j) (v := .pointer (some ⟨rc', 0, none⟩)) hcr8
                obtain ⟨w9, hw9⟩ : ∃ w9, w9 = w8.setCell ⟨gr, j, none⟩ (.pointer (some ⟨rc', 0, none⟩)) := ⟨_, rfl⟩
                rw [← hw9] at a1 a2
                have C9 : Hid (w9.heap[gr]? = some (.cells #[.pointer (some ⟨if 0 = j then rc' else r 0, 0, none⟩), .pointer (some ⟨if 1 = j then rc' else r 1, 0, none⟩)] 50 (0, 0))) := by
                  show _ = _
                  rw [a1]
                  rcases two_cases hj2 with rfl | rfl <;> rfl
                have BX9 : Hid (w9.heap[X]? = some (.cells #[.int .i64 o.k, .int .i64 o.i, .int .u64 o.t.1.1, .int .u64 o.t.1.2.1, .int .u64 o.t.1.2.2, .int .u64 o.r.1.1, .int .u64 o.r.2.1, .slice o.pf o.nF o.cf] 55 (0, 0))) := (a2.block X (Nat.lt_of_lt_of_le (Array.getElem?_eq_some_iff.1 BX7.out).1 h8.out.2.size) HXN.out.2).trans ((h8.out.2.block X (Array.getElem?_eq_some_iff.1 BX7.out).1).trans BX7.out)
                have HE : Hid (∃ s r S R A, Py w gs gr (3 * i) i s r S R A w9 ∧ w9.heap[X]? = some (.cells #[.int .i64 o.k, .int .i64 o.i, .int .u64 o.t.1.1, .int .u64 o.t.1.2.1, .int .u64 o.t.1.2.2, .int .u64 o.r.1.1, .int .u64 o.r.2.1, .slice o.pf o.nF o.cf] 55 (0, 0)) ∧ ∀ q, q < 2 → ¬ S q X ∧ ¬ R q X) := by
                  refine ⟨_, _, _, _, _, P5.out.copy hj2 hjo2 hjne h6.out.1 h6.out.2 C7.out K7.out h8.out.1 h8.out.2 C9.out a2, BX9.out, fun q hq => ⟨fun h => ?_, fun h => ?_⟩⟩
                  · by_cases e : q = j
                    · rw [if_pos e] at h
                      have := h.1
                      omega
                    · rw [if_neg e] at h
                      exact (HNX.out q hq).1 h
                  · by_cases e : q = j
                    · rw [if_pos e] at h
                      have h1 := h.1
                      have h2 := h6.out.2.size
                      have h3 := K7.out.size
                      omega
                    · rw [if_neg e] at h
                      exact (HNX.out q hq).2 h
                clear hrc a1 a2 a3 hcr8
                go_wp2_with fail
                rw [← hw9]
                go_meet
                exact HE.out
              · have k3 : ((o.k : Int) == 3) = false := by simp [h3]
                go_wp2_with fail
                all_goals go_meet
                all_goals exact ⟨s, r, S, R, A, P5.out, HBO.out, HNX.out⟩
            case rest =>
              obtain ⟨W6, hW6⟩ : ∃ W6, W6 = wc := ⟨_, rfl⟩
              rw [← hW6] at hcut ⊢
              clear hW6 P5 HBO HNX y0 y1 y2 y3 y4 y5 y6 y7 yz
              obtain ⟨s, r, S, R, A, hP6, hX6, hN6⟩ := hcut.out
              have P6 := hid hP6
              have HN6 := hid hN6
              have hS0 : (fun W : World => W.heap[gs]? = some (.cells #[.pointer (some ⟨s 0, 0, none⟩), .pointer (some ⟨s 1, 0, none⟩)] 24 (0, 0)) ∧ W.heap[gr]? = some (.cells #[.pointer (some ⟨r 0, 0, none⟩), .pointer (some ⟨r 1, 0, none⟩)] 50 (0, 0)) ∧ W.heap[X]? = some (.cells #[.int .i64 o.k, .int .i64 o.i, .int .u64 o.t.1.1, .int .u64 o.t.1.2.1, .int .u64 o.t.1.2.2, .int .u64 o.r.1.1, .int .u64 o.r.2.1, .slice o.pf o.nF o.cf] 55 (0, 0))) W6.drew := ⟨hP6.cs, hP6.cr, hX6⟩
              clear hcut hP6 hX6 hN6
              go_upto_region 13 with fail
              refine wp_regionD (S := fun W => W.heap[gs]? = some (.cells #[.pointer (some ⟨s 0, 0, none⟩), .pointer (some ⟨s 1, 0, none⟩)] 24 (0, 0)) ∧ W.heap[gr]? = some (.cells #[.pointer (some ⟨r 0, 0, none⟩), .pointer (some ⟨r 1, 0, none⟩)] 50 (0, 0)) ∧ W.heap[X]? = some (.cells #[.int .i64 o.k, .int .i64 o.i, .int .u64 o.t.1.1, .int .u64 o.t.1.2.1, .int .u64 o.t.1.2.2, .int .u64 o.r.1.1, .int .u64 o.r.2.1, .slice o.pf o.nF o.cf] 55 (0, 0))) (D := []) hmx ?_
              refine' wpAnyD_take (i := 0) (oi := { dst := some 56, op := Go.Op.move (Go.Operand.tmp 3), type := 49, pos := "law.go:102", after := #[], guard := none }) (v := _) rfl (by kernel_rfl) (by kernel_rfl) (by kernel_rfl) (fun _ _ _ h => h) (by kernel_rfl) (Or.inl ⟨by rfl, ?hy1⟩) hS0 ?rest1
              case hy1 => (intro W hSw; go_simp; try (with_reducible rfl))
              try simp only [Act.put, List.setIfInBounds_toArray, List.set_cons_zero, List.set_cons_succ]
              refine' wpAnyD_take (i := 1) (oi := { dst := some 57, op := Go.Op.move (Go.Operand.tmp 7), type := 3, pos := "law.go:102", after := #[], guard := none }) (v := _) rfl (by kernel_rfl) (by kernel_rfl) (by kernel_rfl) (fun _ _ _ h => h) (by kernel_rfl) (Or.inl ⟨by rfl, ?hy2⟩) hS0 ?rest2
              case hy2 => (intro W hSw; go_simp; try (with_reducible rfl))
              try simp only [Act.put, List.setIfInBounds_toArray, List.set_cons_zero, List.set_cons_succ]
              refine' wpAnyD_take (i := 2) (oi := { dst := some 58, op := Go.Op.indexAddr 49 (Go.Operand.tmp 56) (Go.Operand.tmp 57), type := 0, pos := "law.go:102", after := #[{ on := 0, ground := Go.Ground.data }, { on := 1, ground := Go.Ground.data }], guard := none }) (v := _) rfl (by kernel_rfl) (by kernel_rfl) (by kernel_rfl) (fun _ _ _ h => h) (by kernel_rfl) (Or.inl ⟨by rfl, ?hy3⟩) hS0 ?rest3
              case hy3 => (intro W hSw; go_simp; try (with_reducible rfl))
              try simp only [Act.put, List.setIfInBounds_toArray, List.set_cons_zero, List.set_cons_succ]
              refine' wpAnyD_take (i := 3) (oi := { dst := some 59, op := Go.Op.load 24 (Go.Operand.tmp 58), type := 24, pos := "law.go:102", after := #[{ on := 2, ground := Go.Ground.data }], guard := none }) (v := _) rfl (by kernel_rfl) (by kernel_rfl) (by kernel_rfl) (fun _ _ _ h => h) (by kernel_rfl) (Or.inl ⟨by rfl, ?hy4⟩) hS0 ?rest4
              case hy4 => (intro W hSw; obtain ⟨q1, q2, q3⟩ := hSw; have c1 : W.cell? ⟨gs, j, none⟩ = some (.pointer (some ⟨s j, 0, none⟩)) := (by rcases two_cases hj2 with rfl | rfl <;> simp [World.cell?, q1]); have z1 := (Array.getElem?_eq_some_iff.1 q1).1; go_simp; try (with_reducible rfl))
              try simp only [Act.put, List.setIfInBounds_toArray, List.set_cons_zero, List.set_cons_succ]
              refine' wpAnyD_take (i := 4) (oi := { dst := some 60, op := Go.Op.move (Go.Operand.tmp 4), type := 53, pos := "law.go:102", after := #[], guard := none }) (v := _) rfl (by kernel_rfl) (by kernel_rfl) (by kernel_rfl) (fun _ _ _ h => h) (by kernel_rfl) (Or.inl ⟨by rfl, ?hy5⟩) hS0 ?rest5
              case hy5 => (intro W hSw; go_simp; try (with_reducible rfl))
              try simp only [Act.put, List.setIfInBounds_toArray, List.set_cons_zero, List.set_cons_succ]
              refine' wpAnyD_take (i := 5) (oi := { dst := some 61, op := Go.Op.move (Go.Operand.tmp 7), type := 3, pos := "law.go:102", after := #[], guard := none }) (v := _) rfl (by kernel_rfl) (by kernel_rfl) (by kernel_rfl) (fun _ _ _ h => h) (by kernel_rfl) (Or.inl ⟨by rfl, ?hy6⟩) hS0 ?rest6
              case hy6 => (intro W hSw; go_simp; try (with_reducible rfl))
              try simp only [Act.put, List.setIfInBounds_toArray, List.set_cons_zero, List.set_cons_succ]
              refine' wpAnyD_take (i := 6) (oi := { dst := some 62, op := Go.Op.indexAddr 53 (Go.Operand.tmp 60) (Go.Operand.tmp 61), type := 0, pos := "law.go:102", after := #[{ on := 4, ground := Go.Ground.data }, { on := 5, ground := Go.Ground.data }], guard := none }) (v := _) rfl (by kernel_rfl) (by kernel_rfl) (by kernel_rfl) (fun _ _ _ h => h) (by kernel_rfl) (Or.inl ⟨by rfl, ?hy7⟩) hS0 ?rest7
              case hy7 => (intro W hSw; go_simp; try (with_reducible rfl))
              try simp only [Act.put, List.setIfInBounds_toArray, List.set_cons_zero, List.set_cons_succ]
              refine' wpAnyD_take (i := 7) (oi := { dst := some 63, op := Go.Op.load 50 (Go.Operand.tmp 62), type := 50, pos := "law.go:102", after := #[{ on := 6, ground := Go.Ground.data }], guard := none }) (v := _) rfl (by kernel_rfl) (by kernel_rfl) (by kernel_rfl) (fun _ _ _ h => h) (by kernel_rfl) (Or.inl ⟨by rfl, ?hy8⟩) hS0 ?rest8
              case hy8 => (intro W hSw; obtain ⟨q1, q2, q3⟩ := hSw; have c1 : W.cell? ⟨gr, j, none⟩ = some (.pointer (some ⟨r j, 0, none⟩)) := (by rcases two_cases hj2 with rfl | rfl <;> simp [World.cell?, q2]); have z1 := (Array.getElem?_eq_some_iff.1 q2).1; go_simp; try (with_reducible rfl))
              try simp only [Act.put, List.setIfInBounds_toArray, List.set_cons_zero, List.set_cons_succ]
              refine' wpAnyD_take (i := 8) (oi := { dst := some 64, op := Go.Op.load 55 (Go.Operand.tmp 6), type := 55, pos := "law.go:102", after := #[], guard := none }) (v := _) rfl (by kernel_rfl) (by kernel_rfl) (by kernel_rfl) (fun _ _ _ h => h) (by kernel_rfl) (Or.inl ⟨by rfl, ?hy9⟩) hS0 ?rest9
              case hy9 => (intro W hSw; obtain ⟨q1, q2, q3⟩ := hSw; obtain ⟨y0, y1, y2, y3, y4, y5, y6, y7, yz⟩ := op_cells q3; go_simp; try (with_reducible rfl))
              try simp only [Act.put, List.setIfInBounds_toArray, List.set_cons_zero, List.set_cons_succ]
              refine wpAnyD_one (i := 9) (o := { dst := some 65, op := Go.Op.call { callee := Go.Callee.value (Go.Operand.func 20), args := #[Go.Operand.tmp 59, Go.Operand.tmp 63, Go.Operand.tmp 64], argTypes := #[24, 50, 55] }, type := 4, pos := "law.go:102", after := #[{ on := 3, ground := Go.Ground.data }, { on := 7, ground := Go.Ground.data }, { on := 8, ground := Go.Ground.data }], guard := none }) (by kernel_rfl) rfl (fun K hK => ?_)
              go_simp
              have PD := P6.out.below (Gr.refl W6).drew.below
              refine (step_any (F := F) W6.drew (PD.su j hj2) (PD.ru j hj2) (PD.sr j j hj2 hj2) (fun k h => (PD.own j hj2 k (.inl h)).2.1) (fun k h => (PD.own j hj2 k (.inr h)).2.1) (by omega) (by have := PD.len j hj2; omega) (HLW.out.below PD.bl) HNF.out hFb).mono ?_
              rintro e w9 ⟨rfl, h9⟩
              obtain ⟨S', R', A', hP9, hk9⟩ := PD.step hj2 h9.out
              have hS9 : (fun W : World => W.heap[gs]? = some (.cells #[.pointer (some ⟨s 0, 0, none⟩), .pointer (some ⟨s 1, 0, none⟩)] 24 (0, 0)) ∧ W.heap[gr]? = some (.cells #[.pointer (some ⟨r 0, 0, none⟩), .pointer (some ⟨r 1, 0, none⟩)] 50 (0, 0)) ∧ W.heap[X]? = some (.cells #[.int .i64 o.k, .int .i64 o.i, .int .u64 o.t.1.1, .int .u64 o.t.1.2.1, .int .u64 o.t.1.2.2, .int .u64 o.r.1.1, .int .u64 o.r.2.1, .slice o.pf o.nF o.cf] 55 (0, 0))) w9 := ⟨hP9.cs, hP9.cr, (hk9.block X (Array.getElem?_eq_some_iff.1 hS0.2.2).1 (fun h => h.elim (HN6.out j hj2).1 (HN6.out j hj2).2)).trans hS0.2.2⟩
              go_wp2_with fail
              refine hK.out _ _ (fun hD => hS9) ?_
              clear hK K
              try simp only [Act.put, List.setIfInBounds_toArray, List.set_cons_zero, List.set_cons_succ]
              refine' wpAnyD_take (i := 10) (oi := { dst := some 66, op := Go.Op.unOp Go.UnOp.not 4 (Go.Operand.tmp 65), type := 4, pos := "law.go:102", after := #[{ on := 9, ground := Go.Ground.data }], guard := none }) (v := _) rfl (by kernel_rfl) (by kernel_rfl) (by kernel_rfl) (fun _ _ _ h => h) (by kernel_rfl) (Or.inl ⟨by rfl, ?hy11⟩) hS9 ?rest11
              case hy11 => (intro W hSw; go_simp; try (with_reducible rfl))
              try simp only [Act.put, List.setIfInBounds_toArray, List.set_cons_zero, List.set_cons_succ]
              refine' wpAnyD_take (i := 11) (oi := { dst := some 67, op := Go.Op.move (Go.Operand.tmp 66), type := 4, pos := "law.go:102", after := #[{ on := 10, ground := Go.Ground.data }, { on := 9, ground := Go.Ground.chain }], guard := none }) (v := _) rfl (by kernel_rfl) (by kernel_rfl) (by kernel_rfl) (fun _ _ _ h => h) (by kernel_rfl) (Or.inl ⟨by rfl, ?hy12⟩) hS9 ?rest12
              case hy12 => (intro W hSw; go_simp; try (with_reducible rfl))
              try simp only [Act.put, List.setIfInBounds_toArray, List.set_cons_zero, List.set_cons_succ]
              refine' wpAnyD_take (i := 12) (oi := { dst := some 68, op := Go.Op.move (Go.Operand.tmp 3), type := 49, pos := "law.go:102", after := #[{ on := 11, ground := Go.Ground.guard }], guard := some (11, false) }) (v := _) rfl (by kernel_rfl) (by kernel_rfl) (by kernel_rfl) (fun _ _ _ h => h) (by kernel_rfl) (Or.inl ⟨by rfl, ?hy13⟩) hS9 ?rest13
              case hy13 => (intro W hSw; go_simp; try (with_reducible rfl))
              try simp only [Act.put, List.setIfInBounds_toArray, List.set_cons_zero, List.set_cons_succ]
              refine' wpAnyD_take (i := 13) (oi := { dst := some 69, op := Go.Op.move (Go.Operand.tmp 7), type := 3, pos := "law.go:102", after := #[{ on := 11, ground := Go.Ground.guard }], guard := some (11, false) }) (v := _) rfl (by kernel_rfl) (by kernel_rfl) (by kernel_rfl) (fun _ _ _ h => h) (by kernel_rfl) (Or.inl ⟨by rfl, ?hy14⟩) hS9 ?rest14
              case hy14 => (intro W hSw; go_simp; try (with_reducible rfl))
              try simp only [Act.put, List.setIfInBounds_toArray, List.set_cons_zero, List.set_cons_succ]
              refine' wpAnyD_take (i := 14) (oi := { dst := some 70, op := Go.Op.indexAddr 49 (Go.Operand.tmp 68) (Go.Operand.tmp 69), type := 0, pos := "law.go:102", after := #[{ on := 12, ground := Go.Ground.data }, { on := 13, ground := Go.Ground.data }, { on := 11, ground := Go.Ground.guard }], guard := some (11, false) }) (v := _) rfl (by kernel_rfl) (by kernel_rfl) (by kernel_rfl) (fun _ _ _ h => h) (by kernel_rfl) (Or.inl ⟨by rfl, ?hy15⟩) hS9 ?rest15
              case hy15 => (intro W hSw; go_simp; try (with_reducible rfl))
              try simp only [Act.put, List.setIfInBounds_toArray, List.set_cons_zero, List.set_cons_succ]
              refine' wpAnyD_take (i := 15) (oi := { dst := some 71, op := Go.Op.load 24 (Go.Operand.tmp 70), type := 24, pos := "law.go:102", after := #[{ on := 14, ground := Go.Ground.data }, { on := 11, ground := Go.Ground.guard }], guard := some (11, false) }) (v := _) rfl (by kernel_rfl) (by kernel_rfl) (by kernel_rfl) (fun _ _ _ h => h) (by kernel_rfl) (Or.inl ⟨by rfl, ?hy16⟩) hS9 ?rest16
              case hy16 => (intro W hSw; obtain ⟨q1, q2, q3⟩ := hSw; have c1 : W.cell? ⟨gs, j, none⟩ = some (.pointer (some ⟨s j, 0, none⟩)) := (by rcases two_cases hj2 with rfl | rfl <;> simp [World.cell?, q1]); have z1 := (Array.getElem?_eq_some_iff.1 q1).1; go_simp; try (with_reducible rfl))
              try simp only [Act.put, List.setIfInBounds_toArray, List.set_cons_zero, List.set_cons_succ]
              refine' wpAnyD_take (i := 17) (oi := { dst := some 73, op := Go.Op.move (Go.Operand.tmp 4), type := 53, pos := "law.go:102", after := #[{ on := 11, ground := Go.Ground.guard }], guard := some (11, false) }) (v := _) rfl (by kernel_rfl) (by kernel_rfl) (by kernel_rfl) (fun _ _ _ h => h) (by kernel_rfl) (Or.inl ⟨by rfl, ?hy17⟩) hS9 ?rest17
              case hy17 => (intro W hSw; go_simp; try (with_reducible rfl))
              try simp only [Act.put, List.setIfInBounds_toArray, List.set_cons_zero, List.set_cons_succ]
              refine' wpAnyD_take (i := 18) (oi := { dst := some 74, op := Go.Op.move (Go.Operand.tmp 7), type := 3, pos := "law.go:102", after := #[{ on := 11, ground := Go.Ground.guard }], guard := some (11, false) }) (v := _) rfl (by kernel_rfl) (by kernel_rfl) (by kernel_rfl) (fun _ _ _ h => h) (by kernel_rfl) (Or.inl ⟨by rfl, ?hy18⟩) hS9 ?rest18
              case hy18 => (intro W hSw; go_simp; try (with_reducible rfl))
              try simp only [Act.put, List.setIfInBounds_toArray, List.set_cons_zero, List.set_cons_succ]
              refine' wpAnyD_take (i := 19) (oi := { dst := some 75, op := Go.Op.indexAddr 53 (Go.Operand.tmp 73) (Go.Operand.tmp 74), type := 0, pos := "law.go:102", after := #[{ on := 17, ground := Go.Ground.data }, { on := 18, ground := Go.Ground.data }, { on := 11, ground := Go.Ground.guard }], guard := some (11, false) }) (v := _) rfl (by kernel_rfl) (by kernel_rfl) (by kernel_rfl) (fun _ _ _ h => h) (by kernel_rfl) (Or.inl ⟨by rfl, ?hy19⟩) hS9 ?rest19
              case hy19 => (intro W hSw; go_simp; try (with_reducible rfl))
              try simp only [Act.put, List.setIfInBounds_toArray, List.set_cons_zero, List.set_cons_succ]
              refine' wpAnyD_take (i := 20) (oi := { dst := some 76, op := Go.Op.load 50 (Go.Operand.tmp 75), type := 50, pos := "law.go:102", after := #[{ on := 19, ground := Go.Ground.data }, { on := 11, ground := Go.Ground.guard }], guard := some (11, false) }) (v := _) rfl (by kernel_rfl) (by kernel_rfl) (by kernel_rfl) (fun _ _ _ h => h) (by kernel_rfl) (Or.inl ⟨by rfl, ?hy20⟩) hS9 ?rest20
              case hy20 => (intro W hSw; obtain ⟨q1, q2, q3⟩ := hSw; have c1 : W.cell? ⟨gr, j, none⟩ = some (.pointer (some ⟨r j, 0, none⟩)) := (by rcases two_cases hj2 with rfl | rfl <;> simp [World.cell?, q2]); have z1 := (Array.getElem?_eq_some_iff.1 q2).1; go_simp; try (with_reducible rfl))
              try simp only [Act.put, List.setIfInBounds_toArray, List.set_cons_zero, List.set_cons_succ]
              refine wpAnyD_one (i := 16) (o := { dst := some 72, op := Go.Op.call { callee := Go.Callee.value (Go.Operand.func 9), args := #[Go.Operand.tmp 71], argTypes := #[24] }, type := 23, pos := "law.go:102", after := #[{ on := 15, ground := Go.Ground.data }, { on := 11, ground := Go.Ground.chain }, { on := 11, ground := Go.Ground.guard }], guard := some (11, false) }) (by kernel_rfl) rfl (fun K hK => ?_)
              go_simp
              refine (times_any w9 (hP9.su j hj2) (by omega)).mono ?_
              rintro e w10 ⟨v10, rfl, hr10, hb10, -⟩
              obtain ⟨p10, c10, hv10⟩ := owns_form hr10
              subst hv10
              have hP10 := hP9.below hb10
              have hS10 : (fun W : World => W.heap[gs]? = some (.cells #[.pointer (some ⟨s 0, 0, none⟩), .pointer (some ⟨s 1, 0, none⟩)] 24 (0, 0)) ∧ W.heap[gr]? = some (.cells #[.pointer (some ⟨r 0, 0, none⟩), .pointer (some ⟨r 1, 0, none⟩)] 50 (0, 0)) ∧ W.heap[X]? = some (.cells #[.int .i64 o.k, .int .i64 o.i, .int .u64 o.t.1.1, .int .u64 o.t.1.2.1, .int .u64 o.t.1.2.2, .int .u64 o.r.1.1, .int .u64 o.r.2.1, .slice o.pf o.nF o.cf] 55 (0, 0))) w10 := ⟨hP10.cs, hP10.cr, (hb10.block X (Array.getElem?_eq_some_iff.1 hS9.2.2).1).trans hS9.2.2⟩
              go_wp2_with fail
              refine hK.out _ _ (fun hD => hS10) ?_
              clear hK K
              try simp only [Act.put, List.setIfInBounds_toArray, List.set_cons_zero, List.set_cons_succ]
              refine wpAnyD_one (i := 21) (o := { dst := some 77, op := Go.Op.call { callee := Go.Callee.value (Go.Operand.func 21), args := #[Go.Operand.tmp 76], argTypes := #[50] }, type := 23, pos := "law.go:102", after := #[{ on := 20, ground := Go.Ground.data }, { on := 16, ground := Go.Ground.chain }, { on := 11, ground := Go.Ground.guard }], guard := some (11, false) }) (by kernel_rfl) rfl (fun K hK => ?_)
              go_simp
              refine (rtimes_any w10 (hP10.ru j hj2) (by have := hP10.len j hj2; omega)).mono ?_
              rintro e w11 ⟨v11, rfl, hr11, hb11⟩
              obtain ⟨p11, c11, hv11⟩ := owns_form hr11
              subst hv11
              have hP11 := hP10.below hb11
              have hS11 : (fun W : World => W.heap[gs]? = some (.cells #[.pointer (some ⟨s 0, 0, none⟩), .pointer (some ⟨s 1, 0, none⟩)] 24 (0, 0)) ∧ W.heap[gr]? = some (.cells #[.pointer (some ⟨r 0, 0, none⟩), .pointer (some ⟨r 1, 0, none⟩)] 50 (0, 0)) ∧ W.heap[X]? = some (.cells #[.int .i64 o.k, .int .i64 o.i, .int .u64 o.t.1.1, .int .u64 o.t.1.2.1, .int .u64 o.t.1.2.2, .int .u64 o.r.1.1, .int .u64 o.r.2.1, .slice o.pf o.nF o.cf] 55 (0, 0))) w11 := ⟨hP11.cs, hP11.cr, (hb11.block X (Array.getElem?_eq_some_iff.1 hS10.2.2).1).trans hS10.2.2⟩
              go_wp2_with fail
              refine hK.out _ _ (fun hD => hS11) ?_
              clear hK K
              try simp only [Act.put, List.setIfInBounds_toArray, List.set_cons_zero, List.set_cons_succ]
              refine wpAnyD_one (i := 22) (o := { dst := some 78, op := Go.Op.call { callee := Go.Callee.value (Go.Operand.func 8), args := #[Go.Operand.tmp 72, Go.Operand.tmp 77], argTypes := #[23, 23] }, type := 4, pos := "law.go:102", after := #[{ on := 16, ground := Go.Ground.data }, { on := 21, ground := Go.Ground.data }, { on := 21, ground := Go.Ground.chain }, { on := 11, ground := Go.Ground.guard }], guard := some (11, false) }) (by kernel_rfl) rfl (fun K hK => ?_)
              go_simp
              refine (times_eq w11 ((owns_lst hr10).below hb11) (owns_lst hr11) (by have h1 := tms_len (A' j); have h2 := hP9.len j hj2; omega)).mono ?_
              rintro e w12 ⟨rfl, hg12⟩
              have hP12 := hP11.below hg12.below
              have hS12 : (fun W : World => W.heap[gs]? = some (.cells #[.pointer (some ⟨s 0, 0, none⟩), .pointer (some ⟨s 1, 0, none⟩)] 24 (0, 0)) ∧ W.heap[gr]? = some (.cells #[.pointer (some ⟨r 0, 0, none⟩), .pointer (some ⟨r 1, 0, none⟩)] 50 (0, 0)) ∧ W.heap[X]? = some (.cells #[.int .i64 o.k, .int .i64 o.i, .int .u64 o.t.1.1, .int .u64 o.t.1.2.1, .int .u64 o.t.1.2.2, .int .u64 o.r.1.1, .int .u64 o.r.2.1, .slice o.pf o.nF o.cf] 55 (0, 0))) w12 := ⟨hP12.cs, hP12.cr, (hg12.below.block X (Array.getElem?_eq_some_iff.1 hS11.2.2).1).trans hS11.2.2⟩
              go_wp2_with fail
              refine hK.out _ _ (fun hD => hS12) ?_
              clear hK K
              try simp only [Act.put, List.setIfInBounds_toArray, List.set_cons_zero, List.set_cons_succ]
              refine' wpAnyD_take (i := 23) (oi := { dst := some 79, op := Go.Op.unOp Go.UnOp.not 4 (Go.Operand.tmp 78), type := 4, pos := "law.go:102", after := #[{ on := 22, ground := Go.Ground.data }, { on := 11, ground := Go.Ground.guard }], guard := some (11, false) }) (v := _) rfl (by kernel_rfl) (by kernel_rfl) (by kernel_rfl) (fun _ _ _ h => h) (by kernel_rfl) (Or.inl ⟨by rfl, ?hy24⟩) hS12 ?rest24
              case hy24 => (intro W hSw; go_simp; try (with_reducible rfl))
              try simp only [Act.put, List.setIfInBounds_toArray, List.set_cons_zero, List.set_cons_succ]
              refine' wpAnyD_take (i := 24) (oi := { dst := some 80, op := Go.Op.pick (Go.Operand.tmp 67) (Go.Operand.const (Go.Value.bool true)) (Go.Operand.tmp 79), type := 4, pos := "law.go:102", after := #[{ on := 11, ground := Go.Ground.data }, { on := 23, ground := Go.Ground.data }], guard := none }) (v := _) rfl (by kernel_rfl) (by kernel_rfl) (by kernel_rfl) (fun _ _ _ h => h) (by kernel_rfl) (Or.inl ⟨by rfl, ?hy25⟩) hS12 ?rest25
              case hy25 => (intro W hSw; go_simp; try (with_reducible rfl))
              try simp only [Act.put, List.setIfInBounds_toArray, List.set_cons_zero, List.set_cons_succ]
              refine' wpAnyD_take (i := 25) (oi := { dst := some 81, op := Go.Op.move (Go.Operand.tmp 80), type := 4, pos := "law.go:102", after := #[{ on := 24, ground := Go.Ground.data }, { on := 22, ground := Go.Ground.chain }], guard := none }) (v := _) rfl (by kernel_rfl) (by kernel_rfl) (by kernel_rfl) (fun _ _ _ h => h) (by kernel_rfl) (Or.inl ⟨by rfl, ?hy26⟩) hS12 ?rest26
              case hy26 => (intro W hSw; go_simp; try (with_reducible rfl))
              try simp only [Act.put, List.setIfInBounds_toArray, List.set_cons_zero, List.set_cons_succ]
              refine' wpAnyD_take (i := 26) (oi := { dst := some 82, op := Go.Op.move (Go.Operand.tmp 3), type := 49, pos := "law.go:102", after := #[{ on := 25, ground := Go.Ground.guard }], guard := some (25, false) }) (v := _) rfl (by kernel_rfl) (by kernel_rfl) (by kernel_rfl) (fun _ _ _ h => h) (by kernel_rfl) (Or.inl ⟨by rfl, ?hy27⟩) hS12 ?rest27
              case hy27 => (intro W hSw; go_simp; try (with_reducible rfl))
              try simp only [Act.put, List.setIfInBounds_toArray, List.set_cons_zero, List.set_cons_succ]
              refine' wpAnyD_take (i := 27) (oi := { dst := some 83, op := Go.Op.move (Go.Operand.tmp 7), type := 3, pos := "law.go:102", after := #[{ on := 25, ground := Go.Ground.guard }], guard := some (25, false) }) (v := _) rfl (by kernel_rfl) (by kernel_rfl) (by kernel_rfl) (fun _ _ _ h => h) (by kernel_rfl) (Or.inl ⟨by rfl, ?hy28⟩) hS12 ?rest28
              case hy28 => (intro W hSw; go_simp; try (with_reducible rfl))
              try simp only [Act.put, List.setIfInBounds_toArray, List.set_cons_zero, List.set_cons_succ]
              refine' wpAnyD_take (i := 28) (oi := { dst := some 84, op := Go.Op.binOp Go.BinOp.sub 3 (Go.Operand.const (Go.Value.int Go.IntKind.i64 1)) (Go.Operand.tmp 83) 3, type := 3, pos := "law.go:102", after := #[{ on := 27, ground := Go.Ground.data }, { on := 25, ground := Go.Ground.guard }], guard := some (25, false) }) (v := _) rfl (by kernel_rfl) (by kernel_rfl) (by kernel_rfl) (fun _ _ _ h => h) (by kernel_rfl) (Or.inl ⟨by rfl, ?hy29⟩) hS12 ?rest29
              case hy29 => (intro W hSw; go_simp; try (with_reducible rfl))
              try simp only [Act.put, List.setIfInBounds_toArray, List.set_cons_zero, List.set_cons_succ]
              refine' wpAnyD_take (i := 29) (oi := { dst := some 85, op := Go.Op.indexAddr 49 (Go.Operand.tmp 82) (Go.Operand.tmp 84), type := 0, pos := "law.go:102", after := #[{ on := 26, ground := Go.Ground.data }, { on := 28, ground := Go.Ground.data }, { on := 25, ground := Go.Ground.guard }], guard := some (25, false) }) (v := _) rfl (by kernel_rfl) (by kernel_rfl) (by kernel_rfl) (fun _ _ _ h => h) (by kernel_rfl) (Or.inl ⟨by rfl, ?hy30⟩) hS12 ?rest30
              case hy30 => (intro W hSw; go_simp; try (with_reducible rfl))
              try simp only [Act.put, List.setIfInBounds_toArray, List.set_cons_zero, List.set_cons_succ]
              refine' wpAnyD_take (i := 30) (oi := { dst := some 86, op := Go.Op.load 24 (Go.Operand.tmp 85), type := 24, pos := "law.go:102", after := #[{ on := 29, ground := Go.Ground.data }, { on := 25, ground := Go.Ground.guard }], guard := some (25, false) }) (v := _) rfl (by kernel_rfl) (by kernel_rfl) (by kernel_rfl) (fun _ _ _ h => h) (by kernel_rfl) (Or.inl ⟨by rfl, ?hy31⟩) hS12 ?rest31
              case hy31 => (intro W hSw; obtain ⟨q1, q2, q3⟩ := hSw; have c1 : W.cell? ⟨gs, jo, none⟩ = some (.pointer (some ⟨s jo, 0, none⟩)) := (by rcases two_cases hjo2 with rfl | rfl <;> simp [World.cell?, q1]); have z1 := (Array.getElem?_eq_some_iff.1 q1).1; go_simp; try (with_reducible rfl))
              try simp only [Act.put, List.setIfInBounds_toArray, List.set_cons_zero, List.set_cons_succ]
              refine' wpAnyD_take (i := 32) (oi := { dst := some 88, op := Go.Op.move (Go.Operand.tmp 4), type := 53, pos := "law.go:102", after := #[{ on := 25, ground := Go.Ground.guard }], guard := some (25, false) }) (v := _) rfl (by kernel_rfl) (by kernel_rfl) (by kernel_rfl) (fun _ _ _ h => h) (by kernel_rfl) (Or.inl ⟨by rfl, ?hy32⟩) hS12 ?rest32
              case hy32 => (intro W hSw; go_simp; try (with_reducible rfl))
              try simp only [Act.put, List.setIfInBounds_toArray, List.set_cons_zero, List.set_cons_succ]
              refine' wpAnyD_take (i := 33) (oi := { dst := some 89, op := Go.Op.move (Go.Operand.tmp 7), type := 3, pos := "law.go:102", after := #[{ on := 25, ground := Go.Ground.guard }], guard := some (25, false) }) (v := _) rfl (by kernel_rfl) (by kernel_rfl) (by kernel_rfl) (fun _ _ _ h => h) (by kernel_rfl) (Or.inl ⟨by rfl, ?hy33⟩) hS12 ?rest33
              case hy33 => (intro W hSw; go_simp; try (with_reducible rfl))
              try simp only [Act.put, List.setIfInBounds_toArray, List.set_cons_zero, List.set_cons_succ]
              refine' wpAnyD_take (i := 34) (oi := { dst := some 90, op := Go.Op.binOp Go.BinOp.sub 3 (Go.Operand.const (Go.Value.int Go.IntKind.i64 1)) (Go.Operand.tmp 89) 3, type := 3, pos := "law.go:102", after := #[{ on := 33, ground := Go.Ground.data }, { on := 25, ground := Go.Ground.guard }], guard := some (25, false) }) (v := _) rfl (by kernel_rfl) (by kernel_rfl) (by kernel_rfl) (fun _ _ _ h => h) (by kernel_rfl) (Or.inl ⟨by rfl, ?hy34⟩) hS12 ?rest34
              case hy34 => (intro W hSw; go_simp; try (with_reducible rfl))
              try simp only [Act.put, List.setIfInBounds_toArray, List.set_cons_zero, List.set_cons_succ]
              refine' wpAnyD_take (i := 35) (oi := { dst := some 91, op := Go.Op.indexAddr 53 (Go.Operand.tmp 88) (Go.Operand.tmp 90), type := 0, pos := "law.go:102", after := #[{ on := 32, ground := Go.Ground.data }, { on := 34, ground := Go.Ground.data }, { on := 25, ground := Go.Ground.guard }], guard := some (25, false) }) (v := _) rfl (by kernel_rfl) (by kernel_rfl) (by kernel_rfl) (fun _ _ _ h => h) (by kernel_rfl) (Or.inl ⟨by rfl, ?hy35⟩) hS12 ?rest35
              case hy35 => (intro W hSw; go_simp; try (with_reducible rfl))
              try simp only [Act.put, List.setIfInBounds_toArray, List.set_cons_zero, List.set_cons_succ]
              refine' wpAnyD_take (i := 36) (oi := { dst := some 92, op := Go.Op.load 50 (Go.Operand.tmp 91), type := 50, pos := "law.go:102", after := #[{ on := 35, ground := Go.Ground.data }, { on := 25, ground := Go.Ground.guard }], guard := some (25, false) }) (v := _) rfl (by kernel_rfl) (by kernel_rfl) (by kernel_rfl) (fun _ _ _ h => h) (by kernel_rfl) (Or.inl ⟨by rfl, ?hy36⟩) hS12 ?rest36
              case hy36 => (intro W hSw; obtain ⟨q1, q2, q3⟩ := hSw; have c1 : W.cell? ⟨gr, jo, none⟩ = some (.pointer (some ⟨r jo, 0, none⟩)) := (by rcases two_cases hjo2 with rfl | rfl <;> simp [World.cell?, q2]); have z1 := (Array.getElem?_eq_some_iff.1 q2).1; go_simp; try (with_reducible rfl))
              try simp only [Act.put, List.setIfInBounds_toArray, List.set_cons_zero, List.set_cons_succ]
              refine wpAnyD_one (i := 31) (o := { dst := some 87, op := Go.Op.call { callee := Go.Callee.value (Go.Operand.func 9), args := #[Go.Operand.tmp 86], argTypes := #[24] }, type := 23, pos := "law.go:102", after := #[{ on := 30, ground := Go.Ground.data }, { on := 25, ground := Go.Ground.chain }, { on := 25, ground := Go.Ground.guard }], guard := some (25, false) }) (by kernel_rfl) rfl (fun K hK => ?_)
              go_simp
              refine (times_any w12 (hP12.su jo hjo2) (by omega)).mono ?_
              rintro e w13 ⟨v13, rfl, hr13, hb13, -⟩
              obtain ⟨p13, c13, hv13⟩ := owns_form hr13
              subst hv13
              have hP13 := hP12.below hb13
              have hS13 : (fun W : World => W.heap[gs]? = some (.cells #[.pointer (some ⟨s 0, 0, none⟩), .pointer (some ⟨s 1, 0, none⟩)] 24 (0, 0)) ∧ W.heap[gr]? = some (.cells #[.pointer (some ⟨r 0, 0, none⟩), .pointer (some ⟨r 1, 0, none⟩)] 50 (0, 0)) ∧ W.heap[X]? = some (.cells #[.int .i64 o.k, .int .i64 o.i, .int .u64 o.t.1.1, .int .u64 o.t.1.2.1, .int .u64 o.t.1.2.2, .int .u64 o.r.1.1, .int .u64 o.r.2.1, .slice o.pf o.nF o.cf] 55 (0, 0))) w13 := ⟨hP13.cs, hP13.cr, (hb13.block X (Array.getElem?_eq_some_iff.1 hS12.2.2).1).trans hS12.2.2⟩
              go_wp2_with fail
              refine hK.out _ _ (fun hD => hS13) ?_
              clear hK K
              try simp only [Act.put, List.setIfInBounds_toArray, List.set_cons_zero, List.set_cons_succ]
              refine wpAnyD_one (i := 37) (o := { dst := some 93, op := Go.Op.call { callee := Go.Callee.value (Go.Operand.func 21), args := #[Go.Operand.tmp 92], argTypes := #[50] }, type := 23, pos := "law.go:102", after := #[{ on := 36, ground := Go.Ground.data }, { on := 31, ground := Go.Ground.chain }, { on := 25, ground := Go.Ground.guard }], guard := some (25, false) }) (by kernel_rfl) rfl (fun K hK => ?_)
              go_simp
              refine (rtimes_any w13 (hP13.ru jo hjo2) (by have := hP13.len jo hjo2; omega)).mono ?_
              rintro e w14 ⟨v14, rfl, hr14, hb14⟩
              obtain ⟨p14, c14, hv14⟩ := owns_form hr14
              subst hv14
              have hP14 := hP13.below hb14
              have hS14 : (fun W : World => W.heap[gs]? = some (.cells #[.pointer (some ⟨s 0, 0, none⟩), .pointer (some ⟨s 1, 0, none⟩)] 24 (0, 0)) ∧ W.heap[gr]? = some (.cells #[.pointer (some ⟨r 0, 0, none⟩), .pointer (some ⟨r 1, 0, none⟩)] 50 (0, 0)) ∧ W.heap[X]? = some (.cells #[.int .i64 o.k, .int .i64 o.i, .int .u64 o.t.1.1, .int .u64 o.t.1.2.1, .int .u64 o.t.1.2.2, .int .u64 o.r.1.1, .int .u64 o.r.2.1, .slice o.pf o.nF o.cf] 55 (0, 0))) w14 := ⟨hP14.cs, hP14.cr, (hb14.block X (Array.getElem?_eq_some_iff.1 hS13.2.2).1).trans hS13.2.2⟩
              go_wp2_with fail
              refine hK.out _ _ (fun hD => hS14) ?_
              clear hK K
              try simp only [Act.put, List.setIfInBounds_toArray, List.set_cons_zero, List.set_cons_succ]
              refine wpAnyD_one (i := 38) (o := { dst := some 94, op := Go.Op.call { callee := Go.Callee.value (Go.Operand.func 8), args := #[Go.Operand.tmp 87, Go.Operand.tmp 93], argTypes := #[23, 23] }, type := 4, pos := "law.go:102", after := #[{ on := 31, ground := Go.Ground.data }, { on := 37, ground := Go.Ground.data }, { on := 37, ground := Go.Ground.chain }, { on := 25, ground := Go.Ground.guard }], guard := some (25, false) }) (by kernel_rfl) rfl (fun K hK => ?_)
              go_simp
              refine (times_eq w14 ((owns_lst hr13).below hb14) (owns_lst hr14) (by have h1 := tms_len (A' jo); have h2 := hP9.len jo hjo2; omega)).mono ?_
              rintro e w15 ⟨rfl, hg15⟩
              have hP15 := hP14.below hg15.below
              have hS15 : (fun W : World => W.heap[gs]? = some (.cells #[.pointer (some ⟨s 0, 0, none⟩), .pointer (some ⟨s 1, 0, none⟩)] 24 (0, 0)) ∧ W.heap[gr]? = some (.cells #[.pointer (some ⟨r 0, 0, none⟩), .pointer (some ⟨r 1, 0, none⟩)] 50 (0, 0)) ∧ W.heap[X]? = some (.cells #[.int .i64 o.k, .int .i64 o.i, .int .u64 o.t.1.1, .int .u64 o.t.1.2.1, .int .u64 o.t.1.2.2, .int .u64 o.r.1.1, .int .u64 o.r.2.1, .slice o.pf o.nF o.cf] 55 (0, 0))) w15 := ⟨hP15.cs, hP15.cr, (hg15.below.block X (Array.getElem?_eq_some_iff.1 hS14.2.2).1).trans hS14.2.2⟩
              go_wp2_with fail
              refine hK.out _ _ (fun hD => hS15) ?_
              clear hK K
              try simp only [Act.put, List.setIfInBounds_toArray, List.set_cons_zero, List.set_cons_succ]
              refine' wpAnyD_take (i := 39) (oi := { dst := some 95, op := Go.Op.unOp Go.UnOp.not 4 (Go.Operand.tmp 94), type := 4, pos := "law.go:102", after := #[{ on := 38, ground := Go.Ground.data }, { on := 25, ground := Go.Ground.guard }], guard := some (25, false) }) (v := _) rfl (by kernel_rfl) (by kernel_rfl) (by kernel_rfl) (fun _ _ _ h => h) (by kernel_rfl) (Or.inl ⟨by rfl, ?hy40⟩) hS15 ?rest40
              case hy40 => (intro W hSw; go_simp; try (with_reducible rfl))
              try simp only [Act.put, List.setIfInBounds_toArray, List.set_cons_zero, List.set_cons_succ]
              refine' wpAnyD_take (i := 40) (oi := { dst := some 96, op := Go.Op.pick (Go.Operand.tmp 81) (Go.Operand.const (Go.Value.bool true)) (Go.Operand.tmp 95), type := 4, pos := "law.go:102", after := #[{ on := 25, ground := Go.Ground.data }, { on := 39, ground := Go.Ground.data }], guard := none }) (v := _) rfl (by kernel_rfl) (by kernel_rfl) (by kernel_rfl) (fun _ _ _ h => h) (by kernel_rfl) (Or.inl ⟨by rfl, ?hy41⟩) hS15 ?rest41
              case hy41 => (intro W hSw; go_simp; try (with_reducible rfl))
              try simp only [Act.put, List.setIfInBounds_toArray, List.set_cons_zero, List.set_cons_succ]
              refine wpAnyD_done (by kernel_rfl) ?_ _
              have HE : Hid (∃ s r S R A, Py w gs gr (3 * (i + 1)) (i + 1) s r S R A w15) := ⟨_, _, _, _, _, hP15⟩
              clear hS0 hS9 hS10 hS11 hS12 hS13 hS14 hS15
              go_wp2_with fail
              go_roundw
              case rel => exact ⟨i + 1, by omega, by omega, by simp, HE.out⟩
              case measure => simp [RowKit.intOf]; omega
      · have hz : ¬ (i : Int) < (n : Int) := by omega
        have HE : Hid (∃ m s r S R A, m ≤ 300 ∧ Py w gs gr (3 * m) m s r S R A wr) := ⟨i, s, r, S, R, A, hi3, hPy⟩
        go_wp2_with fail
        go_meet
        exact HE.out
  case rest =>
    obtain ⟨W0, hW0⟩ : ∃ W0, W0 = wc := ⟨_, rfl⟩
    rw [← hW0] at hcut ⊢
    clear hW0
    have HQ : Hid (∃ s r S R A, Py w gs gr 900 300 s r S R A W0) := by
      obtain ⟨m0, s, r, S, R, A, hm, h⟩ := hcut.out
      exact ⟨s, r, S, R, A, h.mono (by omega) hm⟩
    clear hcut HP3 HSC HN HFT hnb hnb1
    go_wp2_with fail
    go_loopw [8, 10, 100] (fun _ _ s100 wr => ∃ j : Nat, j ≤ 2 ∧ s100 = .int .i64 (j : Nat) ∧ Hid (∃ s r S R A, Py w gs gr 900 300 s r S R A wr)) (fun _ _ s100 _ => 2 - (RowKit.intOf s100).toNat)
    case atStart => exact ⟨0, Nat.zero_le _, rfl, HQ.out⟩
    case round =>
      clear HQ
      obtain ⟨j, hjl, rfl, HI⟩ := hrel
      obtain ⟨s, r, S, R, A, hPy⟩ := HI.out
      by_cases hj2 : j < 2
      · have hjz : (j : Int) < 2 := by omega
        have hjz0 : (0 : Int) ≤ (j : Int) := by omega
        have crj := hPy.cellR hj2
        have zR := (Array.getElem?_eq_some_iff.1 hPy.cr).1
        have hlA := hPy.len j hj2
        have hrt := rtimes_any wr (hPy.ru j hj2) (by omega)
        obtain ⟨wa, hwa⟩ : ∃ wa, wa = wr := ⟨_, rfl⟩
        rw [← hwa] at hPy crj zR hrt ⊢
        have HPA := hid hPy
        clear hwa HI hPy
        go_wp2_with fail
        refine hrt.mono ?_
        rintro e w1 ⟨v1, rfl, hr1, hb1⟩
        obtain ⟨p1, c1, hv1⟩ := owns_form hr1
        subst hv1
        have hP1 := HPA.out.below hb1
        have O1 : Hid (Own w1 32 3 (.slice p1 (tms (A j)).length c1) (tms (A j)).length (fl ET (tms (A j))) wa.heap.size w1.heap.size) := Own.mk' hr1
        have HOW : Hid (∀ k, S j k ∨ R j k → k < wa.heap.size) := fun k hk => (HPA.out.own j hj2 k hk).2.1
        have HZA : Hid (wa.heap.size ≤ w1.heap.size) := hb1.size
        obtain ⟨K, hK⟩ : ∃ K, K = tms (A j) := ⟨_, rfl⟩
        obtain ⟨nk, hnk⟩ : ∃ nk, nk = K.length := ⟨_, rfl⟩
        have hnkb : nk ≤ 300 := by rw [hnk, hK]; exact Nat.le_trans (tms_len _) hlA
        rw [← hK, ← hnk] at O1 ⊢
        have HK := hid hK
        have HNK := hid hnk
        have HP1 : Hid (∃ S' R', Py w gs gr 900 300 s r S' R' (fun l => if l = j then lfs (A j) (K.take 0) else A l) w1 ∧ (∀ k, S' j k ∨ R' j k → (S j k ∨ R j k) ∨ w1.heap.size ≤ k)) := by
          refine ⟨S, R, ?_, fun k h => .inl h⟩
          have e : (fun l => if l = j then lfs (A j) (K.take 0) else A l) = A := funext fun l => by
            by_cases e : l = j
            · rw [if_pos e, e]; rfl
            · rw [if_neg e]
          rw [e]
          exact hP1
        clear hrt hr1 hb1 hP1 crj zR hK hnk HPA
        go_wp2_with fail
        go_loopw [10, 109] (fun _ s109 wr => ∃ k : Nat, k ≤ nk ∧ s109 = .int .i64 (k : Nat) ∧ Hid ((∃ S' R', Py w gs gr 900 300 s r S' R' (fun l => if l = j then lfs (A j) (K.take k) else A l) wr ∧ (∀ k, S' j k ∨ R' j k → (S j k ∨ R j k) ∨ w1.heap.size ≤ k)) ∧ Kp (fun k => (S j k ∨ R j k) ∨ w1.heap.size ≤ k) w1 wr)) (fun _ s109 _ => nk - (RowKit.intOf s109).toNat)
        case atStart => exact ⟨0, Nat.zero_le _, rfl, HP1.out, Kp.refl _ _⟩
        case round =>
          clear HP1
          obtain ⟨k, hk, rfl, HI⟩ := hrel
          obtain ⟨⟨S1, R1, hPy, hOn⟩, hKp⟩ := HI.out
          by_cases hlt : k < nk
          · have hz : (k : Int) < (nk : Int) := by omega
            have hk0 : (0 : Int) ≤ (k : Int) := by omega
            obtain ⟨u, hu⟩ : ∃ u, K[k]? = some u := ⟨K[k]'(by have := HNK.out; omega), by simp⟩
            have hO := O1.out.kp hKp (fun q hq => by
              rcases hq with hq | hq
              · exact .inl (HOW.out q hq)
              · exact .inr hq)
            obtain ⟨b1, o1, q1, e1, l1, x0, x1, x2⟩ := (owns_lst (owns_re hO.row HNK.out rfl)).at3 hu
            simp only [Value.slice.injEq] at e1
            obtain ⟨rfl, e1n, rfl⟩ := e1
            have HTK : Hid (K.take (k + 1) = K.take k ++ [u]) := (take_snoc hu).symm
            obtain ⟨W2, hW2⟩ : ∃ W2, W2 = wr.alloc (.cells #[.int .u64 u.1.1, .int .u64 u.1.2.1, .int .u64 u.1.2.2] 32) := ⟨_, rfl⟩
            obtain ⟨b2, hb2⟩ : ∃ b2, b2 = wr.heap.size := ⟨_, rfl⟩
            have G2 : Gr wr W2 := by rw [hW2]; exact (Gr.refl _).alloc _
            have hxt : W2.heap[b2]? = some (.cells #[.int .u64 u.1.1, .int .u64 u.1.2.1, .int .u64 u.1.2.2] 32 (0, 0)) := by rw [hW2, hb2]; exact heap_new' _ _
            have HN2 : Hid (¬ S1 j b2 ∧ ¬ R1 j b2) := ⟨fun h => by have := (hPy.own j hj2 b2 (.inl h)).2.1; omega, fun h => by have := (hPy.own j hj2 b2 (.inr h)).2.1; omega⟩
            obtain ⟨B, hB⟩ : ∃ B, B = lfs (A j) (K.take k) := ⟨_, rfl⟩
            rw [← hB] at hPy
            have HBQ := hid hB
            have P2 := hid (hPy.below G2.below)
            have PSU : Hid (Su W2 (S1 j) 900 (s j) B) := by
              have h := P2.out.su j hj2
              rw [if_pos rfl] at h
              exact h
            have PRU : Hid (Rs W2 (R1 j) (r j) B) := by
              have h := P2.out.ru j hj2
              rw [if_pos rfl] at h
              exact h
            have hlB : B.length ≤ 300 := by
              have h := P2.out.len j hj2
              rw [if_pos rfl] at h
              exact h
            have HON := hid hOn
            have HKP : Hid (Kp (fun k => (S j k ∨ R j k) ∨ w1.heap.size ≤ k) w1 W2) := hKp.trans (Kp.of_gr (S := fun k => (S j k ∨ R j k) ∨ w1.heap.size ≤ k) G2) (fun _ _ h => h)
            have hzt := (Array.getElem?_eq_some_iff.1 hxt).1
            have hS0 : (fun W : World => W.heap[gs]? = some (.cells #[.pointer (some ⟨s 0, 0, none⟩), .pointer (some ⟨s 1, 0, none⟩)] 24 (0, 0)) ∧ W.heap[gr]? = some (.cells #[.pointer (some ⟨r 0, 0, none⟩), .pointer (some ⟨r 1, 0, none⟩)] 50 (0, 0)) ∧ W.heap[b2]? = some (.cells #[.int .u64 u.1.1, .int .u64 u.1.2.1, .int .u64 u.1.2.2] 32 (0, 0))) W2.drew := ⟨P2.out.cs, P2.out.cr, hxt⟩
            have HZ2 : Hid (w1.heap.size ≤ W2.heap.size) := HKP.out.size
            clear hu e1n G2 HI hO hPy hKp hOn hB
            go_upto_region 22 with fail
            rw [← hW2, ← hb2]
            clear hW2 hb2 x0 x1 x2 l1
            refine wp_regionD (S := fun W => W.heap[gs]? = some (.cells #[.pointer (some ⟨s 0, 0, none⟩), .pointer (some ⟨s 1, 0, none⟩)] 24 (0, 0)) ∧ W.heap[gr]? = some (.cells #[.pointer (some ⟨r 0, 0, none⟩), .pointer (some ⟨r 1, 0, none⟩)] 50 (0, 0)) ∧ W.heap[b2]? = some (.cells #[.int .u64 u.1.1, .int .u64 u.1.2.1, .int .u64 u.1.2.2] 32 (0, 0))) (D := []) hmx ?_
            refine' wpAnyD_take (i := 0) (oi := { dst := some 113, op := Go.Op.move (Go.Operand.tmp 3), type := 49, pos := "law.go:108", after := #[], guard := none }) (v := _) rfl (by kernel_rfl) (by kernel_rfl) (by kernel_rfl) (fun _ _ _ h => h) (by kernel_rfl) (Or.inl ⟨by rfl, ?hy42⟩) hS0 ?rest42
            case hy42 => (intro W hSw; go_simp; try (with_reducible rfl))
            try simp only [Act.put, List.setIfInBounds_toArray, List.set_cons_zero, List.set_cons_succ]
            refine' wpAnyD_take (i := 1) (oi := { dst := some 114, op := Go.Op.move (Go.Operand.tmp 8), type := 3, pos := "law.go:108", after := #[], guard := none }) (v := _) rfl (by kernel_rfl) (by kernel_rfl) (by kernel_rfl) (fun _ _ _ h => h) (by kernel_rfl) (Or.inl ⟨by rfl, ?hy43⟩) hS0 ?rest43
            case hy43 => (intro W hSw; go_simp; try (with_reducible rfl))
            try simp only [Act.put, List.setIfInBounds_toArray, List.set_cons_zero, List.set_cons_succ]
            refine' wpAnyD_take (i := 2) (oi := { dst := some 115, op := Go.Op.indexAddr 49 (Go.Operand.tmp 113) (Go.Operand.tmp 114), type := 0, pos := "law.go:108", after := #[{ on := 0, ground := Go.Ground.data }, { on := 1, ground := Go.Ground.data }], guard := none }) (v := _) rfl (by kernel_rfl) (by kernel_rfl) (by kernel_rfl) (fun _ _ _ h => h) (by kernel_rfl) (Or.inl ⟨by rfl, ?hy44⟩) hS0 ?rest44
            case hy44 => (intro W hSw; go_simp; try (with_reducible rfl))
            try simp only [Act.put, List.setIfInBounds_toArray, List.set_cons_zero, List.set_cons_succ]
            refine' wpAnyD_take (i := 3) (oi := { dst := some 116, op := Go.Op.load 24 (Go.Operand.tmp 115), type := 24, pos := "law.go:108", after := #[{ on := 2, ground := Go.Ground.data }], guard := none }) (v := _) rfl (by kernel_rfl) (by kernel_rfl) (by kernel_rfl) (fun _ _ _ h => h) (by kernel_rfl) (Or.inl ⟨by rfl, ?hy45⟩) hS0 ?rest45
            case hy45 => (intro W hSw; obtain ⟨q1, q2, q3⟩ := hSw; have c1 : W.cell? ⟨gs, j, none⟩ = some (.pointer (some ⟨s j, 0, none⟩)) := (by rcases two_cases hj2 with rfl | rfl <;> simp [World.cell?, q1]); have z1 := (Array.getElem?_eq_some_iff.1 q1).1; go_simp; try (with_reducible rfl))
            try simp only [Act.put, List.setIfInBounds_toArray, List.set_cons_zero, List.set_cons_succ]
            refine' wpAnyD_take (i := 4) (oi := { dst := some 117, op := Go.Op.load 32 (Go.Operand.tmp 10), type := 32, pos := "law.go:108", after := #[], guard := none }) (v := _) rfl (by kernel_rfl) (by kernel_rfl) (by kernel_rfl) (fun _ _ _ h => h) (by kernel_rfl) (Or.inl ⟨by rfl, ?hy46⟩) hS0 ?rest46
            case hy46 => (intro W hSw; obtain ⟨q1, q2, q3⟩ := hSw; obtain ⟨s0, s2, s3, s4⟩ := bx_cell q3; go_simp; try (with_reducible rfl))
            try simp only [Act.put, List.setIfInBounds_toArray, List.set_cons_zero, List.set_cons_succ]
            refine' wpAnyD_take (i := 6) (oi := { dst := some 119, op := Go.Op.move (Go.Operand.tmp 4), type := 53, pos := "law.go:108", after := #[], guard := none }) (v := _) rfl (by kernel_rfl) (by kernel_rfl) (by kernel_rfl) (fun _ _ _ h => h) (by kernel_rfl) (Or.inl ⟨by rfl, ?hy47⟩) hS0 ?rest47
            case hy47 => (intro W hSw; go_simp; try (with_reducible rfl))
            try simp only [Act.put, List.setIfInBounds_toArray, List.set_cons_zero, List.set_cons_succ]
            refine' wpAnyD_take (i := 7) (oi := { dst := some 120, op := Go.Op.move (Go.Operand.tmp 8), type := 3, pos := "law.go:108", after := #[], guard := none }) (v := _) rfl (by kernel_rfl) (by kernel_rfl) (by kernel_rfl) (fun _ _ _ h => h) (by kernel_rfl) (Or.inl ⟨by rfl, ?hy48⟩) hS0 ?rest48
            case hy48 => (intro W hSw; go_simp; try (with_reducible rfl))
            try simp only [Act.put, List.setIfInBounds_toArray, List.set_cons_zero, List.set_cons_succ]
            refine' wpAnyD_take (i := 8) (oi := { dst := some 121, op := Go.Op.indexAddr 53 (Go.Operand.tmp 119) (Go.Operand.tmp 120), type := 0, pos := "law.go:108", after := #[{ on := 6, ground := Go.Ground.data }, { on := 7, ground := Go.Ground.data }], guard := none }) (v := _) rfl (by kernel_rfl) (by kernel_rfl) (by kernel_rfl) (fun _ _ _ h => h) (by kernel_rfl) (Or.inl ⟨by rfl, ?hy49⟩) hS0 ?rest49
            case hy49 => (intro W hSw; go_simp; try (with_reducible rfl))
            try simp only [Act.put, List.setIfInBounds_toArray, List.set_cons_zero, List.set_cons_succ]
            refine' wpAnyD_take (i := 9) (oi := { dst := some 122, op := Go.Op.load 50 (Go.Operand.tmp 121), type := 50, pos := "law.go:108", after := #[{ on := 8, ground := Go.Ground.data }], guard := none }) (v := _) rfl (by kernel_rfl) (by kernel_rfl) (by kernel_rfl) (fun _ _ _ h => h) (by kernel_rfl) (Or.inl ⟨by rfl, ?hy50⟩) hS0 ?rest50
            case hy50 => (intro W hSw; obtain ⟨q1, q2, q3⟩ := hSw; have c1 : W.cell? ⟨gr, j, none⟩ = some (.pointer (some ⟨r j, 0, none⟩)) := (by rcases two_cases hj2 with rfl | rfl <;> simp [World.cell?, q2]); have z1 := (Array.getElem?_eq_some_iff.1 q2).1; go_simp; try (with_reducible rfl))
            try simp only [Act.put, List.setIfInBounds_toArray, List.set_cons_zero, List.set_cons_succ]
            refine' wpAnyD_take (i := 10) (oi := { dst := some 123, op := Go.Op.load 32 (Go.Operand.tmp 10), type := 32, pos := "law.go:108", after := #[], guard := none }) (v := _) rfl (by kernel_rfl) (by kernel_rfl) (by kernel_rfl) (fun _ _ _ h => h) (by kernel_rfl) (Or.inl ⟨by rfl, ?hy51⟩) hS0 ?rest51
            case hy51 => (intro W hSw; obtain ⟨q1, q2, q3⟩ := hSw; obtain ⟨s0, s2, s3, s4⟩ := bx_cell q3; go_simp; try (with_reducible rfl))
            try simp only [Act.put, List.setIfInBounds_toArray, List.set_cons_zero, List.set_cons_succ]
            refine wpAnyD_one (i := 5) (o := { dst := some 118, op := Go.Op.call { callee := Go.Callee.value (Go.Operand.func 12), args := #[Go.Operand.tmp 116, Go.Operand.tmp 117], argTypes := #[24, 32] }, type := 33, pos := "law.go:108", after := #[{ on := 3, ground := Go.Ground.data }, { on := 4, ground := Go.Ground.data }], guard := none }) (by kernel_rfl) rfl (fun K hK => ?_)
            go_simp
            refine (tell_any u W2.drew (PSU.out.below (Gr.refl W2).drew.below) (by omega)).mono ?_
            rintro e w5 ⟨v5, rfl, h5⟩
            obtain ⟨p5, c5, hv5⟩ := owns_form h5.out.1
            subst hv5
            have hk5 : Kp (S1 j) W2.drew w5 := h5.out.2.2.mono (fun k h => h.1)
            have nS : ¬ S1 j gs ∧ ¬ S1 j gr := ⟨fun h => (P2.out.own j hj2 gs (.inl h)).2.2.1 rfl, fun h => (P2.out.own j hj2 gr (.inl h)).2.2.2 rfl⟩
            have nR : ¬ R1 j gs ∧ ¬ R1 j gr := ⟨fun h => (P2.out.own j hj2 gs (.inr h)).2.2.1 rfl, fun h => (P2.out.own j hj2 gr (.inr h)).2.2.2 rfl⟩
            have hS5 : (fun W : World => W.heap[gs]? = some (.cells #[.pointer (some ⟨s 0, 0, none⟩), .pointer (some ⟨s 1, 0, none⟩)] 24 (0, 0)) ∧ W.heap[gr]? = some (.cells #[.pointer (some ⟨r 0, 0, none⟩), .pointer (some ⟨r 1, 0, none⟩)] 50 (0, 0)) ∧ W.heap[b2]? = some (.cells #[.int .u64 u.1.1, .int .u64 u.1.2.1, .int .u64 u.1.2.2] 32 (0, 0))) w5 := ⟨(hk5.block gs (Array.getElem?_eq_some_iff.1 hS0.1).1 nS.1).trans hS0.1, (hk5.block gr (Array.getElem?_eq_some_iff.1 hS0.2.1).1 nS.2).trans hS0.2.1, (hk5.block b2 hzt HN2.out.1).trans hS0.2.2⟩
            go_wp2_with fail
            refine hK.out _ _ (fun hD => hS5) ?_
            clear hK K
            try simp only [Act.put, List.setIfInBounds_toArray, List.set_cons_zero, List.set_cons_succ]
            refine wpAnyD_one (i := 11) (o := { dst := some 124, op := Go.Op.call { callee := Go.Callee.value (Go.Operand.func 22), args := #[Go.Operand.tmp 122, Go.Operand.tmp 123], argTypes := #[50, 32] }, type := 33, pos := "law.go:108", after := #[{ on := 9, ground := Go.Ground.data }, { on := 10, ground := Go.Ground.data }, { on := 5, ground := Go.Ground.chain }], guard := none }) (by kernel_rfl) rfl (fun K hK => ?_)
            go_simp
            have HRw : Hid (Rs w5 (R1 j) (r j) B) := (PRU.out.below (Gr.refl W2).drew.below).kp hk5 (fun k h1 h3 => P2.out.sr j j hj2 hj2 k h3 h1)
            refine (rtell_any u w5 HRw.out (by omega)).mono ?_
            rintro e w6 ⟨v6, rfl, h6⟩
            obtain ⟨p6, c6, hv6⟩ := owns_form h6.out.1
            subst hv6
            have hk6 := h6.out.2.2
            have hS6 : (fun W : World => W.heap[gs]? = some (.cells #[.pointer (some ⟨s 0, 0, none⟩), .pointer (some ⟨s 1, 0, none⟩)] 24 (0, 0)) ∧ W.heap[gr]? = some (.cells #[.pointer (some ⟨r 0, 0, none⟩), .pointer (some ⟨r 1, 0, none⟩)] 50 (0, 0)) ∧ W.heap[b2]? = some (.cells #[.int .u64 u.1.1, .int .u64 u.1.2.1, .int .u64 u.1.2.2] 32 (0, 0))) w6 := ⟨(hk6.block gs (Array.getElem?_eq_some_iff.1 hS5.1).1 nR.1).trans hS5.1, (hk6.block gr (Array.getElem?_eq_some_iff.1 hS5.2.1).1 nR.2).trans hS5.2.1, (hk6.block b2 (Array.getElem?_eq_some_iff.1 hS5.2.2).1 HN2.out.2).trans hS5.2.2⟩
            go_wp2_with fail
            refine hK.out _ _ (fun hD => hS6) ?_
            clear hK K
            try simp only [Act.put, List.setIfInBounds_toArray, List.set_cons_zero, List.set_cons_succ]
            refine wpAnyD_one (i := 12) (o := { dst := some 125, op := Go.Op.call { callee := Go.Callee.value (Go.Operand.func 13), args := #[Go.Operand.tmp 118, Go.Operand.tmp 124], argTypes := #[33, 33] }, type := 4, pos := "law.go:108", after := #[{ on := 5, ground := Go.Ground.data }, { on := 11, ground := Go.Ground.data }, { on := 11, ground := Go.Ground.chain }], guard := none }) (by kernel_rfl) rfl (fun K hK => ?_)
            go_simp
            have hls5 : Ls ER w6 (.slice p5 (rcs B u).length c5) (rcs B u) := owns_ls (E := ER) (owns_kp hk6 h5.out.1 (fun k hk e => by
              have h7 := (h5.out.1.lt k hk).1
              have h8 := (P2.out.own j hj2 k (.inr e)).2.1
              have h10 : W2.drew.heap.size = W2.heap.size := rfl
              omega))
            refine (records_eq w6 hls5 (owns_ls (E := ER) h6.out.1) (by have := PSU.out.len u; omega)).mono ?_
            rintro e w7 ⟨rfl, g7⟩
            have hS7 : (fun W : World => W.heap[gs]? = some (.cells #[.pointer (some ⟨s 0, 0, none⟩), .pointer (some ⟨s 1, 0, none⟩)] 24 (0, 0)) ∧ W.heap[gr]? = some (.cells #[.pointer (some ⟨r 0, 0, none⟩), .pointer (some ⟨r 1, 0, none⟩)] 50 (0, 0)) ∧ W.heap[b2]? = some (.cells #[.int .u64 u.1.1, .int .u64 u.1.2.1, .int .u64 u.1.2.2] 32 (0, 0))) w7 := ⟨(g7.below.block gs (Array.getElem?_eq_some_iff.1 hS6.1).1).trans hS6.1, (g7.below.block gr (Array.getElem?_eq_some_iff.1 hS6.2.1).1).trans hS6.2.1, (g7.below.block b2 (Array.getElem?_eq_some_iff.1 hS6.2.2).1).trans hS6.2.2⟩
            go_wp2_with fail
            refine hK.out _ _ (fun hD => hS7) ?_
            clear hK K
            try simp only [Act.put, List.setIfInBounds_toArray, List.set_cons_zero, List.set_cons_succ]
            refine' wpAnyD_take (i := 13) (oi := { dst := some 126, op := Go.Op.unOp Go.UnOp.not 4 (Go.Operand.tmp 125), type := 4, pos := "law.go:108", after := #[{ on := 12, ground := Go.Ground.data }], guard := none }) (v := _) rfl (by kernel_rfl) (by kernel_rfl) (by kernel_rfl) (fun _ _ _ h => h) (by kernel_rfl) (Or.inl ⟨by rfl, ?hy55⟩) hS7 ?rest55
            case hy55 => (intro W hSw; go_simp; try (with_reducible rfl))
            try simp only [Act.put, List.setIfInBounds_toArray, List.set_cons_zero, List.set_cons_succ]
            refine wpAnyD_done (by kernel_rfl) ?_ _
            have HE : Hid ((∃ S' R', Py w gs gr 900 300 s r S' R' (fun l => if l = j then lfs (A j) (K.take (k + 1)) else A l) w7 ∧ (∀ k, S' j k ∨ R' j k → (S j k ∨ R j k) ∨ w1.heap.size ≤ k)) ∧ Kp (fun k => (S j k ∨ R j k) ∨ w1.heap.size ≤ k) w1 w7) := by
              have PD := P2.out.below (Gr.refl W2).drew.below
              have hd : W2.drew.heap.size = W2.heap.size := rfl
              have z5 := hk5.size
              have hkk : Kp (fun k => S1 j k ∨ R1 j k) W2.drew w7 := (((hk5.mono (fun k h => .inl h))).trans hk6 (fun k _ h => .inr h)).trans (Kp.of_gr (S := fun k => S1 j k ∨ R1 j k) g7) (fun _ _ h => h)
              have hT := PD.turn (W' := w7) hj2 (Si := fun k => S1 j k ∧ k < W2.drew.heap.size) (Ri := nw (R1 j) w5) (Ai := lft B u) ((h5.out.2.1.kp hk6 (fun k h7 h8 => P2.out.sr j j hj2 hj2 k h7.1 h8)).below g7.below) (h6.out.2.1.below g7.below) (fun k h7 h8 => by
                  rcases h8 with h8 | h8
                  · exact P2.out.sr j j hj2 hj2 k h7.1 h8.1
                  · have := h7.2; omega) (fun k h => .inl h.1) (fun k h => h.elim (fun h => .inl h.1) (fun h => .inr (by omega))) hkk (Nat.le_trans (lft_len B u) hlB)
              have e : (fun l => if l = j then lft B u else (fun l => if l = j then B else A l) l) = (fun l => if l = j then lfs (A j) (K.take (k + 1)) else A l) := funext fun l => by
                by_cases e : l = j
                · rw [if_pos e, if_pos e, HTK.out, lfs_snoc, ← HBQ.out]
                · rw [if_neg e, if_neg e]; exact if_neg e
              refine ⟨⟨_, _, e ▸ hT, fun k h => ?_⟩, (HKP.out.trans (Kp.of_gr (S := fun k => (S j k ∨ R j k) ∨ w1.heap.size ≤ k) (Gr.refl W2).drew) (fun _ _ h => h)).trans hkk (fun k _ h => HON.out k h)⟩
              rw [if_pos rfl, if_pos rfl] at h
              have hz2 := HZ2.out
              rcases h with h | h
              · exact HON.out k (.inl h.1.1)
              · rcases h.1 with h | h
                · exact HON.out k (.inr h.1)
                · exact .inr (by omega)
            clear hS0 hS5 hS6 hS7 h5 h6 hk5 hk6 g7 HRw nS nR
            go_wp2_with fail
            go_roundw
            case rel => exact ⟨k + 1, by omega, by simp, HE.out⟩
            case measure => simp [RowKit.intOf]; omega
          · have hz : ¬ (k : Int) < (nk : Int) := by omega
            have e0 : lfs (A j) (K.take k) = [] := by
              rw [List.take_of_length_le (by have := HNK.out; omega), HK.out]
              exact lfs_all (A j)
            rw [e0] at hPy
            have csj := hPy.cellS hj2
            have zS := (Array.getElem?_eq_some_iff.1 hPy.cs).1
            have hsu : Su wr (S1 j) 900 (s j) [] := by
              have h := hPy.su j hj2
              rw [if_pos rfl] at h
              exact h
            have ht := times_any wr hsu (by decide)
            have HPY := hid hPy
            clear e0 hPy hsu HI hKp hOn
            go_wp2_with fail
            refine ht.mono ?_
            rintro e w8 ⟨v8, rfl, hr8, hb8, -⟩
            obtain ⟨p8, c8, hv8⟩ := owns_form hr8
            subst hv8
            have HE : Hid (∃ s r S R A, Py w gs gr 900 300 s r S R A w8) := ⟨_, _, _, _, _, HPY.out.below hb8⟩
            clear ht hr8 hb8 HPY csj zS
            rw [tms_nil]
            go_wp2_with fail
            go_roundw
            case rel => exact ⟨j + 1, by omega, by simp, HE.out⟩
            case measure => simp [RowKit.intOf]; omega
      · have hjz : ¬ (j : Int) < 2 := by omega
        have HB := hid hPy.bl
        go_wp2_with fail
        go_ret
        exact ⟨rfl, HB.out⟩
end Go.Proofs.Ytijbmchgajhkeaa
