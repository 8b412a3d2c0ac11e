import Derived.Test.YtnmcpedldphgjaaQuSt
import Derived.Test.YtnmcpedldphgjaaLStep
import Derived.Test.YtnmcpedldphgjaaLAppN
namespace Go.Proofs.Ytnmcpedldphgjaa.Qe
open Go.RowKit Go.Sort Go.Shelf
attribute [local go_sem ↓] Go.wp_at_zero Go.wp_at_succ

/-- Numbers as elements. -/
def EI : El Int where
  k := 1
  enc x := [.int .i64 x]
  len _ := rfl
  one x u hu := by
    simp at hu
    rcases hu with rfl
    rfl
theorem li_at {w : World} {v : Value} {ts : List Int} (h : Ls EI w v ts) {j : Nat} {x : Int} (hj : ts[j]? = some x) : ∃ b off c, v = .slice (some ⟨b, off, none⟩) ts.length c ∧ b < w.heap.size ∧ w.cell? ⟨b, off + j, none⟩ = some (.int .i64 x) := by
  obtain ⟨b, off, c, hv, hb, hc⟩ := h.get hj
  simp only [show EI.k = 1 from rfl, Nat.mul_one] at hc
  exact ⟨b, off, c, hv, hb, hc 0 _ (by decide) rfl⟩
theorem tmod5 (x : Int) : -5 < x.tmod 5 ∧ x.tmod 5 < 5 := by
  have h1 := Int.tmod_lt_of_pos x (show (0 : Int) < 5 by decide)
  have h2 := Int.lt_tmod_of_pos x (show (0 : Int) < 5 by decide)
  omega
theorem Fit.put {n : Nat} {Q X Y : Nat → List Ms} (h : Fit n Q X Y) {p : Nat} (_hp : p < 5) (m : Ms) : Fit (n + 1) (upd Q p (Q p ++ [m])) (upd X p (X p ++ [m])) Y := by
  refine ⟨fun q hq => ?_, fun q hq => ?_⟩
  · by_cases e : q = p
    · subst e; rw [upd_self, upd_self, h.1 q hq, List.append_assoc]
    · rw [upd_ne _ _ e, upd_ne _ _ e]; exact h.1 q hq
  · have h1 := h.2 q hq
    by_cases e : q = p
    · subst e; rw [upd_self, List.length_append, List.length_singleton]; omega
    · rw [upd_ne _ _ e]; omega
theorem Fit.take {n : Nat} {Q X Y : Nat → List Ms} (h : Fit n Q X Y) {p : Nat} (_hp : p < 5) {l r : List Ms} (hq : Q p = l ++ r) : Fit n (upd Q p r) X (upd Y p (Y p ++ l)) := by
  refine ⟨fun q hq2 => ?_, h.2⟩
  by_cases e : q = p
  · subst e; rw [upd_self, upd_self, h.1 q hq2, hq, List.append_assoc]
  · rw [upd_ne _ _ e, upd_ne _ _ e]; exact h.1 q hq2
theorem Sx.init {w w1 w2 W4 : World} {qb : Nat} (hP : Pq w1 (fun k => w.heap.size ≤ k) qb 5 0 (fun _ => [])) (hB1 : Below w.heap.size w w1) (hB2 : Below w1.heap.size w1 w2) (e4 : W4 = (w2.alloc (.cells #[.slice none 0 0, .slice none 0 0, .slice none 0 0, .slice none 0 0, .slice none 0 0] 29)).alloc (.cells #[.slice none 0 0, .slice none 0 0, .slice none 0 0, .slice none 0 0, .slice none 0 0] 29)) : Sx w qb w2.heap.size (w2.heap.size + 1) 0 W4 := by
  have hG : Gr w2 W4 := by rw [e4]; exact ((Gr.refl _).alloc _).alloc _
  have hs1 := hB1.size
  have hs2 := hB2.size
  have hb1 : W4.heap[w2.heap.size]? = some (.cells #[.slice none 0 0, .slice none 0 0, .slice none 0 0, .slice none 0 0, .slice none 0 0] 29 (0, 0)) := by
    rw [e4]
    refine (((Gr.refl (w2.alloc (.cells #[.slice none 0 0, .slice none 0 0, .slice none 0 0, .slice none 0 0, .slice none 0 0] 29))).alloc _).below.block _ (by simp)).trans ?_
    exact heap_new' _ _
  have hb2 : W4.heap[w2.heap.size + 1]? = some (.cells #[.slice none 0 0, .slice none 0 0, .slice none 0 0, .slice none 0 0, .slice none 0 0] 29 (0, 0)) := by
    have := heap_new' (w2.alloc (.cells #[.slice none 0 0, .slice none 0 0, .slice none 0 0, .slice none 0 0, .slice none 0 0] 29)) (.cells #[.slice none 0 0, .slice none 0 0, .slice none 0 0, .slice none 0 0, .slice none 0 0] 29)
    rw [← e4] at this
    simpa using this
  refine ⟨fun k => if k < w.heap.size then 99 else if k = w2.heap.size then 1 else if k = w2.heap.size + 1 then 7 else 0, fun _ => [], fun _ => .slice none 0 0, fun _ => .slice none 0 0, fun _ => [], fun _ => [], ⟨?_, ⟨hb1, ?_, fun p _ => World.ownsRow_nil _ _ _ _, fun p g _ h => by simp [Value.ownBlock] at h⟩, ⟨hb2, ?_, fun p _ => World.ownsRow_nil _ _ _ _, fun p g _ h => by simp [Value.ownBlock] at h⟩, ?_, ?_⟩, ⟨fun p _ => rfl, fun p _ => Nat.le_refl _⟩⟩
  · refine ((hP.old.below hB2).gr hG).mono (fun k _ hs => ?_) (Nat.le_refl _)
    have h1 := hs.1
    have h2 := hs.2
    rw [if_neg (by omega), if_neg (by omega), if_neg (by omega)]
  · rw [if_neg (by omega), if_pos rfl]
  · rw [if_neg (by omega), if_neg (by omega), if_pos rfl]
  · intro k hk
    rw [if_pos hk]
  · exact (hB1.trans (hB2.mono hs1)).trans (hG.below.mono (by omega))
set_option maxHeartbeats 8000000 in
set_option maxRecDepth 100000 in
theorem queueOrder_any {v vt : Value} {l : List Ms} {ts : List Int} (w : World) (hv : Ls EM w v l) (ht : Ls EI w vt ts) (hl : l.length * 48 ≤ 140737488351232) (htl : ts.length * 8 ≤ 140737488351232) : Calls Try.prog 3 #[v, vt] w fun e w' => e = .returned (.bool true) ∧ Below w.heap.size w w' := by
  have hmx : Try.prog.follows .mixedOrders = true := by kernel_rfl
  have hnew := new_any 5 w (by decide)
  obtain ⟨p, c, rfl⟩ := hv.form
  obtain ⟨pt, ct, rfl⟩ := ht.form
  obtain ⟨n, hn⟩ : ∃ n, n = l.length := ⟨_, rfl⟩
  obtain ⟨nt, hnt⟩ : ∃ nt, nt = ts.length := ⟨_, rfl⟩
  rw [← hn] at hl ⊢
  rw [← hnt] at htl ⊢
  have HV : Hid (Ls EM w (.slice p n c) l) := by rw [hn]; exact hv
  have HVT : Hid (Ls EI w (.slice pt nt ct) ts) := by rw [hnt]; exact ht
  have HN := hid hn
  have HNT := hid hnt
  have hnb : n ≤ 2932031007317 := by omega
  have hntb : nt ≤ 17592186043904 := by omega
  clear hv ht hn hnt hl htl
  go_enter Try.func3, Try.ntmps3
  go_wp2_with fail
  refine hnew.mono ?_
  rintro e w1 ⟨qb, rfl, h1⟩
  have HW1 := hid (And.intro h1.out.2.1 h1.out.2.2)
  have hkn := known_any w1
  clear h1 hnew
  go_wp2_with fail
  refine hkn.mono ?_
  rintro e w2 ⟨rfl, hB2⟩
  have HK2 := hid hB2
  clear hB2 hkn
  go_upto_region 6 with fail
  obtain ⟨W4, hW4⟩ : ∃ W4, W4 = (w2.alloc (.cells #[.slice none 0 0, .slice none 0 0, .slice none 0 0, .slice none 0 0, .slice none 0 0] 29)).alloc (.cells #[.slice none 0 0, .slice none 0 0, .slice none 0 0, .slice none 0 0, .slice none 0 0] 29) := ⟨_, rfl⟩
  have HSX := hid (Sx.init HW1.out.1 HW1.out.2 HK2.out hW4)
  obtain ⟨wb, hwb⟩ : ∃ wb, wb = w2.heap.size := ⟨_, rfl⟩
  obtain ⟨gb, hgb⟩ : ∃ gb, gb = wb + 1 := ⟨_, rfl⟩
  rw [← hW4, ← hwb, ← hgb]
  rw [← hwb, ← hgb] at HSX
  clear hW4 hwb hgb HW1 HK2
  go_wp2_with fail
  go_loopw [9] (fun s9 wr => ∃ i : Nat, i ≤ n ∧ s9 = .int .i64 (i : Nat) ∧ Hid (Sx w qb wb gb i wr)) (fun s9 _ => n - (RowKit.intOf s9).toNat)
  case atStart => exact ⟨0, Nat.zero_le _, rfl, HSX.out⟩
  case round =>
    clear HSX
    obtain ⟨i, hi, rfl, HC⟩ := hrel
    by_cases hlt : i < n
    · have hz : (i : Int) < (n : Int) := by omega
      have hi0 : (0 : Int) ≤ (i : Int) := by omega
      obtain ⟨x, hx⟩ : ∃ x, l[i]? = some x := ⟨l[i]'(by have := HN.out; omega), by simp⟩
      have HBL : Hid (Below w.heap.size w wr) := by obtain ⟨_, _, _, _, _, _, h, _⟩ := HC.out; exact h.bl
      obtain ⟨b1, o1, q1, e1, l1, y0, y1, y2, y3, y4, y5⟩ := ls_at (HV.out.below HBL.out) hx
      simp only [Value.slice.injEq] at e1
      obtain ⟨rfl, -, rfl⟩ := e1
      clear hx
      go_upto_region 10 with fail
      obtain ⟨W5, hW5⟩ : ∃ W5, W5 = wr.alloc (.cells #[.int .i64 x.at_, .int .u64 x.a, .int .u64 x.b, .int .u64 x.c, .int .u64 x.k, .int .u64 x.v] 36) := ⟨_, rfl⟩
      obtain ⟨b5, hb5⟩ : ∃ b5, b5 = wr.heap.size := ⟨_, rfl⟩
      rw [← hW5, ← hb5]
      have G5 : Gr wr W5 := by rw [hW5]; exact (Gr.refl _).alloc _
      have hbk : W5.heap[b5]? = some (.cells #[.int .i64 x.at_, .int .u64 x.a, .int .u64 x.b, .int .u64 x.c, .int .u64 x.k, .int .u64 x.v] 36 (0, 0)) := by rw [hW5, hb5]; exact heap_new' _ _
      obtain ⟨t0, t1, t2, t3, t4, t5⟩ : Mc W5 b5 0 x := by simp [Mc, World.cell?, hbk]
      have l5 : b5 < W5.heap.size := (Array.getElem?_eq_some_iff.1 hbk).1
      have f5 : ∀ q, W5.frozen? ⟨b5, q, none⟩ = false := fun q => by simp [World.frozen?, hbk]
      have HG5 := hid G5
      have HBK := hid hbk
      have HB5 : Hid (wr.heap.size ≤ b5) := by show _ ≤ _; omega
      clear hW5 hb5 hbk G5 y0 y1 y2 y3 y4 y5
      go_upto_if 49 with fail
      obtain ⟨r, hr⟩ : ∃ r, r = x.at_.tmod 5 := ⟨_, rfl⟩
      have hrb := tmod5 x.at_
      rw [← hr] at hrb ⊢
      have hr1 := hrb.1
      have hr2 := hrb.2
      clear hr hrb
      go_cut [] from 50 to 53 (fun w' => ∃ pp : Nat, pp < 5 ∧ Hid (w'.heap[b5]? = some (.cells #[.int .i64 (pp : Nat), .int .u64 x.a, .int .u64 x.b, .int .u64 x.c, .int .u64 x.k, .int .u64 x.v] 36 (0, 0)) ∧ Below wr.heap.size wr w'))
      case first =>
        obtain ⟨a1, k1, _⟩ := setCell_blk (k := 0) (v := .int .i64 r) HBK.out
        have HA1 := hid (And.intro a1 k1)
        by_cases hneg : r < 0
        · have hrw : IntKind.i64.wrap (r + 5) = r + 5 := (Go.IntWalk.i64_left _).trans (Go.IntWalk.wrap64_in _ ⟨by omega, by omega⟩)
          clear a1 k1
          go_wp2_with fail
          go_meet
          obtain ⟨a2, k2, _⟩ := setCell_blk (k := 0) (v := .int .i64 (r + 5)) HA1.out.1
          refine ⟨(r + 5).toNat, by omega, ?_, ?_⟩
          · rw [show (((r + 5).toNat : Nat) : Int) = r + 5 by omega]
            first | exact a2 | (simp at a2 ⊢; exact a2)
          · have hkk := (HA1.out.2.trans k2 (fun _ _ h => h))
            have hB := HG5.out.below.trans (hkk.below HG5.out.size (fun k e => by rw [e]; exact HB5.out))
            first | exact hB | (simp at hB ⊢; exact hB)
        · clear a1 k1
          go_wp2_with fail
          go_meet
          refine ⟨r.toNat, by omega, ?_, ?_⟩
          · rw [show ((r.toNat : Nat) : Int) = r by omega]
            exact HA1.out.1
          · exact HG5.out.below.trans (HA1.out.2.below HG5.out.size (fun k e => by rw [e]; exact HB5.out))
      case rest =>
        obtain ⟨pp, hpp, HP5⟩ := hcut
        clear hr1 hr2 t0 t1 t2 t3 t4 t5 f5
        obtain ⟨m, hm⟩ : ∃ m : Ms, m = ⟨(pp : Nat), x.a, x.b, x.c, x.k, x.v⟩ := ⟨_, rfl⟩
        have hbk : wc.heap[b5]? = some (.cells #[.int .i64 (pp : Nat), .int .u64 m.a, .int .u64 m.b, .int .u64 m.c, .int .u64 m.k, .int .u64 m.v] 36 (0, 0)) := by rw [hm]; exact HP5.out.1
        have hat : m.at_ = (pp : Nat) := by rw [hm]
        obtain ⟨tag, Q, V, U, X, Y, HS, HF, HT5⟩ : ∃ tag Q V U X Y, Hid (St w wc tag qb i Q wb gb V U X Y) ∧ Hid (Fit i Q X Y) ∧ Hid (tag b5 = 98) := by
          obtain ⟨tag, Q, V, U, X, Y, h1, h2⟩ := HC.out
          exact ⟨_, _, _, _, _, _, h1.new HP5.out.2, h2, tg_new HB5.out⟩
        have hpt := put_any m wc HS.out.q (by omega)
        have hPl : Plc 5 ((pp : Nat) : Int) := ⟨by omega, by omega⟩
        rw [show pe 5 m.at_ = 0 by unfold pe; rw [hat, if_pos hPl]] at hpt
        have hmv : mv m = .agg #[.int .i64 (pp : Nat), .int .u64 m.a, .int .u64 m.b, .int .u64 m.c, .int .u64 m.k, .int .u64 m.v] := by unfold mv; rw [hat]
        rw [hmv] at hpt
        obtain ⟨t0, t1, t2, t3, t4, t5⟩ : Mc wc b5 0 m := by simp [Mc, World.cell?, hbk, hat]
        rw [hat] at t0
        have lc5 : b5 < wc.heap.size := (Array.getElem?_eq_some_iff.1 hbk).1
        have HBC := hid hbk
        have HPT : Hid (ptn 5 Q m = upd Q pp (Q pp ++ [m])) := by
          show _ = _
          unfold ptn
          rw [hat, if_pos hPl, Int.toNat_natCast]
        have HAT := hid hat
        have HMM : Hid ((⟨(pp : Nat), m.a, m.b, m.c, m.k, m.v⟩ : Ms) = m) := by
          show _ = _
          rw [← hat]
        clear hPl hmv hm hbk hat
        go_wp2_with fail
        refine hpt.mono ?_
        rintro e w6 ⟨rfl, hR6⟩
        have hP6 := hR6.out
        rw [HPT.out] at hP6
        have HS6 := hid (HS.out.queue hP6.1 hP6.2)
        have hb6 : w6.heap[b5]? = some (.cells #[.int .i64 (pp : Nat), .int .u64 m.a, .int .u64 m.b, .int .u64 m.c, .int .u64 m.k, .int .u64 m.v] 36 (0, 0)) := (hP6.2.block b5 lc5 (fun e => by have := HT5.out; omega)).trans HBC.out
        have s0 : w6.cell? ⟨b5, 0, none⟩ = some (.int .i64 (pp : Nat)) := by simp [World.cell?, hb6]
        have s1 : w6.cell? ⟨b5, 1, none⟩ = some (.int .u64 m.a) := by simp [World.cell?, hb6]
        have s2 : w6.cell? ⟨b5, 2, none⟩ = some (.int .u64 m.b) := by simp [World.cell?, hb6]
        have s3 : w6.cell? ⟨b5, 3, none⟩ = some (.int .u64 m.c) := by simp [World.cell?, hb6]
        have s4 : w6.cell? ⟨b5, 4, none⟩ = some (.int .u64 m.k) := by simp [World.cell?, hb6]
        have s5 : w6.cell? ⟨b5, 5, none⟩ = some (.int .u64 m.v) := by simp [World.cell?, hb6]
        have l6 : b5 < w6.heap.size := (Array.getElem?_eq_some_iff.1 hb6).1
        have HRO := hid HS6.out.a
        obtain ⟨vp, hvp⟩ : ∃ vp, vp = V pp := ⟨_, rfl⟩
        obtain ⟨np, hnp⟩ : ∃ np, np = (X pp).length := ⟨_, rfl⟩
        have cw := HRO.out.cell hpp
        rw [← hvp] at cw
        have hvb : vp.ownBlock ≠ some wb := fun e => by
          rw [hvp] at e
          have h1 := HRO.out.tr pp wb hpp e
          have h2 := HRO.out.tb
          omega
        have HOW : Hid (w6.drew.ownsRow 0 36 6 vp np (fl EM (X pp))) := by rw [hvp, hnp]; exact owns_below (HRO.out.own pp hpp) (Gr.refl _).drew.below
        have lwb := HRO.out.lt
        have HVP : Hid (V pp = vp) := hvp.symm
        have HNP : Hid ((X pp).length = np) := hnp.symm
        have HBG : Hid ((np + 1) * 48 ≤ 140737488355328 ∧ np + 1 ≤ maxLen) := by
          have h1 := HF.out.2 pp hpp
          rw [← hnp] at h1
          exact ⟨by omega, by unfold maxLen; omega⟩
        have hp0 : (0 : Int) ≤ (pp : Int) := by omega
        have hp5 : (pp : Int) < 5 := by omega
        clear hR6 hP6 hb6 hvp hnp t0 t1 t2 t3 t4 t5 hpt
        go_wp2_with fail
        have hvb5 : vp.ownBlock ≠ some b5 := fun e => by
          have h1 := HRO.out.tr pp b5 hpp (by rw [HVP.out]; exact e)
          rw [tg_old lc5, HT5.out] at h1
          omega
        go_cut [] from 58 to 67 (fun w' => Hid (Sx w qb wb gb (i + 1) w'))
        case first =>
          have hS0 : (fun W : World => (W.cell? ⟨b5, 0, none⟩ = some (.int .i64 (pp : Nat)) ∧ W.cell? ⟨b5, 1, none⟩ = some (.int .u64 m.a) ∧ W.cell? ⟨b5, 2, none⟩ = some (.int .u64 m.b) ∧ W.cell? ⟨b5, 3, none⟩ = some (.int .u64 m.c) ∧ W.cell? ⟨b5, 4, none⟩ = some (.int .u64 m.k) ∧ W.cell? ⟨b5, 5, none⟩ = some (.int .u64 m.v)) ∧ W.cell? ⟨wb, pp, none⟩ = some vp ∧ b5 < W.heap.size ∧ wb < W.heap.size) w6.drew := ⟨⟨s0, s1, s2, s3, s4, s5⟩, cw, l6, lwb⟩
          refine wp_regionD (S := (fun W : World => (W.cell? ⟨b5, 0, none⟩ = some (.int .i64 (pp : Nat)) ∧ W.cell? ⟨b5, 1, none⟩ = some (.int .u64 m.a) ∧ W.cell? ⟨b5, 2, none⟩ = some (.int .u64 m.b) ∧ W.cell? ⟨b5, 3, none⟩ = some (.int .u64 m.c) ∧ W.cell? ⟨b5, 4, none⟩ = some (.int .u64 m.k) ∧ W.cell? ⟨b5, 5, none⟩ = some (.int .u64 m.v)) ∧ W.cell? ⟨wb, pp, none⟩ = some vp ∧ b5 < W.heap.size ∧ wb < W.heap.size)) (D := [10]) hmx ?_
          refine' wpAnyD_take (i := 0) (oi := { dst := some 58, op := Go.Op.fieldAddr 36 (Go.Operand.tmp 10) 0, type := 0, pos := "law.go:198", after := #[], guard := none }) (v := _) rfl (by kernel_rfl) (by kernel_rfl) (by kernel_rfl) (fun _ _ _ h => h) (by kernel_rfl) (Or.inl ⟨by rfl, ?hy1⟩) hS0 ?rest1
          case hy1 => (intro W hSw; obtain ⟨⟨z0, z1, z2, z3, z4, z5⟩, z6, z7, z8⟩ := hSw; go_simp; try (with_reducible rfl))
          try simp only [Act.put, List.setIfInBounds_toArray, List.set_cons_zero, List.set_cons_succ]
          refine' wpAnyD_take (i := 1) (oi := { dst := some 59, op := Go.Op.load 3 (Go.Operand.tmp 58), type := 3, pos := "law.go:198", after := #[{ on := 0, ground := Go.Ground.data }], guard := none }) (v := _) rfl (by kernel_rfl) (by kernel_rfl) (by kernel_rfl) (fun _ _ _ h => h) (by kernel_rfl) (Or.inl ⟨by rfl, ?hy2⟩) hS0 ?rest2
          case hy2 => (intro W hSw; obtain ⟨⟨z0, z1, z2, z3, z4, z5⟩, z6, z7, z8⟩ := hSw; go_simp; try (with_reducible rfl))
          try simp only [Act.put, List.setIfInBounds_toArray, List.set_cons_zero, List.set_cons_succ]
          refine' wpAnyD_take (i := 2) (oi := { dst := some 60, op := Go.Op.fieldAddr 36 (Go.Operand.tmp 10) 0, type := 0, pos := "law.go:198", after := #[], guard := none }) (v := _) rfl (by kernel_rfl) (by kernel_rfl) (by kernel_rfl) (fun _ _ _ h => h) (by kernel_rfl) (Or.inl ⟨by rfl, ?hy3⟩) hS0 ?rest3
          case hy3 => (intro W hSw; obtain ⟨⟨z0, z1, z2, z3, z4, z5⟩, z6, z7, z8⟩ := hSw; go_simp; try (with_reducible rfl))
          try simp only [Act.put, List.setIfInBounds_toArray, List.set_cons_zero, List.set_cons_succ]
          refine' wpAnyD_take (i := 3) (oi := { dst := some 61, op := Go.Op.load 3 (Go.Operand.tmp 60), type := 3, pos := "law.go:198", after := #[{ on := 2, ground := Go.Ground.data }], guard := none }) (v := _) rfl (by kernel_rfl) (by kernel_rfl) (by kernel_rfl) (fun _ _ _ h => h) (by kernel_rfl) (Or.inl ⟨by rfl, ?hy4⟩) hS0 ?rest4
          case hy4 => (intro W hSw; obtain ⟨⟨z0, z1, z2, z3, z4, z5⟩, z6, z7, z8⟩ := hSw; go_simp; try (with_reducible rfl))
          try simp only [Act.put, List.setIfInBounds_toArray, List.set_cons_zero, List.set_cons_succ]
          refine' wpAnyD_take (i := 4) (oi := { dst := some 62, op := Go.Op.indexAddr 29 (Go.Operand.tmp 7) (Go.Operand.tmp 61), type := 0, pos := "law.go:198", after := #[{ on := 3, ground := Go.Ground.data }], guard := none }) (v := _) rfl (by kernel_rfl) (by kernel_rfl) (by kernel_rfl) (fun _ _ _ h => h) (by kernel_rfl) (Or.inl ⟨by rfl, ?hy5⟩) hS0 ?rest5
          case hy5 => (intro W hSw; obtain ⟨⟨z0, z1, z2, z3, z4, z5⟩, z6, z7, z8⟩ := hSw; go_simp; try (with_reducible rfl))
          try simp only [Act.put, List.setIfInBounds_toArray, List.set_cons_zero, List.set_cons_succ]
          refine' wpAnyD_take (i := 5) (oi := { dst := some 63, op := Go.Op.load 22 (Go.Operand.tmp 62), type := 22, pos := "law.go:198", after := #[{ on := 4, ground := Go.Ground.data }], guard := none }) (v := _) rfl (by kernel_rfl) (by kernel_rfl) (by kernel_rfl) (fun _ _ _ h => h) (by kernel_rfl) (Or.inl ⟨by rfl, ?hy6⟩) hS0 ?rest6
          case hy6 => (intro W hSw; obtain ⟨⟨z0, z1, z2, z3, z4, z5⟩, z6, z7, z8⟩ := hSw; go_simp; try (with_reducible rfl))
          try simp only [Act.put, List.setIfInBounds_toArray, List.set_cons_zero, List.set_cons_succ]
          refine' wpAnyD_take (i := 6) (oi := { dst := some 64, op := Go.Op.load 36 (Go.Operand.tmp 10), type := 36, pos := "law.go:198", after := #[], guard := none }) (v := _) rfl (by kernel_rfl) (by kernel_rfl) (by kernel_rfl) (fun _ _ _ h => h) (by kernel_rfl) (Or.inl ⟨by rfl, ?hy7⟩) hS0 ?rest7
          case hy7 => (intro W hSw; obtain ⟨⟨z0, z1, z2, z3, z4, z5⟩, z6, z7, z8⟩ := hSw; go_simp; try (with_reducible rfl))
          try simp only [Act.put, List.setIfInBounds_toArray, List.set_cons_zero, List.set_cons_succ]
          refine wpAnyD_one (i := 7) (o := { dst := some 65, op := Go.Op.buildSlice 22 1 #[(0, Go.Operand.tmp 64)], type := 22, pos := "law.go:198", after := #[{ on := 6, ground := Go.Ground.data }], guard := none }) (by kernel_rfl) rfl (fun K hK => ?_)
          rw [if_pos (by kernel_rfl)]
          go_simp
          have hG7 : Gr w6 (w6.drew.alloc (.cells #[.int .i64 (pp : Nat), .int .u64 m.a, .int .u64 m.b, .int .u64 m.c, .int .u64 m.k, .int .u64 m.v] 36)) := (Gr.refl _).drew.alloc _
          have hS7 : (fun W : World => (W.cell? ⟨b5, 0, none⟩ = some (.int .i64 (pp : Nat)) ∧ W.cell? ⟨b5, 1, none⟩ = some (.int .u64 m.a) ∧ W.cell? ⟨b5, 2, none⟩ = some (.int .u64 m.b) ∧ W.cell? ⟨b5, 3, none⟩ = some (.int .u64 m.c) ∧ W.cell? ⟨b5, 4, none⟩ = some (.int .u64 m.k) ∧ W.cell? ⟨b5, 5, none⟩ = some (.int .u64 m.v)) ∧ W.cell? ⟨wb, pp, none⟩ = some vp ∧ b5 < W.heap.size ∧ wb < W.heap.size) (w6.drew.alloc (.cells #[.int .i64 (pp : Nat), .int .u64 m.a, .int .u64 m.b, .int .u64 m.c, .int .u64 m.k, .int .u64 m.v] 36)) := ⟨⟨(hG7.cell l6).trans s0, (hG7.cell l6).trans s1, (hG7.cell l6).trans s2, (hG7.cell l6).trans s3, (hG7.cell l6).trans s4, (hG7.cell l6).trans s5⟩, (hG7.cell lwb).trans cw, Nat.lt_of_lt_of_le l6 hG7.size, Nat.lt_of_lt_of_le lwb hG7.size⟩
          refine hK.out _ _ (fun hD => hS7) ?_
          clear hK K
          try simp only [Act.put, List.setIfInBounds_toArray, List.set_cons_zero, List.set_cons_succ]
          refine wpAnyD_one (i := 8) (o := { dst := some 66, op := Go.Op.call { callee := Go.Callee.builtin Go.Builtin.append, args := #[Go.Operand.tmp 63, Go.Operand.tmp 65], argTypes := #[22, 22] }, type := 22, pos := "law.go:198", after := #[{ on := 5, ground := Go.Ground.data }, { on := 7, ground := Go.Ground.data }], guard := none }) (by kernel_rfl) rfl (fun K hK => ?_)
          refine step_app1 EM Try.underlying22 infoM rfl (by decide) rfl _ _ rfl 0 vp np _ (by first | rfl | (go_simp; done)) HOW.out (⟨(pp : Nat), m.a, m.b, m.c, m.k, m.v⟩ : Ms) (by first | rfl | (go_simp; done)) HBG.out.1 HBG.out.2 (Nat.zero_le _) _ rfl _ ?_
          intro g cap w8 ho8 hg8 hn8
          have hk8 : Hid (Kp (fun k => vp.ownBlock = some k) w6 w8) := (Kp.of_gr (Gr.refl _).drew).trans (T := fun k => vp.ownBlock = some k) (Kp.grownBy hg8.out (fun _ h => h)) (fun _ _ h => h)
          have hS8 : (fun W : World => (W.cell? ⟨b5, 0, none⟩ = some (.int .i64 (pp : Nat)) ∧ W.cell? ⟨b5, 1, none⟩ = some (.int .u64 m.a) ∧ W.cell? ⟨b5, 2, none⟩ = some (.int .u64 m.b) ∧ W.cell? ⟨b5, 3, none⟩ = some (.int .u64 m.c) ∧ W.cell? ⟨b5, 4, none⟩ = some (.int .u64 m.k) ∧ W.cell? ⟨b5, 5, none⟩ = some (.int .u64 m.v)) ∧ W.cell? ⟨wb, pp, none⟩ = some vp ∧ b5 < W.heap.size ∧ wb < W.heap.size) w8 := ⟨⟨(hk8.out.cell l6 hvb5).trans s0, (hk8.out.cell l6 hvb5).trans s1, (hk8.out.cell l6 hvb5).trans s2, (hk8.out.cell l6 hvb5).trans s3, (hk8.out.cell l6 hvb5).trans s4, (hk8.out.cell l6 hvb5).trans s5⟩, (hk8.out.cell lwb hvb).trans cw, Nat.lt_of_lt_of_le l6 hk8.out.size, Nat.lt_of_lt_of_le lwb hk8.out.size⟩
          refine hK.out _ _ (fun hD => hS8) ?_
          clear hK K
          try simp only [Act.put, List.setIfInBounds_toArray, List.set_cons_zero, List.set_cons_succ]
          refine' wpAnyD_take (i := 9) (oi := { dst := some 67, op := Go.Op.indexAddr 29 (Go.Operand.tmp 7) (Go.Operand.tmp 59), type := 0, pos := "law.go:198", after := #[{ on := 1, ground := Go.Ground.data }, { on := 0, ground := Go.Ground.phase }, { on := 1, ground := Go.Ground.phase }, { on := 2, ground := Go.Ground.phase }, { on := 3, ground := Go.Ground.phase }, { on := 4, ground := Go.Ground.phase }, { on := 5, ground := Go.Ground.phase }, { on := 6, ground := Go.Ground.phase }, { on := 7, ground := Go.Ground.phase }, { on := 8, ground := Go.Ground.phase }], guard := none }) (v := _) rfl (by kernel_rfl) (by kernel_rfl) (by kernel_rfl) (fun _ _ _ h => h) (by kernel_rfl) (Or.inl ⟨by rfl, ?hy10⟩) hS8 ?rest10
          case hy10 => (intro W hSw; obtain ⟨⟨z0, z1, z2, z3, z4, z5⟩, z6, z7, z8⟩ := hSw; go_simp; try (with_reducible rfl))
          try simp only [Act.put, List.setIfInBounds_toArray, List.set_cons_zero, List.set_cons_succ]
          refine wpAnyD_one (i := 10) (o := { dst := none, op := Go.Op.store 22 (Go.Operand.tmp 67) (Go.Operand.tmp 66), type := 0, pos := "law.go:198", after := #[{ on := 9, ground := Go.Ground.data }, { on := 8, ground := Go.Ground.data }, { on := 8, ground := Go.Ground.chain }, { on := 0, ground := Go.Ground.phase }, { on := 1, ground := Go.Ground.phase }, { on := 2, ground := Go.Ground.phase }, { on := 3, ground := Go.Ground.phase }, { on := 4, ground := Go.Ground.phase }, { on := 5, ground := Go.Ground.phase }, { on := 6, ground := Go.Ground.phase }, { on := 7, ground := Go.Ground.phase }, { on := 8, ground := Go.Ground.phase }], guard := none }) (by kernel_rfl) rfl (fun K hK => ?_)
          rw [if_pos (by kernel_rfl)]
          have d8 : w8.cell? ⟨wb, pp, none⟩ = some vp := (hk8.out.cell lwb hvb).trans cw
          have f8 : w8.frozen? ⟨wb, pp, none⟩ = false := by
            have h1 := (hk8.out.block wb lwb hvb).trans HRO.out.blk
            simp [World.frozen?, h1]
          have l8 : wb < w8.heap.size := Nat.lt_of_lt_of_le lwb hk8.out.size
          go_simp
          refine hK.out _ _ (fun hD => absurd (by decide) hD) ?_
          clear hK K
          try simp only [Act.put, List.setIfInBounds_toArray, List.set_cons_zero, List.set_cons_succ]
          refine wpAnyD_done (by kernel_rfl) ?_ _
          go_wp2_with fail
          go_meet
          have hA := HS6.out.wantA hpp (u := .slice (some ⟨g, 0, none⟩) (np + 1) cap) (w3 := w8) (L := X pp ++ [m]) (owns_re ho8.out (by rw [List.length_append, List.length_singleton, HNP.out]) (by rw [fl_append, fl_one, HMM.out])) (by rw [HVP.out]; exact hk8.out) (fun k hk => by rw [HVP.out, ← own_eq hk]; exact hn8.out)
          exact ⟨_, _, _, _, _, _, hA, HF.out.put hpp m⟩
        case rest =>
          clear s0 s1 s2 s3 s4 s5 cw hvb HOW HVP HNP HBG HRO HS6 HS HF HT5 HBC HPT HAT HMM lwb l6 lc5 hvb5 hp0 hp5
          have HC7 := hcut
          clear hcut
          have HBL7 : Hid (Below w.heap.size w wc) := by obtain ⟨_, _, _, _, _, _, h, _⟩ := HC7.out; exact h.bl
          by_cases hti : i < nt
          · have htz : (i : Int) < (nt : Int) := by omega
            obtain ⟨z, hzt⟩ : ∃ z, ts[i]? = some z := ⟨ts[i]'(by have := HNT.out; omega), by simp⟩
            obtain ⟨b7, o7, q7, e7, l7, z0⟩ := li_at (HVT.out.below HBL7.out) hzt
            simp only [Value.slice.injEq] at e7
            obtain ⟨rfl, -, rfl⟩ := e7
            clear hzt
            go_upto_if 78 with fail
            obtain ⟨r, hr⟩ : ∃ r, r = z.tmod 5 := ⟨_, rfl⟩
            have hrb := tmod5 z
            rw [← hr] at hrb ⊢
            have hr1 := hrb.1
            have hr2 := hrb.2
            clear hr hrb
            go_cut [11, 71, 78] from 79 to 80 (fun s11 _ _ w' => ∃ p2 : Nat, p2 < 5 ∧ s11 = .int .i64 (p2 : Nat) ∧ w' = wc)
            case first =>
              by_cases hneg : r < 0
              · have hrw : IntKind.i64.wrap (r + 5) = r + 5 := (Go.IntWalk.i64_left _).trans (Go.IntWalk.wrap64_in _ ⟨by omega, by omega⟩)
                have hrw2 : wrap64 (r + 5) = r + 5 := Go.IntWalk.wrap64_in _ ⟨by omega, by omega⟩
                go_wp2_with fail
                go_meet
                exact ⟨(r + 5).toNat, by omega, by first | (rw [show (((r + 5).toNat : Nat) : Int) = r + 5 by omega]; done) | (simp; omega), by first | rfl | trivial⟩
              · go_wp2_with fail
                go_meet
                exact ⟨r.toNat, by omega, by first | (rw [show ((r.toNat : Nat) : Int) = r by omega]; done) | (simp; omega), by first | rfl | trivial⟩
            case rest =>
              obtain ⟨p2, hp2, rfl, hwe⟩ := hcut
              subst hwe
              clear hr1 hr2
              have h20 : (0 : Int) ≤ (p2 : Int) := by omega
              have h25 : (p2 : Int) < 5 := by omega
              have hPl : Plc 5 ((p2 : Nat) : Int) := ⟨by omega, by omega⟩
              obtain ⟨tag, Q, V, U, X, Y, HS, HF⟩ : ∃ tag Q V U X Y, Hid (St w wc tag qb (i + 1) Q wb gb V U X Y) ∧ Hid (Fit (i + 1) Q X Y) := by
                obtain ⟨tag, Q, V, U, X, Y, h1, h2⟩ := HC7.out
                exact ⟨_, _, _, _, _, _, h1, h2⟩
              obtain ⟨pp, hpe⟩ : ∃ pp, pp = p2 := ⟨_, rfl⟩
              subst hpe
              have hpp := hp2
              by_cases hz2 : z.tmod 2 = 0
              · have hzb : (z.tmod 2 == 0) = true := by simp [hz2]
                have htk := take_any (pp : Int) wc HS.out.q (by omega)
                clear hz2
                have HTN : Hid (tkn 5 Q (pp : Int) = upd Q pp (Q pp).tail) := by
                  show _ = _
                  unfold tkn
                  rw [if_pos hPl, Int.toNat_natCast]
                cases hq : Q pp with
                | nil =>
                  rw [show tk 5 Q (pp : Int) = (mz, 43) by unfold tk; rw [if_pos hPl, Int.toNat_natCast, hq]] at htk
                  have HQE : Hid (upd Q pp (Q pp).tail = Q) := by
                    show _ = _
                    rw [hq, show ([] : List Ms).tail = Q pp from hq.symm, upd_id]
                  have HXY : Hid ((X pp).length = (Y pp).length) := by
                    show _ = _
                    rw [HF.out.1 pp hpp, hq, List.append_nil]
                  clear hq hPl
                  go_wp2_with fail
                  refine htk.mono ?_
                  rintro e w8 ⟨rfl, hR8⟩
                  have hP8 := hR8.out
                  rw [HTN.out, HQE.out] at hP8
                  have HS8 := hid (HS.out.queue hP8.1 hP8.2)
                  clear hR8 hP8 htk
                  go_upto_region 24 with fail
                  obtain ⟨w9, hw9⟩ : ∃ w9, w9 = w8.alloc (.cells #[.int .i64 0, .int .u64 0, .int .u64 0, .int .u64 0, .int .u64 0, .int .u64 0] 36) := ⟨_, rfl⟩
                  rw [← hw9]
                  have HS9 := hid (HS8.out.new (w' := w9) (by rw [hw9]; exact ((Gr.refl _).alloc _).below))
                  clear hw9
                  obtain ⟨pa, na, ca, hva⟩ : ∃ pa na ca, V pp = .slice pa na ca ∧ na = (X pp).length := by
                    rcases owns_form (HS9.out.a.own pp hpp) with ⟨e, e2⟩ | ⟨g, cap, e, _⟩
                    · exact ⟨_, _, _, e, e2.symm⟩
                    · exact ⟨_, _, _, e, rfl⟩
                  obtain ⟨pu, nu, cu, hvu⟩ : ∃ pu nu cu, U pp = .slice pu nu cu ∧ nu = (Y pp).length := by
                    rcases owns_form (HS9.out.b.own pp hpp) with ⟨e, e2⟩ | ⟨g, cap, e, _⟩
                    · exact ⟨_, _, _, e, e2.symm⟩
                    · exact ⟨_, _, _, e, rfl⟩
                  have ca9 := HS9.out.a.cell hpp
                  have cb9 := HS9.out.b.cell hpp
                  rw [hva.1] at ca9
                  rw [hvu.1] at cb9
                  have hnn : na = nu := by rw [hva.2, hvu.2]; exact HXY.out
                  subst hnn
                  have la9 := HS9.out.a.lt
                  have lb9 := HS9.out.b.lt
                  clear hva hvu
                  go_wp2_with fail
                  go_quiet (fail)
                  go_wp2_with fail
                  go_roundw
                  case rel => exact ⟨i + 1, hlt, by simp, _, _, _, _, _, _, HS9.out.new ((Gr.refl _).drewN _).below, HF.out⟩
                  case measure => simp [RowKit.intOf]; omega
                | cons m rr =>
                  rw [show tk 5 Q (pp : Int) = (m, 0) by unfold tk; rw [if_pos hPl, Int.toNat_natCast, hq]] at htk
                  have HQE : Hid (upd Q pp (Q pp).tail = upd Q pp rr) := by
                    show _ = _
                    rw [hq]
                    rfl
                  have HQQ : Hid (Q pp = [m] ++ rr) := hq
                  clear hq hPl
                  go_wp2_with fail
                  refine htk.mono ?_
                  rintro e w8 ⟨rfl, hR8⟩
                  have hP8 := hR8.out
                  rw [HTN.out, HQE.out] at hP8
                  have HS8 := hid (HS.out.queue hP8.1 hP8.2)
                  clear hR8 hP8 htk
                  go_upto_region 22 with fail
                  obtain ⟨w6, hw6⟩ : ∃ w6, w6 = w8.alloc (.cells #[.int .i64 m.at_, .int .u64 m.a, .int .u64 m.b, .int .u64 m.c, .int .u64 m.k, .int .u64 m.v] 36) := ⟨_, rfl⟩
                  obtain ⟨b6, hb6⟩ : ∃ b6, b6 = w8.heap.size := ⟨_, rfl⟩
                  rw [← hw6, ← hb6]
                  have HS6 := hid (HS8.out.new (w' := w6) (by rw [hw6]; exact ((Gr.refl _).alloc _).below))
                  have hbk6 : w6.heap[b6]? = some (.cells #[.int .i64 m.at_, .int .u64 m.a, .int .u64 m.b, .int .u64 m.c, .int .u64 m.k, .int .u64 m.v] 36 (0, 0)) := by rw [hw6, hb6]; exact heap_new' _ _
                  have HT6 : Hid (w8.heap.size ≤ b6) := by show _ ≤ _; omega
                  clear hw6 hb6
                  have s0 : w6.cell? ⟨b6, 0, none⟩ = some (.int .i64 m.at_) := by simp [World.cell?, hbk6]
                  have s1 : w6.cell? ⟨b6, 1, none⟩ = some (.int .u64 m.a) := by simp [World.cell?, hbk6]
                  have s2 : w6.cell? ⟨b6, 2, none⟩ = some (.int .u64 m.b) := by simp [World.cell?, hbk6]
                  have s3 : w6.cell? ⟨b6, 3, none⟩ = some (.int .u64 m.c) := by simp [World.cell?, hbk6]
                  have s4 : w6.cell? ⟨b6, 4, none⟩ = some (.int .u64 m.k) := by simp [World.cell?, hbk6]
                  have s5 : w6.cell? ⟨b6, 5, none⟩ = some (.int .u64 m.v) := by simp [World.cell?, hbk6]
                  have l6 : b6 < w6.heap.size := (Array.getElem?_eq_some_iff.1 hbk6).1
                  have HRO := hid HS6.out.b
                  obtain ⟨vp, hvp⟩ : ∃ vp, vp = U pp := ⟨_, rfl⟩
                  obtain ⟨np, hnp⟩ : ∃ np, np = (Y pp).length := ⟨_, rfl⟩
                  have cw := HRO.out.cell hpp
                  rw [← hvp] at cw
                  have hvb : vp.ownBlock ≠ some gb := fun e => by
                    rw [hvp] at e
                    have h1 := HRO.out.tr pp gb hpp e
                    have h2 := HRO.out.tb
                    omega
                  have HOW : Hid (w6.drew.ownsRow 0 36 6 vp np (fl EM (Y pp))) := by rw [hvp, hnp]; exact owns_below (HRO.out.own pp hpp) (Gr.refl _).drew.below
                  have lwb := HRO.out.lt
                  have HVP : Hid (U pp = vp) := hvp.symm
                  have HNP : Hid ((Y pp).length = np) := hnp.symm
                  have HBG : Hid ((np + 1) * 48 ≤ 140737488355328 ∧ np + 1 ≤ maxLen) := by
                    have h1 := HF.out.2 pp hpp
                    rw [HF.out.1 pp hpp, List.length_append, ← hnp] at h1
                    exact ⟨by omega, by unfold maxLen; omega⟩
                  have hvb5 : vp.ownBlock ≠ some b6 := fun e => by
                    have h1 := HRO.out.tr pp b6 hpp (by rw [HVP.out]; exact e)
                    rw [tg_new HT6.out] at h1
                    omega
                  clear hbk6 hvp hnp
                  go_wp2_with fail
                  go_cut [] from 95 to 102 (fun w' => Hid (Sx w qb wb gb (i + 1) w'))
                  case first =>
                    have hS0 : (fun W : World => (W.cell? ⟨b6, 0, none⟩ = some (.int .i64 m.at_) ∧ W.cell? ⟨b6, 1, none⟩ = some (.int .u64 m.a) ∧ W.cell? ⟨b6, 2, none⟩ = some (.int .u64 m.b) ∧ W.cell? ⟨b6, 3, none⟩ = some (.int .u64 m.c) ∧ W.cell? ⟨b6, 4, none⟩ = some (.int .u64 m.k) ∧ W.cell? ⟨b6, 5, none⟩ = some (.int .u64 m.v)) ∧ W.cell? ⟨gb, pp, none⟩ = some vp ∧ b6 < W.heap.size ∧ gb < W.heap.size) w6.drew := ⟨⟨s0, s1, s2, s3, s4, s5⟩, cw, l6, lwb⟩
                    refine wp_regionD (S := (fun W : World => (W.cell? ⟨b6, 0, none⟩ = some (.int .i64 m.at_) ∧ W.cell? ⟨b6, 1, none⟩ = some (.int .u64 m.a) ∧ W.cell? ⟨b6, 2, none⟩ = some (.int .u64 m.b) ∧ W.cell? ⟨b6, 3, none⟩ = some (.int .u64 m.c) ∧ W.cell? ⟨b6, 4, none⟩ = some (.int .u64 m.k) ∧ W.cell? ⟨b6, 5, none⟩ = some (.int .u64 m.v)) ∧ W.cell? ⟨gb, pp, none⟩ = some vp ∧ b6 < W.heap.size ∧ gb < W.heap.size)) (D := [8]) hmx ?_
                    refine' wpAnyD_take (i := 0) (oi := { dst := some 95, op := Go.Op.move (Go.Operand.tmp 11), type := 3, pos := "law.go:209", after := #[], guard := none }) (v := _) rfl (by kernel_rfl) (by kernel_rfl) (by kernel_rfl) (fun _ _ _ h => h) (by kernel_rfl) (Or.inl ⟨by rfl, ?hy12⟩) hS0 ?rest12
                    case hy12 => (intro W hSw; obtain ⟨⟨z0, z1, z2, z3, z4, z5⟩, z6, z7, z8⟩ := hSw; go_simp; try (with_reducible rfl))
                    try simp only [Act.put, List.setIfInBounds_toArray, List.set_cons_zero, List.set_cons_succ]
                    refine' wpAnyD_take (i := 1) (oi := { dst := some 96, op := Go.Op.move (Go.Operand.tmp 11), type := 3, pos := "law.go:209", after := #[], guard := none }) (v := _) rfl (by kernel_rfl) (by kernel_rfl) (by kernel_rfl) (fun _ _ _ h => h) (by kernel_rfl) (Or.inl ⟨by rfl, ?hy13⟩) hS0 ?rest13
                    case hy13 => (intro W hSw; obtain ⟨⟨z0, z1, z2, z3, z4, z5⟩, z6, z7, z8⟩ := hSw; go_simp; try (with_reducible rfl))
                    try simp only [Act.put, List.setIfInBounds_toArray, List.set_cons_zero, List.set_cons_succ]
                    refine' wpAnyD_take (i := 2) (oi := { dst := some 97, op := Go.Op.indexAddr 29 (Go.Operand.tmp 8) (Go.Operand.tmp 96), type := 0, pos := "law.go:209", after := #[{ on := 1, ground := Go.Ground.data }], guard := none }) (v := _) rfl (by kernel_rfl) (by kernel_rfl) (by kernel_rfl) (fun _ _ _ h => h) (by kernel_rfl) (Or.inl ⟨by rfl, ?hy14⟩) hS0 ?rest14
                    case hy14 => (intro W hSw; obtain ⟨⟨z0, z1, z2, z3, z4, z5⟩, z6, z7, z8⟩ := hSw; go_simp; try (with_reducible rfl))
                    try simp only [Act.put, List.setIfInBounds_toArray, List.set_cons_zero, List.set_cons_succ]
                    refine' wpAnyD_take (i := 3) (oi := { dst := some 98, op := Go.Op.load 22 (Go.Operand.tmp 97), type := 22, pos := "law.go:209", after := #[{ on := 2, ground := Go.Ground.data }], guard := none }) (v := _) rfl (by kernel_rfl) (by kernel_rfl) (by kernel_rfl) (fun _ _ _ h => h) (by kernel_rfl) (Or.inl ⟨by rfl, ?hy15⟩) hS0 ?rest15
                    case hy15 => (intro W hSw; obtain ⟨⟨z0, z1, z2, z3, z4, z5⟩, z6, z7, z8⟩ := hSw; go_simp; try (with_reducible rfl))
                    try simp only [Act.put, List.setIfInBounds_toArray, List.set_cons_zero, List.set_cons_succ]
                    refine' wpAnyD_take (i := 4) (oi := { dst := some 99, op := Go.Op.load 36 (Go.Operand.tmp 12), type := 36, pos := "law.go:209", after := #[], guard := none }) (v := _) rfl (by kernel_rfl) (by kernel_rfl) (by kernel_rfl) (fun _ _ _ h => h) (by kernel_rfl) (Or.inl ⟨by rfl, ?hy16⟩) hS0 ?rest16
                    case hy16 => (intro W hSw; obtain ⟨⟨z0, z1, z2, z3, z4, z5⟩, z6, z7, z8⟩ := hSw; go_simp; try (with_reducible rfl))
                    try simp only [Act.put, List.setIfInBounds_toArray, List.set_cons_zero, List.set_cons_succ]
                    refine wpAnyD_one (i := 5) (o := { dst := some 100, op := Go.Op.buildSlice 22 1 #[(0, Go.Operand.tmp 99)], type := 22, pos := "law.go:209", after := #[{ on := 4, ground := Go.Ground.data }], guard := none }) (by kernel_rfl) rfl (fun K hK => ?_)
                    rw [if_pos (by kernel_rfl)]
                    go_simp
                    have hG7 : Gr w6 (w6.drew.alloc (.cells #[.int .i64 m.at_, .int .u64 m.a, .int .u64 m.b, .int .u64 m.c, .int .u64 m.k, .int .u64 m.v] 36)) := (Gr.refl _).drew.alloc _
                    have hS7 : (fun W : World => (W.cell? ⟨b6, 0, none⟩ = some (.int .i64 m.at_) ∧ W.cell? ⟨b6, 1, none⟩ = some (.int .u64 m.a) ∧ W.cell? ⟨b6, 2, none⟩ = some (.int .u64 m.b) ∧ W.cell? ⟨b6, 3, none⟩ = some (.int .u64 m.c) ∧ W.cell? ⟨b6, 4, none⟩ = some (.int .u64 m.k) ∧ W.cell? ⟨b6, 5, none⟩ = some (.int .u64 m.v)) ∧ W.cell? ⟨gb, pp, none⟩ = some vp ∧ b6 < W.heap.size ∧ gb < W.heap.size) (w6.drew.alloc (.cells #[.int .i64 m.at_, .int .u64 m.a, .int .u64 m.b, .int .u64 m.c, .int .u64 m.k, .int .u64 m.v] 36)) := ⟨⟨(hG7.cell l6).trans s0, (hG7.cell l6).trans s1, (hG7.cell l6).trans s2, (hG7.cell l6).trans s3, (hG7.cell l6).trans s4, (hG7.cell l6).trans s5⟩, (hG7.cell lwb).trans cw, Nat.lt_of_lt_of_le l6 hG7.size, Nat.lt_of_lt_of_le lwb hG7.size⟩
                    refine hK.out _ _ (fun hD => hS7) ?_
                    clear hK K
                    try simp only [Act.put, List.setIfInBounds_toArray, List.set_cons_zero, List.set_cons_succ]
                    refine wpAnyD_one (i := 6) (o := { dst := some 101, op := Go.Op.call { callee := Go.Callee.builtin Go.Builtin.append, args := #[Go.Operand.tmp 98, Go.Operand.tmp 100], argTypes := #[22, 22] }, type := 22, pos := "law.go:209", after := #[{ on := 3, ground := Go.Ground.data }, { on := 5, ground := Go.Ground.data }], guard := none }) (by kernel_rfl) rfl (fun K hK => ?_)
                    refine step_app1 EM Try.underlying22 infoM rfl (by decide) rfl _ _ rfl 0 vp np _ (by first | rfl | (go_simp; done)) HOW.out m (by first | rfl | (go_simp; done)) HBG.out.1 HBG.out.2 (Nat.zero_le _) _ rfl _ ?_
                    intro g cap w8 ho8 hg8 hn8
                    have hk8 : Hid (Kp (fun k => vp.ownBlock = some k) w6 w8) := (Kp.of_gr (Gr.refl _).drew).trans (T := fun k => vp.ownBlock = some k) (Kp.grownBy hg8.out (fun _ h => h)) (fun _ _ h => h)
                    have hS8 : (fun W : World => (W.cell? ⟨b6, 0, none⟩ = some (.int .i64 m.at_) ∧ W.cell? ⟨b6, 1, none⟩ = some (.int .u64 m.a) ∧ W.cell? ⟨b6, 2, none⟩ = some (.int .u64 m.b) ∧ W.cell? ⟨b6, 3, none⟩ = some (.int .u64 m.c) ∧ W.cell? ⟨b6, 4, none⟩ = some (.int .u64 m.k) ∧ W.cell? ⟨b6, 5, none⟩ = some (.int .u64 m.v)) ∧ W.cell? ⟨gb, pp, none⟩ = some vp ∧ b6 < W.heap.size ∧ gb < W.heap.size) w8 := ⟨⟨(hk8.out.cell l6 hvb5).trans s0, (hk8.out.cell l6 hvb5).trans s1, (hk8.out.cell l6 hvb5).trans s2, (hk8.out.cell l6 hvb5).trans s3, (hk8.out.cell l6 hvb5).trans s4, (hk8.out.cell l6 hvb5).trans s5⟩, (hk8.out.cell lwb hvb).trans cw, Nat.lt_of_lt_of_le l6 hk8.out.size, Nat.lt_of_lt_of_le lwb hk8.out.size⟩
                    refine hK.out _ _ (fun hD => hS8) ?_
                    clear hK K
                    try simp only [Act.put, List.setIfInBounds_toArray, List.set_cons_zero, List.set_cons_succ]
                    refine' wpAnyD_take (i := 7) (oi := { dst := some 102, op := Go.Op.indexAddr 29 (Go.Operand.tmp 8) (Go.Operand.tmp 95), type := 0, pos := "law.go:209", after := #[{ on := 0, ground := Go.Ground.data }, { on := 0, ground := Go.Ground.phase }, { on := 1, ground := Go.Ground.phase }, { on := 2, ground := Go.Ground.phase }, { on := 3, ground := Go.Ground.phase }, { on := 4, ground := Go.Ground.phase }, { on := 5, ground := Go.Ground.phase }, { on := 6, ground := Go.Ground.phase }], guard := none }) (v := _) rfl (by kernel_rfl) (by kernel_rfl) (by kernel_rfl) (fun _ _ _ h => h) (by kernel_rfl) (Or.inl ⟨by rfl, ?hy19⟩) hS8 ?rest19
                    case hy19 => (intro W hSw; obtain ⟨⟨z0, z1, z2, z3, z4, z5⟩, z6, z7, z8⟩ := hSw; go_simp; try (with_reducible rfl))
                    try simp only [Act.put, List.setIfInBounds_toArray, List.set_cons_zero, List.set_cons_succ]
                    refine wpAnyD_one (i := 8) (o := { dst := none, op := Go.Op.store 22 (Go.Operand.tmp 102) (Go.Operand.tmp 101), type := 0, pos := "law.go:209", after := #[{ on := 7, ground := Go.Ground.data }, { on := 6, ground := Go.Ground.data }, { on := 6, ground := Go.Ground.chain }, { on := 0, ground := Go.Ground.phase }, { on := 1, ground := Go.Ground.phase }, { on := 2, ground := Go.Ground.phase }, { on := 3, ground := Go.Ground.phase }, { on := 4, ground := Go.Ground.phase }, { on := 5, ground := Go.Ground.phase }, { on := 6, ground := Go.Ground.phase }], guard := none }) (by kernel_rfl) rfl (fun K hK => ?_)
                    rw [if_pos (by kernel_rfl)]
                    have d8 : w8.cell? ⟨gb, pp, none⟩ = some vp := (hk8.out.cell lwb hvb).trans cw
                    have f8 : w8.frozen? ⟨gb, pp, none⟩ = false := by
                      have h1 := (hk8.out.block gb lwb hvb).trans HRO.out.blk
                      simp [World.frozen?, h1]
                    have l8 : gb < w8.heap.size := Nat.lt_of_lt_of_le lwb hk8.out.size
                    go_simp
                    refine hK.out _ _ (fun hD => absurd (by decide) hD) ?_
                    clear hK K
                    try simp only [Act.put, List.setIfInBounds_toArray, List.set_cons_zero, List.set_cons_succ]
                    refine wpAnyD_done (by kernel_rfl) ?_ _
                    go_wp2_with fail
                    go_meet
                    have hA := HS6.out.gotA hpp (u := .slice (some ⟨g, 0, none⟩) (np + 1) cap) (w3 := w8) (L := Y pp ++ [m]) (owns_re ho8.out (by rw [List.length_append, List.length_singleton, HNP.out]) (by rw [fl_append, fl_one])) (by rw [HVP.out]; exact hk8.out) (fun k hk => by rw [HVP.out, ← own_eq hk]; exact hn8.out)
                    exact ⟨_, _, _, _, _, _, hA, HF.out.take hpp HQQ.out⟩
                  case rest =>
                    go_wp2_with fail
                    go_roundw
                    case rel => exact ⟨i + 1, hlt, by simp, hcut.out⟩
                    case measure => simp [RowKit.intOf]; omega
              · have hzb : (z.tmod 2 == 0) = false := by simp [hz2]
                clear hz2
                have hdr := drain_any (pp : Int) wc HS.out.q (by omega)
                unfold Drn at hdr
                have hls : lst 5 Q (pp : Int) = Q pp := by unfold lst; rw [if_pos hPl, Int.toNat_natCast]
                have hdn : drn 5 Q (pp : Int) = upd Q pp [] := by unfold drn; rw [if_pos hPl, Int.toNat_natCast]
                rw [hls, hdn, show pe 5 ((pp : Nat) : Int) = 0 by unfold pe; rw [if_pos hPl]] at hdr
                have HPL := hid hPl
                clear hls hdn hPl
                obtain ⟨nq, hnq⟩ : ∃ nq, nq = (Q pp).length := ⟨_, rfl⟩
                rw [← hnq] at hdr
                have HNQ := hid hnq
                clear hnq
                go_wp2_with fail
                refine hdr.mono ?_
                rintro e w8 ⟨u, rfl, ⟨qd, cd, rfl⟩, hR8⟩
                have HS8 := hid (HS.out.drain hR8.out.2.1 hR8.out.2.2)
                have HL8 : Hid (Ls EM w8 (.slice qd nq cd) (Q pp)) := by
                  have h1 := hR8.out.1
                  rw [HNQ.out] at h1
                  have h2 := owns_ls (E := EM) h1
                  rw [← HNQ.out] at h2
                  exact h2
                clear hR8 hdr
                have HRO := hid HS8.out.b
                obtain ⟨vp, hvp⟩ : ∃ vp, vp = U pp := ⟨_, rfl⟩
                obtain ⟨np, hnp⟩ : ∃ np, np = (Y pp).length := ⟨_, rfl⟩
                have cw := HRO.out.cell hpp
                rw [← hvp] at cw
                have hvb : vp.ownBlock ≠ some gb := fun e => by
                  rw [hvp] at e
                  have h1 := HRO.out.tr pp gb hpp e
                  have h2 := HRO.out.tb
                  omega
                have HOW : Hid (w8.ownsRow 0 36 6 vp np (fl EM (Y pp))) := by rw [hvp, hnp]; exact HRO.out.own pp hpp
                have lwb := HRO.out.lt
                have HVP : Hid (U pp = vp) := hvp.symm
                have HNP : Hid ((Y pp).length = np) := hnp.symm
                have HBG : Hid ((np + (Q pp).length) * 48 ≤ 140737488355328 ∧ np + (Q pp).length ≤ maxLen) := by
                  have h1 := HF.out.2 pp hpp
                  rw [HF.out.1 pp hpp, List.length_append, ← hnp] at h1
                  exact ⟨by omega, by unfold maxLen; omega⟩
                clear hvp hnp
                go_wp2_with (at_builtin; refine wpAppLN EM Try.underlying22 infoM rfl (by decide) rfl _ _ rfl 0 vp np _ rfl HOW.out _ (Q pp) rfl HL8.out HBG.out.1 HBG.out.2 (Nat.zero_le _) ?_)
                intro v9 w9 ho9 hg9 HNW
                have HK9 : Hid (Kp (fun k => vp.ownBlock = some k) w8 w9) := Kp.grownBy hg9 (fun _ h => h)
                have d8 : w9.cell? ⟨gb, pp, none⟩ = some vp := (HK9.out.cell lwb hvb).trans cw
                have f8 : w9.frozen? ⟨gb, pp, none⟩ = false := by
                  have h1 := (HK9.out.block gb lwb hvb).trans HRO.out.blk
                  simp [World.frozen?, h1]
                have l8 : gb < w9.heap.size := Nat.lt_of_lt_of_le lwb HK9.out.size
                obtain ⟨q9, n9, c9, hv9⟩ : ∃ q9 n9 c9, v9 = .slice q9 n9 c9 ∧ n9 = (Y pp).length + (Q pp).length := by
                  rw [HNP.out]
                  rcases owns_form ho9 with ⟨e, e2⟩ | ⟨g, cap, e, _⟩
                  · exact ⟨_, _, _, e, e2.symm⟩
                  · exact ⟨_, _, _, e, rfl⟩
                obtain ⟨rfl, hn9⟩ := hv9
                have HN9 := hid hn9
                have HO9 := hid ho9
                clear ho9 hg9 hn9
                go_upto_region 28 with fail
                have HA := hid (HS8.out.gotA hpp (u := .slice q9 n9 c9) (w3 := w9) (L := Y pp ++ Q pp) (owns_re HO9.out (by rw [List.length_append, HNP.out]) (by rw [fl_append])) (by rw [HVP.out]; exact HK9.out) (fun k hk => by rw [HVP.out]; exact HNW.out k hk))
                have HFT := hid (HF.out.take hpp (l := Q pp) (r := []) (by rw [List.append_nil]))
                obtain ⟨w10, hw10⟩ : ∃ w10, w10 = w9.setCell ⟨gb, pp, none⟩ (.slice q9 n9 c9) := ⟨_, rfl⟩
                rw [← hw10] at HA ⊢
                clear hw10
                obtain ⟨pa, na, ca, hva⟩ : ∃ pa na ca, V pp = .slice pa na ca ∧ na = (X pp).length := by
                  rcases owns_form (HA.out.a.own pp hpp) with ⟨e, e2⟩ | ⟨g, cap, e, _⟩
                  · exact ⟨_, _, _, e, e2.symm⟩
                  · exact ⟨_, _, _, e, rfl⟩
                have ca9 := HA.out.a.cell hpp
                have cb9 := HA.out.b.cell hpp
                rw [hva.1] at ca9
                rw [upd_self] at cb9
                have HVA := hid hva.1
                have hnn : na = n9 := by
                  rw [hva.2, HF.out.1 pp hpp, List.length_append]
                  exact HN9.out.symm
                subst hnn
                have la9 := HA.out.a.lt
                have lb9 := HA.out.b.lt
                clear hva d8 f8 l8 cw hvb lwb
                have hlq : ∀ k, Calls Try.prog 11 #[.pointer (some ⟨qb, 0, none⟩), .int .i64 (pp : Nat)] (w10.drewN k) fun e w' => e = .returned (.int .i64 0) ∧ w' = w10.drewN k := fun k => by
                  have h1 := len_any (pp : Int) (w10.drewN k) (HA.out.q.gr ((Gr.refl _).drewN _))
                  rw [show (lst 5 (upd Q pp []) (pp : Int)).length = 0 by unfold lst; rw [if_pos HPL.out, Int.toNat_natCast, upd_self]; rfl] at h1
                  exact h1
                go_wp2_with fail
                go_quiet (first | (go_at_call 11; exact Calls.quiet_of_same (hlq _)))
                go_wp2_with fail
                go_roundw
                case rel => exact ⟨i + 1, hlt, by simp, _, _, _, _, _, _, HA.out.new ((Gr.refl _).drewN _).below, HFT.out⟩
                case measure => simp [RowKit.intOf]; omega
          · have htz : ¬ ((i : Int) < (nt : Int)) := by omega
            go_wp2_with fail
            go_roundw
            case rel => exact ⟨i + 1, hlt, by simp, HC7.out⟩
            case measure => simp [RowKit.intOf]; omega
    · have hz : ¬ ((i : Int) < (n : Int)) := by omega
      have hin : i = n := by omega
      subst hin
      go_wp2_with fail
      go_loopw [16] (fun s16 wr2 => ∃ j : Nat, j ≤ 5 ∧ s16 = .int .i64 (j : Nat) ∧ Hid (∃ tag Q V U X Y, St w wr2 tag qb i Q wb gb V U X Y ∧ Fit i Q X Y ∧ ∀ q, q < j → Q q = [])) (fun s16 _ => 5 - (RowKit.intOf s16).toNat)
      case atStart =>
        obtain ⟨tag, Q, V, U, X, Y, h1, h2⟩ := HC.out
        exact ⟨0, Nat.zero_le _, rfl, tag, Q, V, U, X, Y, h1, h2, fun q hq => absurd hq (Nat.not_lt_zero _)⟩
      case round =>
        clear HC
        obtain ⟨j, hj, rfl, HC⟩ := hrel
        obtain ⟨tag, Q, V, U, X, Y, HS, HF, HE⟩ : ∃ tag Q V U X Y, Hid (St w wr tag qb i Q wb gb V U X Y) ∧ Hid (Fit i Q X Y) ∧ Hid (∀ q, q < j → Q q = []) := by
          obtain ⟨tag, Q, V, U, X, Y, h1, h2, h3⟩ := HC.out
          exact ⟨_, _, _, _, _, _, h1, h2, h3⟩
        clear HC
        by_cases hjl : j < 5
        · have hjz : (j : Int) < 5 := by omega
          have hj0 : (0 : Int) ≤ (j : Int) := by omega
          have hPl : Plc 5 ((j : Nat) : Int) := ⟨by omega, by omega⟩
          have hpp := hjl
          have hdr := drain_any (j : Int) wr HS.out.q (by omega)
          unfold Drn at hdr
          have hls : lst 5 Q (j : Int) = Q j := by unfold lst; rw [if_pos hPl, Int.toNat_natCast]
          have hdn : drn 5 Q (j : Int) = upd Q j [] := by unfold drn; rw [if_pos hPl, Int.toNat_natCast]
          rw [hls, hdn, show pe 5 ((j : Nat) : Int) = 0 by unfold pe; rw [if_pos hPl]] at hdr
          have HPL := hid hPl
          clear hls hdn hPl
          obtain ⟨nq, hnq⟩ : ∃ nq, nq = (Q j).length := ⟨_, rfl⟩
          rw [← hnq] at hdr
          have HNQ := hid hnq
          clear hnq
          go_wp2_with fail
          refine hdr.mono ?_
          rintro e w8 ⟨u, rfl, ⟨qd, cd, rfl⟩, hR8⟩
          have HS8 := hid (HS.out.drain hR8.out.2.1 hR8.out.2.2)
          have HL8 : Hid (Ls EM w8 (.slice qd nq cd) (Q j)) := by
            have h1 := hR8.out.1
            rw [HNQ.out] at h1
            have h2 := owns_ls (E := EM) h1
            rw [← HNQ.out] at h2
            exact h2
          clear hR8 hdr
          have HRO := hid HS8.out.b
          obtain ⟨vp, hvp⟩ : ∃ vp, vp = U j := ⟨_, rfl⟩
          obtain ⟨np, hnp⟩ : ∃ np, np = (Y j).length := ⟨_, rfl⟩
          have cw := HRO.out.cell hpp
          rw [← hvp] at cw
          have hvb : vp.ownBlock ≠ some gb := fun e => by
            rw [hvp] at e
            have h1 := HRO.out.tr j gb hpp e
            have h2 := HRO.out.tb
            omega
          have HOW : Hid (w8.ownsRow 0 36 6 vp np (fl EM (Y j))) := by rw [hvp, hnp]; exact HRO.out.own j hpp
          have lwb := HRO.out.lt
          have HVP : Hid (U j = vp) := hvp.symm
          have HNP : Hid ((Y j).length = np) := hnp.symm
          have HBG : Hid ((np + (Q j).length) * 48 ≤ 140737488355328 ∧ np + (Q j).length ≤ maxLen) := by
            have h1 := HF.out.2 j hpp
            rw [HF.out.1 j hpp, List.length_append, ← hnp] at h1
            exact ⟨by omega, by unfold maxLen; omega⟩
          clear hvp hnp
          go_wp2_with (at_builtin; refine wpAppLN EM Try.underlying22 infoM rfl (by decide) rfl _ _ rfl 0 vp np _ rfl HOW.out _ (Q j) rfl HL8.out HBG.out.1 HBG.out.2 (Nat.zero_le _) ?_)
          intro v9 w9 ho9 hg9 HNW
          have HK9 : Hid (Kp (fun k => vp.ownBlock = some k) w8 w9) := Kp.grownBy hg9 (fun _ h => h)
          have d8 : w9.cell? ⟨gb, j, none⟩ = some vp := (HK9.out.cell lwb hvb).trans cw
          have f8 : w9.frozen? ⟨gb, j, none⟩ = false := by
            have h1 := (HK9.out.block gb lwb hvb).trans HRO.out.blk
            simp [World.frozen?, h1]
          have l8 : gb < w9.heap.size := Nat.lt_of_lt_of_le lwb HK9.out.size
          obtain ⟨q9, n9, c9, hv9⟩ : ∃ q9 n9 c9, v9 = .slice q9 n9 c9 ∧ n9 = (Y j).length + (Q j).length := by
            rw [HNP.out]
            rcases owns_form ho9 with ⟨e, e2⟩ | ⟨g, cap, e, _⟩
            · exact ⟨_, _, _, e, e2.symm⟩
            · exact ⟨_, _, _, e, rfl⟩
          obtain ⟨rfl, hn9⟩ := hv9
          have HN9 := hid hn9
          have HO9 := hid ho9
          clear ho9 hg9 hn9
          go_upto_region 35 with fail
          have HA := hid (HS8.out.gotA hpp (u := .slice q9 n9 c9) (w3 := w9) (L := Y j ++ Q j) (owns_re HO9.out (by rw [List.length_append, HNP.out]) (by rw [fl_append])) (by rw [HVP.out]; exact HK9.out) (fun k hk => by rw [HVP.out]; exact HNW.out k hk))
          have HFT := hid (HF.out.take hpp (l := Q j) (r := []) (by rw [List.append_nil]))
          obtain ⟨w10, hw10⟩ : ∃ w10, w10 = w9.setCell ⟨gb, j, none⟩ (.slice q9 n9 c9) := ⟨_, rfl⟩
          rw [← hw10] at HA ⊢
          clear hw10
          obtain ⟨pa, na, ca, hva⟩ : ∃ pa na ca, V j = .slice pa na ca ∧ na = (X j).length := by
            rcases owns_form (HA.out.a.own j hpp) with ⟨e, e2⟩ | ⟨g, cap, e, _⟩
            · exact ⟨_, _, _, e, e2.symm⟩
            · exact ⟨_, _, _, e, rfl⟩
          have ca9 := HA.out.a.cell hpp
          have cb9 := HA.out.b.cell hpp
          rw [hva.1] at ca9
          rw [upd_self] at cb9
          have HVA := hid hva.1
          have hnn : na = n9 := by
            rw [hva.2, HF.out.1 j hpp, List.length_append]
            exact HN9.out.symm
          subst hnn
          have la9 := HA.out.a.lt
          have lb9 := HA.out.b.lt
          clear hva d8 f8 l8 cw hvb lwb
          have HLA : Hid (Ls EM w10 (.slice q9 na c9) (X j)) := by
            have h1 := HA.out.b.own j hpp
            rw [upd_self, upd_self] at h1
            have h2 := owns_ls (E := EM) h1
            rw [← HF.out.1 j hpp] at h2
            exact h2
          have HLB : Hid (Ls EM w10 (.slice pa na ca) (X j)) := by
            have h1 := HA.out.a.own j hpp
            rw [HVA.out] at h1
            exact owns_ls (E := EM) h1
          have hme : ∀ nn oo, Calls Try.prog 12 #[.slice q9 na c9, .slice pa na ca] (grow (w10.drewN nn) oo) fun e w' => e = .returned (.bool true) ∧ Gr (grow (w10.drewN nn) oo) w' := fun nn oo => messages_eq _ (HLA.out.below (((Gr.refl w10).drewN nn).grown oo).below) (HLB.out.below (((Gr.refl w10).drewN nn).grown oo).below) (by have h1 := HF.out.2 j hpp; omega)
          have ga := fun nn oo => (((((Gr.refl w10).drewN nn).grown oo).cell la9).trans ca9)
          have gb' := fun nn oo => (((((Gr.refl w10).drewN nn).grown oo).cell lb9).trans cb9)
          go_wp2_with fail
          go_quiet_grown (first | (go_at_call 12; refine Calls.grown_of (v := .bool true) (hme _ _)))
          go_wp2_with fail
          go_roundw
          case rel =>
            refine ⟨j + 1, hjl, by simp, _, _, _, _, _, _, HA.out.new (((Gr.refl _).drewN _).grown _).below, HFT.out, fun q hq => ?_⟩
            by_cases e : q = j
            · rw [e, upd_self]
            · rw [upd_ne _ _ e]; exact HE.out q (by omega)
          case measure => simp [RowKit.intOf]; omega
        · have hjz : ¬ ((j : Int) < 5) := by omega
          have hj5 : j = 5 := by omega
          have htt := total_any wr HS.out.q (by omega)
          have h0 : tot 5 Q = 0 := tot_nil (fun p hp => HE.out p (by omega))
          have hcn := counts_any wr HS.out.q (by omega) (by rw [h0]; decide)
          rw [h0] at htt
          have hc0 : ctsTo Q 5 = [] := by
            have h1 := ctsTo_len Q 5
            have h2 : sumTo (fun i => (Q i).length) 5 = 0 := h0
            exact List.eq_nil_of_length_eq_zero (by omega)
          rw [hc0] at hcn
          go_wp2_with fail
          refine htt.mono ?_
          rintro e w9 ⟨rfl, rfl⟩
          go_wp2_with fail
          refine hcn.mono ?_
          rintro e w10 ⟨u, rfl, ⟨q, c4, rfl⟩, h4⟩
          go_wp2
          go_ret
          exact ⟨rfl, HS.out.bl.trans (h4.out.2.mono HS.out.bl.size)⟩
end Go.Proofs.Ytnmcpedldphgjaa.Qe
