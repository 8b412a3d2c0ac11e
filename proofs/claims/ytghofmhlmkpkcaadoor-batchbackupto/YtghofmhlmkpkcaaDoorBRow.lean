import Derived.Test.YtghofmhlmkpkcaaDoorBGet
import Derived.Test.YtghofmhlmkpkcaaDoorBRowP
namespace Go.Proofs.YtghofmhlmkpkcaaDoor.Wi
open Go.RowKit Go.Sort
attribute [local go_sem ↓] Go.wp_at_zero Go.wp_at_succ
theorem and127 (x : Int) : bits .and .i64 x 127 = x % 128 := by
  show IntKind.i64.wrap ((BitVec.ofInt 64 x &&& BitVec.ofInt 64 127).toNat : Int) = _
  have h1 : (BitVec.ofInt 64 x &&& BitVec.ofInt 64 127).toNat = (x % 18446744073709551616).toNat % 128 := by
    rw [BitVec.toNat_and, BitVec.toNat_ofInt, BitVec.toNat_ofInt]
    show (x % 18446744073709551616).toNat &&& 127 = _
    exact Nat.and_two_pow_sub_one_eq_mod _ 7
  rw [h1, IntKind.wrap_i64]
  omega
set_option maxHeartbeats 2000000 in
theorem later_any (a b c x y z : Nat) (w : World) : Calls Tryd.prog 35 #[.agg #[.int .u64 a, .int .u64 b, .int .u64 c], .agg #[.int .u64 x, .int .u64 y, .int .u64 z]] w fun e w' => e = .returned (.bool (decide (lat a b c x y z))) ∧ Gr w w' := by
  by_cases h1 : a = x
  · have z1 : (a : Int) = (x : Int) := by omega
    by_cases h2 : b = y
    · have z2 : (b : Int) = (y : Int) := by omega
      have hd : decide (lat a b c x y z) = decide (z < c) := decide_eq_decide.2 (by unfold lat; omega)
      rw [hd]
      clear hd h1 h2
      go_enter Tryd.func35, Tryd.ntmps35
      go_wp2_with fail
      go_ret
      exact ⟨rfl, ((Gr.refl _).alloc _).alloc _⟩
    · have z2 : ¬ (b : Int) = (y : Int) := by omega
      have hd : decide (lat a b c x y z) = decide (y < b) := decide_eq_decide.2 (by unfold lat; omega)
      rw [hd]
      clear hd h1 h2
      go_enter Tryd.func35, Tryd.ntmps35
      go_wp2_with fail
      go_ret
      exact ⟨rfl, ((Gr.refl _).alloc _).alloc _⟩
  · have z1 : ¬ (a : Int) = (x : Int) := by omega
    have hd : decide (lat a b c x y z) = decide (x < a) := decide_eq_decide.2 (by unfold lat; omega)
    rw [hd]
    clear hd h1
    go_enter Tryd.func35, Tryd.ntmps35
    go_wp2_with fail
    go_ret
    exact ⟨rfl, ((Gr.refl _).alloc _).alloc _⟩
/-- While a row is made: the last stamp's box, the list. -/
structure Wf (w wr : World) (B4 : Nat) (la : Value) (s : Cx) (acc : List Cx) : Prop where
  bl : Below w.heap.size w wr
  n4 : w.heap.size ≤ B4
  b4 : wr.heap[B4]? = some (.cells #[.int .i64 s.pl, .int .u64 (s.A : Nat), .int .u64 (s.B : Nat), .int .u64 (s.C : Nat)] 41 (0, 0))
  ro : wr.ownsRow w.heap.size 43 5 la acc.length (fl EC acc)
  ne : la.ownBlock ≠ some B4
section
variable {w wr : World} {B4 : Nat} {la : Value} {s : Cx} {acc : List Cx}
theorem Wf.lt (h : Wf w wr B4 la s acc) : B4 < wr.heap.size := (Array.getElem?_eq_some_iff.1 h.b4).1
theorem Wf.gr (h : Wf w wr B4 la s acc) {w2 : World} (hg : Gr wr w2) : Wf w w2 B4 la s acc :=
  ⟨h.bl.trans (hg.below.mono h.bl.size), h.n4, (hg.below.block B4 h.lt).trans h.b4, owns_below h.ro hg.below, h.ne⟩
theorem Wf.grow (h : Wf w wr B4 la s acc) {w2 : World} {lb : Value} {acc2 : List Cx} (ho : w2.ownsRow w.heap.size 43 5 lb acc2.length (fl EC acc2)) (ht : Tn la lb wr w2) : Wf w w2 B4 lb s acc2 := by
  refine ⟨h.bl.trans (ht.1.below h.bl.size (fun k hk => (h.ro.lt k hk).1)), h.n4, (ht.1.block B4 h.lt h.ne).trans h.b4, ho, fun e => ?_⟩
  rcases ht.2 _ e with h1 | h1
  · exact h.ne h1
  · have := h.lt; omega
theorem Wf.last (h : Wf w wr B4 la s acc) {w2 : World} (d : Cx) (hk : Kp (fun k => k = B4) wr w2) (hb : w2.heap[B4]? = some (.cells #[.int .i64 d.pl, .int .u64 (d.A : Nat), .int .u64 (d.B : Nat), .int .u64 (d.C : Nat)] 41 (0, 0))) : Wf w w2 B4 la d acc :=
  ⟨h.bl.trans (hk.below h.bl.size (fun _ hk => hk ▸ h.n4)), h.n4, hb, owns_kp hk h.ro (fun _ hk e => h.ne (e ▸ hk)), h.ne⟩
end
theorem sbox_at {w : World} {b : Nat} {s : Cx} (h : w.heap[b]? = some (.cells #[.int .i64 s.pl, .int .u64 (s.A : Nat), .int .u64 (s.B : Nat), .int .u64 (s.C : Nat)] 41 (0, 0))) : w.cell? ⟨b, 0, none⟩ = some (.int .i64 s.pl) ∧ w.cell? ⟨b, 1, none⟩ = some (.int .u64 (s.A : Nat)) ∧ w.cell? ⟨b, 2, none⟩ = some (.int .u64 (s.B : Nat)) ∧ w.cell? ⟨b, 3, none⟩ = some (.int .u64 (s.C : Nat)) ∧ b < w.heap.size := by
  refine ⟨?_, ?_, ?_, ?_, (Array.getElem?_eq_some_iff.1 h).1⟩
  all_goals simp only [World.cell?, h]
  all_goals rfl
theorem set4 {w : World} {b : Nat} {x0 x1 x2 x3 : Value} {t : TypeId} (h : w.heap[b]? = some (.cells #[x0, x1, x2, x3] t (0, 0))) (a0 a1 a2 a3 : Value) :
    ((((w.setCell ⟨b, 0, none⟩ a0).setCell ⟨b, 1, none⟩ a1).setCell ⟨b, 2, none⟩ a2).setCell ⟨b, 3, none⟩ a3).heap[b]? = some (.cells #[a0, a1, a2, a3] t (0, 0)) ∧ Kp (fun k => k = b) w ((((w.setCell ⟨b, 0, none⟩ a0).setCell ⟨b, 1, none⟩ a1).setCell ⟨b, 2, none⟩ a2).setCell ⟨b, 3, none⟩ a3) := by
  obtain ⟨h0, k0⟩ := tk_set h 0 a0
  obtain ⟨h1, k1⟩ := tk_set h0 1 a1
  obtain ⟨h2, k2⟩ := tk_set h1 2 a2
  obtain ⟨h3, k3⟩ := tk_set h2 3 a3
  refine ⟨?_, ((k0.trans k1 (fun _ _ h => h)).trans k2 (fun _ _ h => h)).trans k3 (fun _ _ h => h)⟩
  rw [h3]
  simp only [List.setIfInBounds_toArray, List.set_cons_zero, List.set_cons_succ]
set_option maxHeartbeats 8000000 in
set_option maxRecDepth 100000 in
theorem row_any {v : Value} {l : List Cx} (w : World) (hL : Ls EC w v l) (hl : l.length ≤ 1048576) :
    Calls Tryd.prog 11 #[v] w fun e w' => ∃ d, e = .returned d ∧ w'.ownsRow w.heap.size 43 5 d (rowL frs l).length (fl EC (rowL frs l)) ∧ Below w.heap.size w w' := by
  obtain ⟨pv, cv, rfl⟩ := hL.form
  obtain ⟨n, hn⟩ : ∃ n, l.length = n := ⟨_, rfl⟩
  have HL : Hid (Ls EC w (.slice pv n cv) l) := by rw [← hn]; exact hL
  rw [hn] at hl ⊢
  have HN := hid hn
  obtain ⟨W1, hW1⟩ : ∃ W, W = w.alloc (.cells #[.int .i64 (-1), .int .u64 0, .int .u64 0, .int .u64 0] 41) := ⟨_, rfl⟩
  obtain ⟨B4, hB4⟩ : ∃ B, B = w.heap.size := ⟨_, rfl⟩
  have G1 : Gr w W1 := by rw [hW1]; exact (Gr.refl _).alloc _
  have F1 : Hid (Wf w W1 B4 (.slice none 0 0) frs []) := ⟨G1.below, by omega, by rw [hW1, hB4]; exact heap_new' _ _, World.ownsRow_nil _ _ _ _, by simp [Value.ownBlock]⟩
  have HLL := hid hl
  clear hL hn G1
  go_enter Tryd.func11, Tryd.ntmps11
  go_wp2_with fail
  rw [← hW1, ← hB4]
  clear hW1 hB4
  go_loopw [3, 5] (fun s3 s5 wr => ∃ (k : Nat) (la : Value) (s : Cx) (acc : List Cx), k ≤ n ∧ la = s3 ∧ s5 = .int .i64 k ∧ Hid (Wf w wr B4 la s acc ∧ rowL frs l = acc ++ rowL s (l.drop k) ∧ acc.length ≤ k)) (fun _ s5 _ => n - (RowKit.intOf s5).toNat)
  case atStart => exact ⟨0, _, frs, [], Nat.zero_le _, rfl, rfl, F1.out, rfl, Nat.zero_le _⟩
  case round =>
    obtain ⟨k, la, s, acc, hk, rfl, rfl, HI⟩ := hrel
    by_cases hlt : k < n
    · have hltz : (k : Int) < (n : Int) := by omega
      have hk0 : (0 : Int) ≤ (k : Int) := by omega
      obtain ⟨c, hc⟩ : ∃ c, l[k]? = some c := ⟨l[k]'(by rw [HN.out]; exact hlt), by simp⟩
      obtain ⟨b1, o1, c1, e1, z1, x0, x1, x2, x3, x4⟩ := ls_atC (HL.out.below HI.out.1.bl) hc
      simp only [Value.slice.injEq] at e1
      obtain ⟨rfl, -, rfl⟩ := e1
      have HST := hid (rowL_step (s := s) hc)
      obtain ⟨y0, y1, y2, y3, y4⟩ := sbox_at HI.out.1.b4
      obtain ⟨d, hd⟩ : ∃ d, nrm c = d := ⟨_, rfl⟩
      have h0 : bits .and .i64 c.pl 127 = d.pl := by rw [← hd]; exact and127 c.pl
      have h1 : c.N.tmod 2147483648 = d.N := by rw [← hd]; rfl
      have h2 : c.A = d.A := by rw [← hd]; rfl
      have h3 : c.B = d.B := by rw [← hd]; rfl
      have h4 : c.C = d.C := by rw [← hd]; rfl
      rw [hd] at HST
      rw [h2] at x1
      rw [h3] at x2
      rw [h4] at x3
      have hwk : wrap64 ((k : Int) + 1) = ((k + 1 : Nat) : Int) := by unfold wrap64; omega
      obtain ⟨W6, hW6⟩ : ∃ W, W = wr.alloc (.cells #[.int .i64 d.pl, .int .u64 (d.A : Nat), .int .u64 (d.B : Nat), .int .u64 (d.C : Nat), .int .i64 d.N] 43) := ⟨_, rfl⟩
      obtain ⟨B6, hB6⟩ : ∃ B, B = wr.heap.size := ⟨_, rfl⟩
      have G6 : Gr wr W6 := by rw [hW6]; exact (Gr.refl _).alloc _
      have HBX : Hid (W6.heap[B6]? = some (.cells #[.int .i64 d.pl, .int .u64 (d.A : Nat), .int .u64 (d.B : Nat), .int .u64 (d.C : Nat), .int .i64 d.N] 43 (0, 0))) := by rw [hW6, hB6]; exact heap_new' _ _
      have P6 := hid (HI.out.1.gr G6)
      have HB6 : Hid (B4 < B6) := by show _ < _; rw [hB6]; exact HI.out.1.lt
      clear hc G6 hd
      go_upto_region 9 with fail
      rw [← hW6, ← hB6]
      clear hW6 hB6 h0 h1 h2 h3 h4 x0 x1 x2 x3 x4 y0 y1 y2 y3 y4 z1
      obtain ⟨y0, y1, y2, y3, y4⟩ := sbox_at P6.out.b4
      obtain ⟨x0, x1, x2, x3, x4, x5⟩ := box_at HBX.out
      by_cases q0 : d.N = 0
      · have HDR : Hid (drops s d) := Or.inl q0
        go_wp2_with fail
        go_roundw
        case rel =>
          refine ⟨k + 1, la, s, acc, by omega, rfl, by first | go_num | rw [hwk] | rfl, P6.out, ?_, by have := HI.out.2.2; omega⟩
          rw [HI.out.2.1, HST.out, if_pos HDR.out]
        case measure =>
          (try rw [hwk])
          simp [RowKit.intOf]
          omega
      have HQ0 := hid q0
      by_cases q1 : d.pl < s.pl
      · have HDR : Hid (drops s d) := Or.inr (Or.inl q1)
        go_wp2_with fail
        go_roundw
        case rel =>
          refine ⟨k + 1, la, s, acc, by omega, rfl, by first | go_num | rw [hwk] | rfl, P6.out, ?_, by have := HI.out.2.2; omega⟩
          rw [HI.out.2.1, HST.out, if_pos HDR.out]
        case measure =>
          (try rw [hwk])
          simp [RowKit.intOf]
          omega
      have HQ1 := hid q1
      by_cases q2 : d.pl = s.pl
      · have HQ2 := hid q2
        have hlt9 := later_any d.A d.B d.C s.A s.B s.C W6
        go_wp2_with fail
        refine hlt9.mono ?_
        rintro r w8 ⟨rfl, g8⟩
        have P8 := hid (P6.out.gr g8)
        have HB8 := hid ((g8.below.block B6 x5).trans HBX.out)
        clear hlt9 g8 x0 x1 x2 x3 x4 x5 y0 y1 y2 y3 y4 q2
        by_cases q3 : lat d.A d.B d.C s.A s.B s.C
        · have HDR : Hid (¬ drops s d) := fun h => by
            rcases h with h | h | h
            · exact HQ0.out h
            · have hq1 := HQ1.out
              omega
            · exact h.2 q3
          rw [decide_eq_true q3]
          have P0 := P8.out.b4
          have HX := hid (box_at HB8.out)
          obtain ⟨v0, v1, v2, v3, v4⟩ := sbox_at P0
          obtain ⟨u0, u1, u2, u3, u4, u5⟩ := HX.out
          have f0 := (tk_store P0).2 0
          have f1 := (tk_store P0).2 1
          have f2 := (tk_store P0).2 2
          have f3 := (tk_store P0).2 3
          obtain ⟨WL, hWL⟩ : ∃ W, W = (((w8.setCell ⟨B4, 0, none⟩ (.int .i64 d.pl)).setCell ⟨B4, 1, none⟩ (.int .u64 (d.A : Nat))).setCell ⟨B4, 2, none⟩ (.int .u64 (d.B : Nat))).setCell ⟨B4, 3, none⟩ (.int .u64 (d.C : Nat)) := ⟨_, rfl⟩
          obtain ⟨g1, g2⟩ := set4 P0 (.int .i64 d.pl) (.int .u64 (d.A : Nat)) (.int .u64 (d.B : Nat)) (.int .u64 (d.C : Nat))
          rw [← hWL] at g1 g2
          have PL := hid (P8.out.last d g2 g1)
          have hs6 := (g2.block B6 u5 (by have := HB6.out; omega)).trans HB8.out
          obtain ⟨t0, t1, t2, t3, t4, t5⟩ := box_at hs6
          obtain ⟨pl, nl, cl, hla⟩ : ∃ p n c, la = .slice p n c := by
            obtain ⟨p, c, h⟩ := (owns_ls (E := EC) HI.out.1.ro).form
            exact ⟨p, _, c, h⟩
          have hbig : Hid ((acc.length + 1) * 40 ≤ 140737488355328) := by show _ ≤ _; have h1 := HI.out.2.2; have h2 := HLL.out; omega
          have hle : Hid (w.heap.size ≤ WL.heap.size) := PL.out.bl.size
          subst hla
          clear g1 g2 hs6 P0
          have T0 := hid t0
          have T1 := hid t1
          have T2 := hid t2
          have T3 := hid t3
          have T4 := hid t4
          have T5 := hid t5
          clear t0 t1 t2 t3 t4 t5
          go_upto_region 11 with fail
          rw [← hWL]
          clear hWL v0 v1 v2 v3 v4 u0 u1 u2 u3 u4 u5 f0 f1 f2 f3
          have t0 := T0.out
          have t1 := T1.out
          have t2 := T2.out
          have t3 := T3.out
          have t4 := T4.out
          have t5 := T5.out
          go_wp2_with (at_builtin; refine Hid.out ?_)
          refine hid ?_
          refine wpC1 (w := WL) rfl _ _ rfl w.heap.size (.slice pl nl cl) acc rfl PL.out.ro d rfl hbig.out hle.out _ ?_
          intro lb w9 ho9 ht9
          have P9 := hid (PL.out.grow ho9.out ht9.out)
          clear ho9 ht9
          go_wp2_with fail
          go_roundw
          case rel =>
            refine ⟨k + 1, lb, d, acc ++ [d], by omega, rfl, by first | go_num | rw [hwk] | rfl, P9.out, ?_, by have := HI.out.2.2; rw [List.length_append, List.length_singleton]; omega⟩
            rw [HI.out.2.1, HST.out, if_neg HDR.out]
            simp
          case measure =>
            (try rw [hwk])
            simp [RowKit.intOf]
            omega
        · have HDR : Hid (drops s d) := Or.inr (Or.inr ⟨HQ2.out, q3⟩)
          rw [decide_eq_false q3]
          go_wp2_with fail
          go_roundw
          case rel =>
            refine ⟨k + 1, la, s, acc, by omega, rfl, by first | go_num | rw [hwk] | rfl, P8.out, ?_, by have := HI.out.2.2; omega⟩
            rw [HI.out.2.1, HST.out, if_pos HDR.out]
          case measure =>
            (try rw [hwk])
            simp [RowKit.intOf]
            omega
      · have HDR : Hid (¬ drops s d) := fun h => by
          rcases h with h | h | h
          · exact HQ0.out h
          · have hq1 := HQ1.out
            omega
          · exact q2 h.1
        clear x0 x1 x2 x3 x4 x5 y0 y1 y2 y3 y4
        have P0 := P6.out.b4
        have HX := hid (box_at HBX.out)
        obtain ⟨v0, v1, v2, v3, v4⟩ := sbox_at P0
        obtain ⟨u0, u1, u2, u3, u4, u5⟩ := HX.out
        have f0 := (tk_store P0).2 0
        have f1 := (tk_store P0).2 1
        have f2 := (tk_store P0).2 2
        have f3 := (tk_store P0).2 3
        obtain ⟨WL, hWL⟩ : ∃ W, W = (((W6.setCell ⟨B4, 0, none⟩ (.int .i64 d.pl)).setCell ⟨B4, 1, none⟩ (.int .u64 (d.A : Nat))).setCell ⟨B4, 2, none⟩ (.int .u64 (d.B : Nat))).setCell ⟨B4, 3, none⟩ (.int .u64 (d.C : Nat)) := ⟨_, rfl⟩
        obtain ⟨g1, g2⟩ := set4 P0 (.int .i64 d.pl) (.int .u64 (d.A : Nat)) (.int .u64 (d.B : Nat)) (.int .u64 (d.C : Nat))
        rw [← hWL] at g1 g2
        have PL := hid (P6.out.last d g2 g1)
        have hs6 := (g2.block B6 u5 (by have := HB6.out; omega)).trans HBX.out
        obtain ⟨t0, t1, t2, t3, t4, t5⟩ := box_at hs6
        obtain ⟨pl, nl, cl, hla⟩ : ∃ p n c, la = .slice p n c := by
          obtain ⟨p, c, h⟩ := (owns_ls (E := EC) HI.out.1.ro).form
          exact ⟨p, _, c, h⟩
        have hbig : Hid ((acc.length + 1) * 40 ≤ 140737488355328) := by show _ ≤ _; have h1 := HI.out.2.2; have h2 := HLL.out; omega
        have hle : Hid (w.heap.size ≤ WL.heap.size) := PL.out.bl.size
        subst hla
        clear g1 g2 hs6 P0
        have T0 := hid t0
        have T1 := hid t1
        have T2 := hid t2
        have T3 := hid t3
        have T4 := hid t4
        have T5 := hid t5
        clear t0 t1 t2 t3 t4 t5
        go_upto_region 11 with fail
        rw [← hWL]
        clear hWL v0 v1 v2 v3 v4 u0 u1 u2 u3 u4 u5 f0 f1 f2 f3
        have t0 := T0.out
        have t1 := T1.out
        have t2 := T2.out
        have t3 := T3.out
        have t4 := T4.out
        have t5 := T5.out
        go_wp2_with (at_builtin; refine Hid.out ?_)
        refine hid ?_
        refine wpC1 (w := WL) rfl _ _ rfl w.heap.size (.slice pl nl cl) acc rfl PL.out.ro d rfl hbig.out hle.out _ ?_
        intro lb w9 ho9 ht9
        have P9 := hid (PL.out.grow ho9.out ht9.out)
        clear ho9 ht9
        go_wp2_with fail
        go_roundw
        case rel =>
          refine ⟨k + 1, lb, d, acc ++ [d], by omega, rfl, by first | go_num | rw [hwk] | rfl, P9.out, ?_, by have := HI.out.2.2; rw [List.length_append, List.length_singleton]; omega⟩
          rw [HI.out.2.1, HST.out, if_neg HDR.out]
          simp
        case measure =>
          (try rw [hwk])
          simp [RowKit.intOf]
          omega
    · have hltz : ¬ (k : Int) < (n : Int) := by omega
      have HE : Hid (rowL frs l = acc) := by
        show _ = _
        rw [HI.out.2.1, List.drop_of_length_le (by rw [HN.out]; omega)]
        simp [rowL]
      go_wp2_with fail
      go_ret
      rw [HE.out]
      exact ⟨_, rfl, HI.out.1.ro, HI.out.1.bl⟩
end Go.Proofs.YtghofmhlmkpkcaaDoor.Wi
