import Derived.Test.YtplbcamliiajdaaYOps
namespace Go.Proofs.Ytplbcamliiajdaa
open Go.RowKit Go.Sort Go.Maps
attribute [local go_sem ↓] Go.wp_at_zero Go.wp_at_succ

/-- A tally's blocks and its order's function. -/
structure Tb where
  t : Nat
  b : Nat
  g : Nat
abbrev tp (x : Tb) : Value := .pointer (some ⟨x.t, 0, none⟩)
theorem Tl.nb {w : World} {tb b g n tb' b' g' n' : Nat} {f f' : BS → Int} (h : Tl w tb b g n f) (h' : Tl w tb' b' g' n' f') : tb ≠ b' := fun e => by
  obtain ⟨D, ⟨es, clock, hb, _⟩, _⟩ := h'.ta
  rw [← e, h.blk] at hb
  cases hb
/-- Four tallies beside one another. -/
structure T4 (w0 wr : World) (x1 x2 x3 x4 : Tb) (n1 n2 n3 n4 : Nat) (f1 f2 f3 f4 : BS → Int) : Prop where
  h1 : Tl wr x1.t x1.b x1.g n1 f1
  h2 : Tl wr x2.t x2.b x2.g n2 f2
  h3 : Tl wr x3.t x3.b x3.g n3 f3
  h4 : Tl wr x4.t x4.b x4.g n4 f4
  bl : Below w0.heap.size w0 wr
  p1 : w0.heap.size ≤ x1.b
  p2 : w0.heap.size ≤ x2.b
  p3 : w0.heap.size ≤ x3.b
  p4 : w0.heap.size ≤ x4.b
  d12 : x1.b ≠ x2.b
  d13 : x1.b ≠ x3.b
  d14 : x1.b ≠ x4.b
  d23 : x2.b ≠ x3.b
  d24 : x2.b ≠ x4.b
  d34 : x3.b ≠ x4.b
section
variable {w0 wr wr' : World} {x1 x2 x3 x4 : Tb} {n1 n2 n3 n4 m : Nat} {f1 f2 f3 f4 f : BS → Int}
theorem T4.bel (h : T4 w0 wr x1 x2 x3 x4 n1 n2 n3 n4 f1 f2 f3 f4) (hb : Below wr.heap.size wr wr') : T4 w0 wr' x1 x2 x3 x4 n1 n2 n3 n4 f1 f2 f3 f4 :=
  ⟨h.h1.below hb, h.h2.below hb, h.h3.below hb, h.h4.below hb, h.bl.trans (hb.mono h.bl.size), h.p1, h.p2, h.p3, h.p4, h.d12, h.d13, h.d14, h.d23, h.d24, h.d34⟩
theorem T4.gr (h : T4 w0 wr x1 x2 x3 x4 n1 n2 n3 n4 f1 f2 f3 f4) (hb : Gr wr wr') : T4 w0 wr' x1 x2 x3 x4 n1 n2 n3 n4 f1 f2 f3 f4 := h.bel hb.below
theorem T4.s1 (h : T4 w0 wr x1 x2 x3 x4 n1 n2 n3 n4 f1 f2 f3 f4) (ht : Tl wr' x1.t x1.b x1.g m f) (hk : Kp (fun k => k = x1.b) wr wr') : T4 w0 wr' x1 x2 x3 x4 m n2 n3 n4 f f2 f3 f4 :=
  ⟨ht, h.h2.kp hk (h.h2.nb h.h1) h.d12.symm, h.h3.kp hk (h.h3.nb h.h1) h.d13.symm, h.h4.kp hk (h.h4.nb h.h1) h.d14.symm, h.bl.trans (hk.below h.bl.size (fun k hk => by rw [hk]; exact h.p1)), h.p1, h.p2, h.p3, h.p4, h.d12, h.d13, h.d14, h.d23, h.d24, h.d34⟩
theorem T4.s2 (h : T4 w0 wr x1 x2 x3 x4 n1 n2 n3 n4 f1 f2 f3 f4) (ht : Tl wr' x2.t x2.b x2.g m f) (hk : Kp (fun k => k = x2.b) wr wr') : T4 w0 wr' x1 x2 x3 x4 n1 m n3 n4 f1 f f3 f4 :=
  ⟨h.h1.kp hk (h.h1.nb h.h2) h.d12, ht, h.h3.kp hk (h.h3.nb h.h2) h.d23.symm, h.h4.kp hk (h.h4.nb h.h2) h.d24.symm, h.bl.trans (hk.below h.bl.size (fun k hk => by rw [hk]; exact h.p2)), h.p1, h.p2, h.p3, h.p4, h.d12, h.d13, h.d14, h.d23, h.d24, h.d34⟩
theorem T4.s3 (h : T4 w0 wr x1 x2 x3 x4 n1 n2 n3 n4 f1 f2 f3 f4) (ht : Tl wr' x3.t x3.b x3.g m f) (hk : Kp (fun k => k = x3.b) wr wr') : T4 w0 wr' x1 x2 x3 x4 n1 n2 m n4 f1 f2 f f4 :=
  ⟨h.h1.kp hk (h.h1.nb h.h3) h.d13, h.h2.kp hk (h.h2.nb h.h3) h.d23, ht, h.h4.kp hk (h.h4.nb h.h3) h.d34.symm, h.bl.trans (hk.below h.bl.size (fun k hk => by rw [hk]; exact h.p3)), h.p1, h.p2, h.p3, h.p4, h.d12, h.d13, h.d14, h.d23, h.d24, h.d34⟩
theorem T4.s4 (h : T4 w0 wr x1 x2 x3 x4 n1 n2 n3 n4 f1 f2 f3 f4) (ht : Tl wr' x4.t x4.b x4.g m f) (hk : Kp (fun k => k = x4.b) wr wr') : T4 w0 wr' x1 x2 x3 x4 n1 n2 n3 m f1 f2 f3 f :=
  ⟨h.h1.kp hk (h.h1.nb h.h4) h.d14, h.h2.kp hk (h.h2.nb h.h4) h.d24, h.h3.kp hk (h.h3.nb h.h4) h.d34, ht, h.bl.trans (hk.below h.bl.size (fun k hk => by rw [hk]; exact h.p4)), h.p1, h.p2, h.p3, h.p4, h.d12, h.d13, h.d14, h.d23, h.d24, h.d34⟩
end
/-- A tally anew. -/
theorem made_tb (k : Int) (hk : k = 0 ∨ k = 1 ∨ k = 2) (w : World) : Calls Try.prog 6 #[.int .i64 k] w fun e w' => ∃ x : Tb, e = .returned (tp x) ∧ w.heap.size ≤ x.t ∧ w.heap.size ≤ x.b ∧ OrdOk x.g (cf k) ∧ Tl w' x.t x.b x.g 0 (fun _ => 0) ∧ Gr w w' := by
  refine (made_any k hk w).mono ?_
  rintro e w1 ⟨tb, b, g, rfl, h1, h2, h3, h4, h5⟩
  exact ⟨⟨tb, b, g⟩, rfl, h1, h2, h3, h4, h5⟩
/-- Add of a small number. -/
theorem add_small {tb b g n : Nat} {f : BS → Int} (x : BS) (v : Int) (w : World) (h : Tl w tb b g n f) (hn : n < 1000) (hv : -999 ≤ v ∧ v ≤ 999) (hf : -1000000 ≤ f x ∧ f x ≤ 1000000) :
    Calls Try.prog 8 #[.pointer (some ⟨tb, 0, none⟩), .string x.1, .int .i64 v] w fun e w' => e = .returned (.int .i64 0) ∧ Tl w' tb b g (n + 1) (upd f x (f x + v)) ∧ Kp (fun k => k = b) w w' := by
  have e := add_ok (f := f) (x := x) (v := v) (byd_f.2 (by omega)) (byd_f.2 (by omega))
  have := add_any x v w h (by unfold maxLen; omega)
  rw [e.1, e.2] at this
  exact this

set_option maxHeartbeats 8000000 in
set_option maxRecDepth 100000 in
theorem tallyAdds_any (v0 : Value) (ops : List Opx) (turn : Int) (w : World) (hl : Lo w v0 ops) (hlen : ops.length ≤ 9223372036854775807) :
    Calls Try.prog 3 #[v0, .int .i64 turn] w fun e w' => e = .returned (.bool true) ∧ Below w.heap.size w w' := by
  obtain ⟨p0, c0, rfl, hc0⟩ := hl.form
  have HL0 : Hid (Lo w (.slice p0 ops.length c0) ops) := hl
  clear hl
  have hm0 := fun W => made_tb 0 (by decide) W
  have hm1 := fun W => made_tb 1 (by decide) W
  have hm2 := fun W => made_tb 2 (by decide) W
  go_enter Try.func3, Try.ntmps3
  go_upto_if 20 with fail
  go_cut [0] (fun s0 w' => ∃ (l : List Opx) (p : Option Addr) (c : Nat), l.length ≤ 60 ∧ s0 = .slice p l.length c ∧ Hid (Lo w (.slice p l.length c) l) ∧ w' = w)
  case first =>
    by_cases h60 : ops.length ≤ 60
    · have h60z : ¬ (60 : Int) < (ops.length : Int) := by omega
      go_wp2_with fail
      go_meet
      exact ⟨ops, p0, c0, h60, rfl, HL0, rfl⟩
    · have h60z : (60 : Int) < (ops.length : Int) := by omega
      have h60c : (60 : Int) ≤ (c0 : Int) := by omega
      have HT := HL0.out.cut (k := 60) (by omega)
      have e60 : (ops.take 60).length = 60 := by rw [List.length_take]; omega
      obtain ⟨b, off, c, hv, hc, hb, _⟩ | ⟨_, hv⟩ := HL0.out.symm
      · cases hv
        go_wp2_with fail
        go_meet
        refine ⟨ops.take 60, _, _, by omega, by rw [e60], by rw [e60]; exact HT, rfl⟩
      · simp at hv
        exact absurd hv.2.1 (by omega)
  case rest =>
    obtain ⟨l, p, c, hl60, rfl, HL, rfl⟩ := hcut
    clear HL0 hlen hc0
    go_wp2_with fail
    refine (hm0 _).mono ?_
    rintro e w1 ⟨x1, rfl, a1, b1, o1, t1, g1⟩
    go_wp2_with fail
    refine (hm1 _).mono ?_
    rintro e w2 ⟨x2, rfl, a2, b2, o2, t2, g2⟩
    go_wp2_with fail
    refine (hm0 _).mono ?_
    rintro e w3 ⟨x3, rfl, a3, b3, o3, t3, g3⟩
    go_wp2_with fail
    refine (hm2 _).mono ?_
    rintro e w4 ⟨x4, rfl, a4, b4, o4, t4, g4⟩
    have z1 := t1.ta.lt
    have z2 := t2.ta.lt
    have z3 := t3.ta.lt
    have s1 := g1.size
    have s2 := g2.size
    have s3 := g3.size
    have HQ4 : T4 wc w4 x1 x2 x3 x4 0 0 0 0 (fun _ => 0) (fun _ => 0) (fun _ => 0) (fun _ => 0) :=
      ⟨((t1.gr g2).gr g3).gr g4, (t2.gr g3).gr g4, t3.gr g4, t4, (((g1.trans g2).trans g3).trans g4).below, b1, by omega, by omega, by omega, by omega, by omega, by omega, by omega, by omega, by omega⟩
    have HQ : Hid (T4 wc w4 x1 x2 x3 x4 0 0 0 0 (fun _ => 0) (fun _ => 0) (fun _ => 0) (fun _ => 0)) := HQ4
    clear HQ4 t1 t2 t3 t4 g1 g2 g3 g4 a1 a2 a3 a4 b1 b2 b3 b4 z1 z2 z3 s1 s2 s3 hm0 hm1 hm2 o2 o4
    go_wp2_with fail
    refine (known_any _).mono ?_
    rintro e w5 ⟨rfl, hb5⟩
    have HQ5 : Hid (T4 wc w5 x1 x2 x3 x4 0 0 0 0 (fun _ => 0) (fun _ => 0) (fun _ => 0) (fun _ => 0)) := HQ.out.bel hb5
    clear HQ hb5
    go_wp2_with fail
    go_loopw [9, 10, 11, 12, 13, 47] (fun _ _ _ _ _ s47 wr => ∃ (k : Nat) (f3 f4 : BS → Int), k ≤ l.length ∧ s47 = .int .i64 k ∧ Hid ((∀ x, f3 x + f4 x = sumv (l.take k) x ∧ -(999 * (k : Int)) ≤ f3 x ∧ f3 x ≤ 999 * (k : Int) ∧ -(999 * (k : Int)) ≤ f4 x ∧ f4 x ≤ 999 * (k : Int)) ∧ T4 wc wr x1 x2 x3 x4 k k k k (sumv (l.take k)) (sumv (l.reverse.take k)) f3 f4))
      (fun _ _ _ _ _ s47 _ => l.length - (RowKit.intOf s47).toNat)
    case atStart => exact ⟨0, _, _, Nat.zero_le _, rfl, fun x => by simp [sumv], HQ5.out⟩
    case round =>
      clear HQ5
      obtain ⟨k, f3, f4, hk, rfl, HR⟩ := hrel
      by_cases hlt : k < l.length
      · have hltz : (k : Int) < (l.length : Int) := by omega
        obtain ⟨o, ho⟩ : ∃ o, l[k]? = some o := ⟨l[k], by simp⟩
        obtain ⟨q, hq⟩ : ∃ q, l[l.length - 1 - k]? = some q := ⟨l[l.length - 1 - k]'(by omega), by simp⟩
        have HLr := HL.out.below (Nat.le_refl _) HR.out.2.bl
        obtain ⟨bb, off, cc, e1, zb, y0, y1, y2, y3, y4⟩ := HLr.at5 ho
        simp only [Value.slice.injEq] at e1
        obtain ⟨rfl, -, rfl⟩ := e1
        obtain ⟨bb', off', cc', e2, -, v0, v1, v2, v3, v4⟩ := HLr.at5 hq
        simp only [Value.slice.injEq, Option.some.injEq, Addr.mk.injEq] at e2
        obtain ⟨⟨rfl, rfl, -⟩, -, rfl⟩ := e2
        have hqi : ((l.length : Int) - 1 - (k : Int)).toNat = l.length - 1 - k := by omega
        have hqb : (l.length : Int) - 1 - (k : Int) < (l.length : Int) := by omega
        have hqp : (0 : Int) ≤ (l.length : Int) - 1 - (k : Int) := by omega
        have ho1 := md_bd o.n
        have hq1 := md_bd q.n
        unfold md at ho1 hq1
        have HO : Hid (l[k]? = some o) := ho
        have HQ : Hid (l[l.length - 1 - k]? = some q) := hq
        have hst := sumv_bd (l.take k) o.key
        have hsu := sumv_bd (l.reverse.take k) q.key
        rw [List.length_take] at hst hsu
        rw [List.length_reverse] at hsu
        have HST : Hid (-1000000 ≤ sumv (l.take k) o.key ∧ sumv (l.take k) o.key ≤ 1000000) := by constructor <;> omega
        have HSU : Hid (-1000000 ≤ sumv (l.reverse.take k) q.key ∧ sumv (l.reverse.take k) q.key ≤ 1000000) := by constructor <;> omega
        clear ho hq HLr hst hsu
        obtain ⟨W2, hW2⟩ : ∃ W2, W2 = (wr.alloc (.cells #[.int .i64 o.k, .int .i64 o.i, .int .i64 o.j, .string o.key.1, .int .i64 o.n] 27)).alloc (.cells #[.int .i64 q.k, .int .i64 q.i, .int .i64 q.j, .string q.key.1, .int .i64 q.n] 27) := ⟨_, rfl⟩
        have HR2 : Hid (T4 wc W2 x1 x2 x3 x4 k k k k (sumv (l.take k)) (sumv (l.reverse.take k)) f3 f4) := by rw [hW2]; exact HR.out.2.gr (((Gr.refl _).alloc _).alloc _)
        have HZ1 : Hid (x1.b < wr.heap.size ∧ x2.b < wr.heap.size) := ⟨HR.out.2.h1.ta.lt, HR.out.2.h2.ta.lt⟩
        have HK0 : Hid (W2.heap[wr.heap.size]? = some (.cells #[.int .i64 o.k, .int .i64 o.i, .int .i64 o.j, .string o.key.1, .int .i64 o.n] 27 (0, 0))) := by rw [hW2]; exact heap_alloc2_old _ _ _
        have HK1 : Hid (W2.heap[wr.heap.size + 1]? = some (.cells #[.int .i64 q.k, .int .i64 q.i, .int .i64 q.j, .string q.key.1, .int .i64 q.n] 27 (0, 0))) := by rw [hW2]; exact heap_alloc2_new _ _ _
        have hzs : W2.heap.size = wr.heap.size + 1 + 1 := by rw [hW2]; simp
        have HZ2 : Hid (W2.heap.size = wr.heap.size + 1 + 1) := hzs
        have HP : Hid (∀ x, f3 x + f4 x = sumv (l.take k) x ∧ -(999 * (k : Int)) ≤ f3 x ∧ f3 x ≤ 999 * (k : Int) ∧ -(999 * (k : Int)) ≤ f4 x ∧ f4 x ≤ 999 * (k : Int)) := HR.out.1
        have hA1 := add_small o.key (o.n.tmod 1000) W2 HR2.out.h1 (by omega) ho1 HST.out
        clear HR hzs
        subst hW2
        go_wp2_with fail
        refine hA1.mono ?_
        rintro e w6 ⟨rfl, ht6, hk6⟩
        have HR6 : Hid (T4 wc w6 x1 x2 x3 x4 (k + 1) k k k (upd (sumv (l.take k)) o.key (sumv (l.take k) o.key + md o.n)) (sumv (l.reverse.take k)) f3 f4) := HR2.out.s1 ht6 hk6
        have HK60 := (hk6.block wr.heap.size (by rw [HZ2.out]; omega) (by have := HZ1.out.1; omega)).trans HK0.out
        have HK61 := (hk6.block (wr.heap.size + 1) (by rw [HZ2.out]; omega) (by have := HZ1.out.1; omega)).trans HK1.out
        have c63 : w6.cell? ⟨wr.heap.size + 1, 3, none⟩ = some (.string q.key.1) := by simp [World.cell?, HK61]
        have c64 : w6.cell? ⟨wr.heap.size + 1, 4, none⟩ = some (.int .i64 q.n) := by simp [World.cell?, HK61]
        have HK6 : Hid (w6.heap[wr.heap.size]? = some (.cells #[.int .i64 o.k, .int .i64 o.i, .int .i64 o.j, .string o.key.1, .int .i64 o.n] 27 (0, 0))) := HK60
        have HZ6 : Hid (wr.heap.size + 2 ≤ w6.heap.size) := by have := hk6.size; rw [HZ2.out] at this; exact this
        have hA2 := add_small q.key (q.n.tmod 1000) w6 HR6.out.h2 (by omega) hq1 HSU.out
        clear ht6 hk6 HK60 HK61 HR2 hA1 HK0 HK1 HZ2
        go_wp2_with fail
        refine hA2.mono ?_
        rintro e w7 ⟨rfl, ht7, hk7⟩
        have HR7 : Hid (T4 wc w7 x1 x2 x3 x4 (k + 1) (k + 1) k k (upd (sumv (l.take k)) o.key (sumv (l.take k) o.key + md o.n)) (upd (sumv (l.reverse.take k)) q.key (sumv (l.reverse.take k) q.key + md q.n)) f3 f4) := HR6.out.s2 ht7 hk7
        have HK7 := (hk7.block wr.heap.size (by have := HZ6.out; omega) (by have := HZ1.out.2; omega)).trans HK6.out
        have c73 : w7.cell? ⟨wr.heap.size, 3, none⟩ = some (.string o.key.1) := by simp [World.cell?, HK7]
        have hA3 := add_small o.key (o.n.tmod 1000) w7 HR7.out.h3 (by omega) ho1 (by have := HP.out o.key; constructor <;> omega)
        have hA4 := add_small o.key (o.n.tmod 1000) w7 HR7.out.h4 (by omega) ho1 (by have := HP.out o.key; constructor <;> omega)
        have HF1 : Hid (sumv (l.take (k + 1)) = upd (sumv (l.take k)) o.key (sumv (l.take k) o.key + md o.n)) := sumv_take HO.out
        have HF2 : Hid (sumv (l.reverse.take (k + 1)) = upd (sumv (l.reverse.take k)) q.key (sumv (l.reverse.take k) q.key + md q.n)) := sumv_take (rev_get hlt HQ.out)
        clear ht7 hk7 HK7 HR6 hA2 HK6 HZ6 c63 c64 HZ1 v0 v1 v2 v3 v4 y0 y1 y2 y3 y4 zb
        go_wp2_with fail
        · refine hA4.mono ?_
          rintro e w8 ⟨rfl, ht8, hk8⟩
          have HR8 : Hid (T4 wc w8 x1 x2 x3 x4 (k + 1) (k + 1) k (k + 1) (sumv (l.take (k + 1))) (sumv (l.reverse.take (k + 1))) f3 (upd f4 o.key (f4 o.key + md o.n))) := by
            rw [HF1.out, HF2.out]; exact HR7.out.s4 ht8 hk8
          clear ht8 hk8 hA3 hA4
          go_wp2
          refine ⟨⟨k + 1, f3, _, by omega, by go_num, ⟨fun x => ?_, ⟨HR8.out.h1, HR8.out.h2, ⟨HR8.out.h3.blk, HR8.out.h3.ta.mono (Nat.le_succ _), HR8.out.h3.bd⟩, HR8.out.h4, HR8.out.bl, HR8.out.p1, HR8.out.p2, HR8.out.p3, HR8.out.p4, HR8.out.d12, HR8.out.d13, HR8.out.d14, HR8.out.d23, HR8.out.d24, HR8.out.d34⟩⟩⟩, by simp [RowKit.intOf]; omega⟩
          have h1 := HP.out x
          have h2 := md_bd o.n
          rw [HF1.out, upd_add, upd_add]
          simp only
          split <;> omega
        · refine hA3.mono ?_
          rintro e w8 ⟨rfl, ht8, hk8⟩
          have HR8 : Hid (T4 wc w8 x1 x2 x3 x4 (k + 1) (k + 1) (k + 1) k (sumv (l.take (k + 1))) (sumv (l.reverse.take (k + 1))) (upd f3 o.key (f3 o.key + md o.n)) f4) := by
            rw [HF1.out, HF2.out]; exact HR7.out.s3 ht8 hk8
          clear ht8 hk8 hA3 hA4
          go_wp2
          refine ⟨⟨k + 1, _, f4, by omega, by go_num, ⟨fun x => ?_, ⟨HR8.out.h1, HR8.out.h2, HR8.out.h3, ⟨HR8.out.h4.blk, HR8.out.h4.ta.mono (Nat.le_succ _), HR8.out.h4.bd⟩, HR8.out.bl, HR8.out.p1, HR8.out.p2, HR8.out.p3, HR8.out.p4, HR8.out.d12, HR8.out.d13, HR8.out.d14, HR8.out.d23, HR8.out.d24, HR8.out.d34⟩⟩⟩, by simp [RowKit.intOf]; omega⟩
          have h1 := HP.out x
          have h2 := md_bd o.n
          rw [HF1.out, upd_add, upd_add]
          simp only
          split <;> omega
      · have hltz : ¬ (k : Int) < (l.length : Int) := by omega
        obtain rfl : k = l.length := by omega
        have e1 : l.take l.length = l := List.take_length
        have e2 : l.reverse.take l.length = l.reverse := List.take_of_length_le (by simp)
        have HP : Hid (∀ x, f3 x + f4 x = sumv l x) := fun x => by have := (HR.out.1 x).1; rw [e1] at this; exact this
        have HR1 : Hid (T4 wc wr x1 x2 x3 x4 l.length l.length l.length l.length (sumv l) (sumv l) f3 f4) := by
          have := HR.out.2
          rw [e1, e2, sumv_rev] at this
          exact this
        have hB := fun x => sumv_bd l x
        have hj := join_any wr HR1.out.h3 HR1.out.h4 (by omega)
        have HB : Hid (∀ x, byd (f3 x + f4 x) = false) := fun x => by rw [HP.out, byd_f]; have := hB x; omega
        have HE : Hid ((fun x => f3 x + f4 x) = sumv l) := funext HP.out
        clear HR e1 e2
        obtain ⟨wL, hwL⟩ : ∃ x, x = wr := ⟨wr, rfl⟩
        subst hwL
        go_wp2_with fail
        refine hj.mono ?_
        rintro e w6 (⟨⟨x, hx⟩, rfl, _⟩ | ⟨_, rfl, ht6, hk6⟩)
        · have := HB.out x
          rw [hx] at this
          cases this
        have HR6 : Hid (T4 wc w6 x1 x2 x3 x4 l.length l.length (l.length + l.length) l.length (sumv l) (sumv l) (sumv l) f4) := by
          rw [HE.out] at ht6
          exact HR1.out.s3 ht6 hk6
        have hk1 := keys_any w6 HR6.out.h1 o1 (by omega)
        clear hj ht6 hk6 HR1 HP HB HE hB
        go_wp2_with fail
        refine hk1.mono ?_
        rintro e w7 ⟨ga, ca, ka, hka, rfl, hoa, hba⟩
        have HR7 : Hid (T4 wc w7 x1 x2 x3 x4 l.length l.length (l.length + l.length) l.length (sumv l) (sumv l) (sumv l) f4) := HR6.out.bel hba
        have HLa : Hid (Ls w7 (.slice (some ⟨ga, 0, none⟩) (srt (cf 0) ka).length ca) (srt (cf 0) ka)) := owns_ls hoa
        have hk3 := keys_any w7 HR7.out.h3 o3 (by omega)
        have HKA : Hid (Sup (sumv l) ka) := hka
        clear hk1 hoa hba HR6 hka
        go_wp2_with fail
        refine hk3.mono ?_
        rintro e w8 ⟨gb, cb, kb, hkb, rfl, hob, hbb⟩
        have HR8 : Hid (T4 wc w8 x1 x2 x3 x4 l.length l.length (l.length + l.length) l.length (sumv l) (sumv l) (sumv l) f4) := HR7.out.bel hbb
        have hsm := same_any _ _ (srt (cf 0) ka) (srt (cf 0) kb) w8 (HLa.out.below hbb) (owns_ls hob) (by rw [srt_length]; have := sup_len HKA.out; unfold maxLen; omega)
        rw [decide_eq_true (srt_of_perm o1.swo o1.tot (HKA.out.perm hkb))] at hsm
        clear hk3 hob hbb HR7 hkb HLa
        go_wp2_with fail
        refine hsm.mono ?_
        rintro e w9 ⟨rfl, hg9⟩
        have HR9 : Hid (T4 wc w9 x1 x2 x3 x4 l.length l.length (l.length + l.length) l.length (sumv l) (sumv l) (sumv l) f4) := HR8.out.gr hg9
        have hl1 := len_any w9 HR9.out.h1
        have hl2 := len_any w9 HR9.out.h2
        clear hsm HR8 hg9 o3
        go_wp2_with fail
        refine hl1.mono ?_
        rintro e w10 ⟨k1, hs1, rfl, rfl⟩
        have HS1 : Hid (Sup (sumv l) k1) := hs1
        clear hl1 hs1
        go_wp2_with fail
        refine hl2.mono ?_
        rintro e w11 ⟨k2, hs2, rfl, rfl⟩
        have h12 : ((k1.length : Int) != (k2.length : Int)) = false := by
          have := (HS1.out.perm hs2).length_eq
          simp [this]
        have hk1 := keys_any w11 HR9.out.h1 o1 (by omega)
        clear hl2 hs2 HS1
        go_wp2_with fail
        refine hk1.mono ?_
        rintro e w12 ⟨gc, cc, kc, hkc, rfl, hoc, hbc⟩
        have HRC : Hid (T4 wc w12 x1 x2 x3 x4 l.length l.length (l.length + l.length) l.length (sumv l) (sumv l) (sumv l) f4) := HR9.out.bel hbc
        have HLC : Hid (Ls w12 (.slice (some ⟨gc, 0, none⟩) (srt (cf 0) kc).length cc) (srt (cf 0) kc)) := owns_ls hoc
        have hlc : (srt (cf 0) kc).length ≤ 60 := by rw [srt_length]; have := sup_len hkc; omega
        have HKC : Hid (∀ x ∈ srt (cf 0) kc, sumv l x ≠ 0) := fun x hx => (hkc.2 x).1 ((srt_perm (cf 0) kc).mem_iff.1 hx)
        generalize srt (cf 0) kc = K at *
        clear hk1 hoc hbc hkc HR9 h12 HKA
        go_wp2_with fail
        go_loopw [15, 115] (fun _ s115 wr => ∃ k : Nat, k ≤ K.length ∧ s115 = .int .i64 k ∧ wr = w12) (fun _ s115 _ => K.length - (RowKit.intOf s115).toNat)
        case atStart => exact ⟨0, Nat.zero_le _, rfl, rfl⟩
        case round =>
          obtain ⟨k, hk, rfl, rfl⟩ := hrel
          by_cases hltk : k < K.length
          · have hltkz : (k : Int) < (K.length : Int) := by omega
            obtain ⟨x, hx⟩ : ∃ x, K[k]? = some x := ⟨K[k], by simp⟩
            obtain ⟨bb, off, cc', e1, zb, y0⟩ := HLC.out.at1 hx
            simp only [Value.slice.injEq, Option.some.injEq, Addr.mk.injEq] at e1
            obtain ⟨⟨rfl, rfl, -⟩, -, rfl⟩ := e1
            rw [Nat.zero_add] at y0
            have hne := HKC.out x (List.mem_of_getElem? hx)
            have hg1 := get_any x wr HRC.out.h1
            have hg2 := get_any x wr HRC.out.h2
            have hg3 := get_any x wr HRC.out.h3
            generalize sumv l x = s at hg1 hg2 hg3 hne
            clear hx
            go_wp2_with fail
            refine hg1.mono ?_
            rintro e w13 ⟨rfl, rfl⟩
            go_wp2_with fail
            refine hg2.mono ?_
            rintro e w14 ⟨rfl, rfl⟩
            go_wp2_with fail
            refine hg1.mono ?_
            rintro e w15 ⟨rfl, rfl⟩
            go_wp2_with fail
            refine hg3.mono ?_
            rintro e w16 ⟨rfl, rfl⟩
            go_wp2_with fail
            refine hg1.mono ?_
            rintro e w17 ⟨rfl, rfl⟩
            go_wp2
            exact ⟨⟨k + 1, by omega, by go_num, trivial⟩, by simp [RowKit.intOf]; omega⟩
          · have hltkz : ¬ (k : Int) < (K.length : Int) := by omega
            have HRD : Hid (T4 wc wr x1 x2 x3 x4 l.length l.length (l.length + l.length) l.length (sumv l) (sumv l) (sumv l) f4) := HRC.out
            clear HRC HLC HKC
            obtain ⟨wM, hwM⟩ : ∃ x, x = wr := ⟨wr, rfl⟩
            subst hwM
            go_wp2_with fail
            go_loopw [17, 144] (fun _ s144 wr => ∃ k : Nat, k ≤ l.length ∧ s144 = .int .i64 k ∧ Hid (T4 wc wr x1 x2 x3 x4 (l.length + k) l.length (l.length + l.length) l.length (fun x => sumv l x - sumv (l.take k) x) (sumv l) (sumv l) f4)) (fun _ s144 _ => l.length - (RowKit.intOf s144).toNat)
            case atStart => 
              have e : (fun x => sumv l x - sumv (l.take 0) x) = sumv l := by funext x; rw [List.take_zero, sumv_nil]; simp
              exact ⟨0, Nat.zero_le _, rfl, by rw [e]; exact HRD⟩
            case round =>
              clear HRD
              obtain ⟨k, hk, rfl, HR⟩ := hrel
              by_cases hlt : k < l.length
              · have hltz : (k : Int) < (l.length : Int) := by omega
                obtain ⟨o, ho⟩ : ∃ o, l[k]? = some o := ⟨l[k], by simp⟩
                have HLr := HL.out.below (Nat.le_refl _) HR.out.bl
                obtain ⟨bb, off, cc', e1, zb, y0, y1, y2, y3, y4⟩ := HLr.at5 ho
                simp only [Value.slice.injEq] at e1
                obtain ⟨rfl, -, rfl⟩ := e1
                have ho1 := md_bd o.n
                have hsb := sub_bd l k o.key
                have HST := sub_take ho
                unfold md at ho1
                have hA1 := fun W (hW : Tl W x1.t x1.b x1.g (l.length + k) (fun x => sumv l x - sumv (l.take k) x)) => add_small o.key (-(o.n.tmod 1000)) W hW (by omega) (by omega) (by omega)
                have HST2 : Hid ((fun x => sumv l x - sumv (l.take (k + 1)) x) = upd (fun x => sumv l x - sumv (l.take k) x) o.key ((sumv l o.key - sumv (l.take k) o.key) + -(o.n.tmod 1000))) := HST
                clear HST ho HLr hsb
                go_wp2_with fail
                refine (hA1 _ (HR.out.gr ((Gr.refl _).alloc _)).h1).mono ?_
                rintro e w6 ⟨rfl, ht6, hk6⟩
                have HR6 : Hid (T4 wc w6 x1 x2 x3 x4 (l.length + k + 1) l.length (l.length + l.length) l.length (fun x => sumv l x - sumv (l.take (k + 1)) x) (sumv l) (sumv l) f4) := by
                  rw [HST2.out]
                  exact (HR.out.gr ((Gr.refl _).alloc _)).s1 ht6 hk6
                clear ht6 hk6 hA1 HR
                go_wp2
                exact ⟨⟨k + 1, by omega, by go_num, HR6⟩, by simp [RowKit.intOf]; omega⟩
              · have hltz : ¬ (k : Int) < (l.length : Int) := by omega
                obtain rfl : k = l.length := by omega
                have e0 : (fun x => sumv l x - sumv (l.take l.length) x) = fun _ => 0 := by
                  funext x; rw [List.take_length]; omega
                have HRE : Hid (T4 wc wr x1 x2 x3 x4 (l.length + l.length) l.length (l.length + l.length) l.length (fun _ => 0) (sumv l) (sumv l) f4) := by
                  have := HR.out; rw [e0] at this; exact this
                have hl1 := len_any wr HRE.out.h1
                have hk1 := keys_any wr HRE.out.h1 o1 (by omega)
                clear HR e0
                go_wp2_with fail
                refine hl1.mono ?_
                rintro e w6 ⟨k1, hs1, rfl, rfl⟩
                obtain rfl := sup_zero hs1
                clear hs1 hl1
                go_wp2_with fail
                refine hk1.mono ?_
                rintro e w7 ⟨gd, cd, kd, hkd, rfl, hod, hbd⟩
                obtain rfl := sup_zero hkd
                have e2 : srt (cf 0) [] = [] := List.eq_nil_of_length_eq_zero (srt_length _ _)
                rw [e2]
                have HBD : Hid (Below wc.heap.size wc w7) := HRE.out.bl.trans (hbd.mono HRE.out.bl.size)
                clear hkd hod hbd hk1 e2
                go_wp2
                go_ret
                exact ⟨rfl, HBD.out⟩
end Go.Proofs.Ytplbcamliiajdaa
