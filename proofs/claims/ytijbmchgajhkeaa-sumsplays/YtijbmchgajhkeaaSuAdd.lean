import Derived.Test.YtijbmchgajhkeaaSuHold
namespace Go.Proofs.Ytijbmchgajhkeaa
open Go.RowKit Go.Sort Go.Maps Go.Shelf
open Tt (Tl)
attribute [local go_sem ↓] Go.wp_at_zero Go.wp_at_succ

theorem upd_sm (A : List Ct) (t : Tm) (r : Rc) (q : Sx) : upd (fun q => (sm A q).1) (t, r.1) (addU (sm A (t, r.1)) r.2).1 q = (sm (A ++ [(t, r)]) q).1 := by
  rw [sm_snoc]
  by_cases e : q = (t, r.1)
  · subst e
    rw [upd_same, if_pos ⟨rfl, rfl⟩]
  · rw [upd_other _ _ e, if_neg fun h => e (Prod.ext h.1.symm h.2.symm)]
theorem has_add (A : List Ct) (t : Tm) (r : Rc) (q : Sx) : (Has A q ∨ q = (t, r.1)) ↔ Has (A ++ [(t, r)]) q := by
  rw [has_snoc]
  exact ⟨fun h => h.imp_right fun e => by rw [e]; exact ⟨rfl, rfl⟩, fun h => h.imp_right fun e => Prod.ext e.1.symm e.2.symm⟩
theorem ga_had {A : List Ct} {t : Tm} {r : Rc} (h : Has A (t, r.1)) (u : Tm) (k : Ku) : gA A u k = gA (A ++ [(t, r)]) u k := by
  unfold gA
  by_cases e : Has A (u, k)
  · rw [if_pos e, if_pos ((has_add A t r _).1 (.inl e))]
  · rw [if_neg e, if_neg fun h2 => ((has_add A t r _).2 h2).elim e fun e2 => e (by rw [e2]; exact h)]
theorem ga_new {A : List Ct} {t : Tm} {r : Rc} (u : Tm) (k : Ku) : (if u = t then upd (gA A t) r.1 1 else gA A u) k = gA (A ++ [(t, r)]) u k := by
  unfold gA
  by_cases e : u = t
  · subst e
    rw [if_pos rfl]
    by_cases e2 : k = r.1
    · subst e2
      rw [upd_same, if_pos ((has_add A u r _).1 (.inr rfl))]
    · rw [upd_other _ _ e2]
      by_cases e3 : Has A (u, k)
      · rw [if_pos e3, if_pos ((has_add A u r _).1 (.inl e3))]
      · rw [if_neg e3, if_neg fun h2 => ((has_add A u r _).2 h2).elim e3 fun e4 => e2 (congrArg Prod.snd e4)]
  · rw [if_neg e]
    by_cases e3 : Has A (u, k)
    · rw [if_pos e3, if_pos ((has_add A t r _).1 (.inl e3))]
    · rw [if_neg e3, if_neg fun h2 => ((has_add A t r _).2 h2).elim e3 fun e4 => e (congrArg Prod.fst e4)]
theorem sp_cell {w : World} {b : Nat} {s : Sx} (h : w.heap[b]? = some (.cells #[.int .u64 s.1.1.1, .int .u64 s.1.1.2.1, .int .u64 s.1.1.2.2, .int .u64 s.2.1] 75 (0, 0))) : w.cell? ⟨b, 0, none⟩ = some (.int .u64 s.1.1.1) ∧ w.cell? ⟨b, 1, none⟩ = some (.int .u64 s.1.1.2.1) ∧ w.cell? ⟨b, 2, none⟩ = some (.int .u64 s.1.1.2.2) ∧ w.cell? ⟨b, 3, none⟩ = some (.int .u64 s.2.1) ∧ b < w.heap.size := by
  refine ⟨?_, ?_, ?_, ?_, (Array.getElem?_eq_some_iff.1 h).1⟩ <;> simp [World.cell?, h]
theorem rc_cell {w : World} {b : Nat} {r : Rc} (h : w.heap[b]? = some (.cells #[.int .u64 r.1.1, .int .u64 r.2.1] 37 (0, 0))) : w.cell? ⟨b, 0, none⟩ = some (.int .u64 r.1.1) ∧ w.cell? ⟨b, 1, none⟩ = some (.int .u64 r.2.1) ∧ b < w.heap.size := by
  refine ⟨?_, ?_, (Array.getElem?_eq_some_iff.1 h).1⟩ <;> simp [World.cell?, h]
/-- Three boxes of a call, as they lie. -/
structure Bx (w : World) (t : Tm) (r : Rc) (b1 b2 b3 : Nat) : Prop where
  tb : w.heap[b1]? = some (.cells #[.int .u64 t.1.1, .int .u64 t.1.2.1, .int .u64 t.1.2.2] 32 (0, 0))
  rb : w.heap[b2]? = some (.cells #[.int .u64 r.1.1, .int .u64 r.2.1] 37 (0, 0))
  sp : w.heap[b3]? = some (.cells #[.int .u64 t.1.1, .int .u64 t.1.2.1, .int .u64 t.1.2.2, .int .u64 r.1.1] 75 (0, 0))
theorem Bx.kp {w w' : World} {t : Tm} {r : Rc} {b1 b2 b3 c : Nat} {es : Array MapEntry} {cl : Nat} (h : Bx w t r b1 b2 b3) (hc : w.heap[c]? = some (.map es cl)) (hk : Kp (fun k => k = c) w w') : Bx w' t r b1 b2 b3 :=
  ⟨(hk.block b1 (Array.getElem?_eq_some_iff.1 h.tb).1 (blk_ne h.tb hc (by simp))).trans h.tb, (hk.block b2 (Array.getElem?_eq_some_iff.1 h.rb).1 (blk_ne h.rb hc (by simp))).trans h.rb, (hk.block b3 (Array.getElem?_eq_some_iff.1 h.sp).1 (blk_ne h.sp hc (by simp))).trans h.sp⟩
theorem Bx.below {w w' : World} {t : Tm} {r : Rc} {b1 b2 b3 : Nat} (h : Bx w t r b1 b2 b3) (hb : Below w.heap.size w w') : Bx w' t r b1 b2 b3 :=
  ⟨(hb.block b1 (Array.getElem?_eq_some_iff.1 h.tb).1).trans h.tb, (hb.block b2 (Array.getElem?_eq_some_iff.1 h.rb).1).trans h.rb, (hb.block b3 (Array.getElem?_eq_some_iff.1 h.sp).1).trans h.sp⟩
set_option maxHeartbeats 4000000 in
set_option maxRecDepth 100000 in
theorem sadd_any {S : Nat → Prop} {N sb : Nat} {A : List Ct} (t : Tm) (r : Rc) (w : World) (h : Su w S N sb A) (hN : N < 500000000) :
    Calls Try.prog 15 #[.pointer (some ⟨sb, 0, none⟩), tv t, rv r] w fun e w' => e = .returned (.bool (!decide (Hld A t))) ∧ Hid (Su w' (nw S w) (N + 3) sb (A ++ [(t, r)]) ∧ Kp S w w') := by
  have hmx : Try.prog.follows .mixedOrders = true := by kernel_rfl
  obtain ⟨W2, hW2⟩ : ∃ W2, W2 = (w.alloc (.cells #[.int .u64 t.1.1, .int .u64 t.1.2.1, .int .u64 t.1.2.2] 32)).alloc (.cells #[.int .u64 r.1.1, .int .u64 r.2.1] 37) := ⟨_, rfl⟩
  obtain ⟨b1, hb1⟩ : ∃ b1, b1 = w.heap.size := ⟨_, rfl⟩
  obtain ⟨b2, hb2⟩ : ∃ b2, b2 = w.heap.size + 1 := ⟨_, rfl⟩
  have G2 : Gr w W2 := by rw [hW2]; exact ((Gr.refl _).alloc _).alloc _
  have x1 : W2.heap[b1]? = some (.cells #[.int .u64 t.1.1, .int .u64 t.1.2.1, .int .u64 t.1.2.2] 32 (0, 0)) := by rw [hW2, hb1]; exact heap_alloc2_old _ _ _
  have x2 : W2.heap[b2]? = some (.cells #[.int .u64 r.1.1, .int .u64 r.2.1] 37 (0, 0)) := by rw [hW2, hb2]; exact heap_alloc2_new _ _ _
  have HX1 := hid x1
  have HX2 := hid x2
  have HG2 := hid G2
  have hho := hold_any t W2 (h.cut.below G2.below) (by omega)
  obtain ⟨hd, hhd⟩ : ∃ hd, hd = !decide (Hld A t) := ⟨_, rfl⟩
  rw [← hhd] at hho ⊢
  have HHd := hid hhd
  have c10 := bx_cell x1
  have c20 := rc_cell x2
  obtain ⟨k0, k1, k2, k3⟩ := c10
  have B1 : Hid (w.heap.size ≤ b1 ∧ w.heap.size ≤ b2) := ⟨by omega, by omega⟩
  clear h x1 x2 hhd c20
  go_enter Try.func15, Try.ntmps15
  go_wp2_with fail
  rw [← hb2, ← hb1, ← hW2]
  clear hW2 hb1 hb2
  refine hho.mono ?_
  rintro e W3 ⟨rfl, hH⟩
  obtain ⟨mb, kb, T, B, hF, hT, hK⟩ := hH.out
  have y1 := (hK.block b1 k3 (fun h => absurd h.2 (Nat.not_lt.2 B1.out.1))).trans HX1.out
  have y2 := (hK.block b2 (Array.getElem?_eq_some_iff.1 HX2.out).1 (fun h => absurd h.2 (Nat.not_lt.2 B1.out.2))).trans HX2.out
  obtain ⟨W4, hW4⟩ : ∃ W4, W4 = W3.alloc (.cells #[.int .u64 t.1.1, .int .u64 t.1.2.1, .int .u64 t.1.2.2, .int .u64 r.1.1] 75) := ⟨_, rfl⟩
  obtain ⟨b3, hb3⟩ : ∃ b3, b3 = W3.heap.size := ⟨_, rfl⟩
  have G4 : Gr W3 W4 := by rw [hW4]; exact (Gr.refl _).alloc _
  have HBx : Hid (Bx W4 t r b1 b2 b3) := ⟨(G4.below.block b1 (Array.getElem?_eq_some_iff.1 y1).1).trans y1, (G4.below.block b2 (Array.getElem?_eq_some_iff.1 y2).1).trans y2, by rw [hW4, hb3]; exact heap_new' _ _⟩
  have HF4 : Hid (Fu W4 (nw S w) (N + 1) sb mb kb (fun s => (sm A s).1) (Has A) T B (gA A)) := (hF.below G4.below).wide fun k hk => by
    rcases hk with hk | hk
    · exact .inl hk.1
    · exact .inr (Nat.le_trans HG2.out.size hk)
  have HT := hid hT
  have HK : Hid (Kp S w W4) := ((Kp.of_gr (S := S) HG2.out).trans hK (fun k _ h => h.1)).trans (Kp.of_gr (S := S) G4) (fun _ _ h => h)
  have j1 := (bx_cell y1)
  have j2 := (rc_cell y2)
  obtain ⟨j10, j11, j12, j13⟩ := j1
  obtain ⟨j20, j21, j22⟩ := j2
  clear hF hT hK hH hho k0 k1 k2 k3 HX1 HX2 HG2 G2
  go_upto_region 5 with fail
  rw [← hW4, ← hb3]
  clear hW4 hb3 G4 j10 j11 j12 j13 j20 j21 j22 y1 y2
  obtain ⟨p0, p1, p2, p3, p4⟩ := sp_cell (s := (t, r.1)) HBx.out.sp
  have c0 := HF4.out.c0
  have hsb := HF4.out.lt
  have hlk9 : ∀ m, (Instr.lookup 65 (.map (some mb)) (xv (t, r.1)) true).run Try.prog (W4.drewN m) = .ok (.tuple #[.int .u64 (sm A (t, r.1)).1, .bool (decide (Has A (t, r.1)))]) (W4.drewN m) := fun m => by
    exact (HF4.out.below (drewN_below W4 m)).mw.look_ok (t := 65) Try.underlying65 Try.underlying30 zeroU (t, r.1) _ decide_eq_true_iff
  by_cases hh : Has A (t, r.1)
  · rw [decide_eq_true hh] at hlk9
    have HG9 : Hid (∀ u q, T u = some q → ∀ k, gA A u k = gA (A ++ [(t, r)]) u k) := fun u q _ k => ga_had hh u k
    clear hh
    go_quiet (fail)
    go_upto_region 8 with fail
    obtain ⟨U, hU⟩ : ∃ U, U = W4.drewN nq := ⟨_, rfl⟩
    rw [← hU]
    have HFU : Hid (Fu U (nw S w) (N + 1) sb mb kb (fun s => (sm A s).1) (Has A) T B (gA A)) := by rw [hU]; exact HF4.out.below (drewN_below W4 nq)
    have HBU : Hid (Bx U t r b1 b2 b3) := by rw [hU]; exact HBx.out.below (drewN_below W4 nq)
    have HKU : Hid (Kp S w U) := by rw [hU]; exact HK.out.trans (Kp.of_below (S := S) (drewN_below W4 nq)) (fun _ _ h => h)
    clear hU hlk9 p0 p1 p2 p3 p4 c0 hsb HF4 HBx HK
    obtain ⟨v0, st, w1, w2, hL0, hE, hL1, hSt, hM3, hg1, hg2⟩ := (HFU.out.below ((Gr.refl U).drew).below).mw.bump (t := 65) lawSx Try.underlying65 Try.underlying30 zeroU (by unfold maxLen; omega) (t, r.1) (addU (sm A (t, r.1)) r.2).1 (addU (sm A (t, r.1)) r.2).2
    have hL0 : (Instr.lookup 65 (.map (some mb)) (xv (t, r.1)) false).run Try.prog U.drew = .ok (.int .u64 (sm A (t, r.1)).1) U.drew := hL0
    have hL1 : (Instr.lookup 65 (.map (some mb)) (xv (t, r.1)) false).run Try.prog w1 = .ok (.int .u64 (sm A (t, r.1)).1) w1 := hL1
    have hE : (Instr.mapEntry 65 (.map (some mb)) (xv (t, r.1))).run Try.prog U.drew = .ok (.tuple #[v0, .int .i64 st]) w1 := hE
    have hSt : (Instr.entryStore 65 (.map (some mb)) (.int .i64 st) (.int .u64 (IntKind.u64.wrap ((sm A (t, r.1)).1 + r.2.1)))).run Try.prog w1 = .ok () w2 := hSt
    obtain ⟨es, cl, hmk⟩ := (HFU.out.below ((Gr.refl U).drew).below).mw.blk
    have k1 : Kp (fun k => k = mb) U.drew w1 := Kp.grownBy hg1 (fun k hk => by simpa using hk.symm)
    have k2 : Kp (fun k => k = mb) U.drew w2 := Kp.grownBy hg2 (fun k hk => by simpa using hk.symm)
    have HB1 : Hid (Bx w1 t r b1 b2 b3) := (HBU.out.below ((Gr.refl U).drew).below).kp hmk k1
    have HBD : Hid (Bx U.drew t r b1 b2 b3) := HBU.out.below ((Gr.refl U).drew).below
    have hsU := HFU.out.lt
    have cU := HFU.out.c0
    have c1 := (k1.cell (o := 0) (show sb < U.drew.heap.size from hsU) HFU.out.nm).trans cU
    have l1 : sb < w1.heap.size := Nat.lt_of_lt_of_le hsU k1.size
    have HFin : Hid (Su w2 (nw S w) (N + 3) sb (A ++ [(t, r)]) ∧ Kp S w w2) := by
      refine ⟨.inr ⟨mb, kb, T, B, ((((HFU.out.below ((Gr.refl U).drew).below).mono (Nat.le_succ (N + 1))).setS k2 hM3 |>.mono (Nat.le_succ _)).re (upd_sm A t r) (has_add A t r) HG9.out), fun u => (HT.out u).trans ?_⟩, (HKU.out.trans (Kp.of_gr (S := S) (Gr.refl U).drew) (fun _ _ h => h)).trans k2 (fun k hk e => nw_in (e ▸ HFU.out.im) hk)⟩
      rw [hld_snoc]
      exact ⟨fun h => h.imp_right fun e => e.symm, fun h => h.imp_right fun e => e.symm⟩
    obtain ⟨c, hc⟩ : ∃ c, c = (sm A (t, r.1)).1 := ⟨_, rfl⟩
    rw [← hc] at hL0 hL1 hSt
    have hS0 : (fun X : World => X.cell? ⟨sb, 0, none⟩ = some (.map (some mb)) ∧ sb < X.heap.size ∧ Hid (Bx X t r b1 b2 b3) ∧ (Instr.lookup 65 (.map (some mb)) (xv (t, r.1)) false).run Try.prog X = .ok (.int .u64 c) X) U.drew := ⟨cU, hsU, HBD, hL0⟩
    have hS1 : (fun X : World => X.cell? ⟨sb, 0, none⟩ = some (.map (some mb)) ∧ sb < X.heap.size ∧ Hid (Bx X t r b1 b2 b3) ∧ (Instr.lookup 65 (.map (some mb)) (xv (t, r.1)) false).run Try.prog X = .ok (.int .u64 c) X) w1 := ⟨c1, l1, HB1, hL1⟩
    clear hc hM3 hg1 hg2 k1 k2 hmk HFU HBU HKU
    go_wp2_with fail
    refine wp_regionD (S := fun X : World => X.cell? ⟨sb, 0, none⟩ = some (.map (some mb)) ∧ sb < X.heap.size ∧ Hid (Bx X t r b1 b2 b3) ∧ (Instr.lookup 65 (.map (some mb)) (xv (t, r.1)) false).run Try.prog X = .ok (.int .u64 c) X) (D := [11]) hmx ?_
    refine' wpAnyD_take (i := 0) (oi := { dst := some 40, op := Go.Op.move (Go.Operand.tmp 0), type := 24, pos := "sums.go:41", after := #[], guard := none }) (v := _) rfl (by kernel_rfl) (by kernel_rfl) (by kernel_rfl) (fun _ _ _ h => h) (by kernel_rfl) (Or.inl ⟨by rfl, ?hy1⟩) hS0 ?rest1
    case hy1 => (intro W hSw; go_simp; try (with_reducible rfl))
    try simp only [Act.put, List.setIfInBounds_toArray, List.set_cons_zero, List.set_cons_succ]
    refine' wpAnyD_take (i := 1) (oi := { dst := some 41, op := Go.Op.nilCheck (Go.Operand.tmp 40), type := 0, pos := "sums.go:41", after := #[{ on := 0, ground := Go.Ground.data }], guard := none }) (v := _) rfl (by kernel_rfl) (by kernel_rfl) (by kernel_rfl) (fun _ _ _ h => h) (by kernel_rfl) (Or.inl ⟨by rfl, ?hy2⟩) hS0 ?rest2
    case hy2 => (intro W hSw; obtain ⟨s1, s2, s3, s4⟩ := hSw; obtain ⟨m0, m1, m2, m3, m4⟩ := sp_cell (s := (t, r.1)) s3.out.sp; obtain ⟨m5, m6, m7⟩ := rc_cell s3.out.rb; go_simp; try (with_reducible rfl))
    try simp only [Act.put, List.setIfInBounds_toArray, List.set_cons_zero, List.set_cons_succ]
    refine' wpAnyD_take (i := 2) (oi := { dst := some 42, op := Go.Op.fieldAddr 67 (Go.Operand.tmp 41) 0, type := 0, pos := "sums.go:41", after := #[{ on := 1, ground := Go.Ground.data }], guard := none }) (v := _) rfl (by kernel_rfl) (by kernel_rfl) (by kernel_rfl) (fun _ _ _ h => h) (by kernel_rfl) (Or.inl ⟨by rfl, ?hy3⟩) hS0 ?rest3
    case hy3 => (intro W hSw; go_simp; try (with_reducible rfl))
    try simp only [Act.put, List.setIfInBounds_toArray, List.set_cons_zero, List.set_cons_succ]
    refine' wpAnyD_take (i := 3) (oi := { dst := some 43, op := Go.Op.load 65 (Go.Operand.tmp 42), type := 65, pos := "sums.go:41", after := #[{ on := 2, ground := Go.Ground.data }], guard := none }) (v := _) rfl (by kernel_rfl) (by kernel_rfl) (by kernel_rfl) (fun _ _ _ h => h) (by kernel_rfl) (Or.inl ⟨by rfl, ?hy4⟩) hS0 ?rest4
    case hy4 => (intro W hSw; obtain ⟨s1, s2, s3, s4⟩ := hSw; obtain ⟨m0, m1, m2, m3, m4⟩ := sp_cell (s := (t, r.1)) s3.out.sp; obtain ⟨m5, m6, m7⟩ := rc_cell s3.out.rb; go_simp; try (with_reducible rfl))
    try simp only [Act.put, List.setIfInBounds_toArray, List.set_cons_zero, List.set_cons_succ]
    refine' wpAnyD_take (i := 4) (oi := { dst := some 44, op := Go.Op.load 75 (Go.Operand.tmp 8), type := 75, pos := "sums.go:41", after := #[], guard := none }) (v := _) rfl (by kernel_rfl) (by kernel_rfl) (by kernel_rfl) (fun _ _ _ h => h) (by kernel_rfl) (Or.inl ⟨by rfl, ?hy5⟩) hS0 ?rest5
    case hy5 => (intro W hSw; obtain ⟨s1, s2, s3, s4⟩ := hSw; obtain ⟨m0, m1, m2, m3, m4⟩ := sp_cell (s := (t, r.1)) s3.out.sp; obtain ⟨m5, m6, m7⟩ := rc_cell s3.out.rb; go_simp; try (with_reducible rfl))
    try simp only [Act.put, List.setIfInBounds_toArray, List.set_cons_zero, List.set_cons_succ]
    refine' wpAnyD_take (i := 5) (oi := { dst := some 45, op := Go.Op.lookup 65 (Go.Operand.tmp 43) (Go.Operand.tmp 44) false, type := 30, pos := "sums.go:41", after := #[{ on := 3, ground := Go.Ground.data }, { on := 4, ground := Go.Ground.data }], guard := none }) (v := _) rfl (by kernel_rfl) (by kernel_rfl) (by kernel_rfl) (fun _ _ _ h => h) (by kernel_rfl) (Or.inl ⟨by rfl, ?hy6⟩) hS0 ?rest6
    case hy6 => (intro W hSw; obtain ⟨s1, s2, s3, s4⟩ := hSw; obtain ⟨m0, m1, m2, m3, m4⟩ := sp_cell (s := (t, r.1)) s3.out.sp; obtain ⟨m5, m6, m7⟩ := rc_cell s3.out.rb; go_simp; try (with_reducible rfl))
    try simp only [Act.put, List.setIfInBounds_toArray, List.set_cons_zero, List.set_cons_succ]
    refine' wpAnyD_take (i := 6) (oi := { dst := some 46, op := Go.Op.fieldAddr 37 (Go.Operand.tmp 5) 1, type := 0, pos := "sums.go:41", after := #[], guard := none }) (v := _) rfl (by kernel_rfl) (by kernel_rfl) (by kernel_rfl) (fun _ _ _ h => h) (by kernel_rfl) (Or.inl ⟨by rfl, ?hy7⟩) hS0 ?rest7
    case hy7 => (intro W hSw; go_simp; try (with_reducible rfl))
    try simp only [Act.put, List.setIfInBounds_toArray, List.set_cons_zero, List.set_cons_succ]
    refine' wpAnyD_take (i := 7) (oi := { dst := some 47, op := Go.Op.load 30 (Go.Operand.tmp 46), type := 30, pos := "sums.go:41", after := #[{ on := 6, ground := Go.Ground.data }], guard := none }) (v := _) rfl (by kernel_rfl) (by kernel_rfl) (by kernel_rfl) (fun _ _ _ h => h) (by kernel_rfl) (Or.inl ⟨by rfl, ?hy8⟩) hS0 ?rest8
    case hy8 => (intro W hSw; obtain ⟨s1, s2, s3, s4⟩ := hSw; obtain ⟨m0, m1, m2, m3, m4⟩ := sp_cell (s := (t, r.1)) s3.out.sp; obtain ⟨m5, m6, m7⟩ := rc_cell s3.out.rb; go_simp; try (with_reducible rfl))
    try simp only [Act.put, List.setIfInBounds_toArray, List.set_cons_zero, List.set_cons_succ]
    refine' wpAnyD_take (i := 8) (oi := { dst := some 48, op := Go.Op.binOp Go.BinOp.add 30 (Go.Operand.tmp 45) (Go.Operand.tmp 47) 30, type := 30, pos := "sums.go:41", after := #[{ on := 5, ground := Go.Ground.data }, { on := 7, ground := Go.Ground.data }], guard := none }) (v := _) rfl (by kernel_rfl) (by kernel_rfl) (by kernel_rfl) (fun _ _ _ h => h) (by kernel_rfl) (Or.inl ⟨by rfl, ?hy9⟩) hS0 ?rest9
    case hy9 => (intro W hSw; go_simp; try (with_reducible rfl))
    try simp only [Act.put, List.setIfInBounds_toArray, List.set_cons_zero, List.set_cons_succ]
    refine wpAnyD_one (i := 9) (o := { dst := some 49, op := Go.Op.mapEntry 65 (Go.Operand.tmp 43) (Go.Operand.tmp 44), type := 0, pos := "sums.go:41", after := #[{ on := 3, ground := Go.Ground.data }, { on := 4, ground := Go.Ground.data }, { on := 0, ground := Go.Ground.phase }, { on := 1, ground := Go.Ground.phase }, { on := 2, ground := Go.Ground.phase }, { on := 3, ground := Go.Ground.phase }, { on := 4, ground := Go.Ground.phase }, { on := 5, ground := Go.Ground.textOnly Go.Departure.mapOpAssignEntry }, { on := 6, ground := Go.Ground.phase }, { on := 7, ground := Go.Ground.phase }, { on := 8, ground := Go.Ground.textOnly Go.Departure.mapOpAssignEntry }], guard := none }) (by kernel_rfl) rfl (fun K hK => ?_)
    rw [if_pos (by kernel_rfl)]
    go_simp
    refine hK.out _ _ (fun hD => hS1) ?_
    clear hK K
    try simp only [Act.put, List.setIfInBounds_toArray, List.set_cons_zero, List.set_cons_succ]
    refine' wpAnyD_take (i := 10) (oi := { dst := some 50, op := Go.Op.extract (Go.Operand.tmp 49) 1, type := 3, pos := "sums.go:41", after := #[{ on := 9, ground := Go.Ground.data }], guard := none }) (v := _) rfl (by kernel_rfl) (by kernel_rfl) (by kernel_rfl) (fun _ _ _ h => h) (by kernel_rfl) (Or.inl ⟨by rfl, ?hy11⟩) hS1 ?rest11
    case hy11 => (intro W hSw; go_simp; try (with_reducible rfl))
    try simp only [Act.put, List.setIfInBounds_toArray, List.set_cons_zero, List.set_cons_succ]
    refine wpAnyD_one (i := 11) (o := { dst := none, op := Go.Op.entryStore 65 (Go.Operand.tmp 43) (Go.Operand.tmp 50) (Go.Operand.tmp 48), type := 0, pos := "sums.go:41", after := #[{ on := 3, ground := Go.Ground.data }, { on := 10, ground := Go.Ground.data }, { on := 8, ground := Go.Ground.data }, { on := 9, ground := Go.Ground.chain }, { on := 0, ground := Go.Ground.phase }, { on := 1, ground := Go.Ground.phase }, { on := 2, ground := Go.Ground.phase }, { on := 3, ground := Go.Ground.phase }, { on := 4, ground := Go.Ground.phase }, { on := 5, ground := Go.Ground.phase }, { on := 6, ground := Go.Ground.phase }, { on := 7, ground := Go.Ground.phase }, { on := 8, ground := Go.Ground.phase }, { on := 9, ground := Go.Ground.phase }, { on := 10, ground := Go.Ground.phase }], guard := none }) (by kernel_rfl) rfl (fun K hK => ?_)
    rw [if_pos (by kernel_rfl)]
    go_simp
    refine hK.out _ _ (fun hD => absurd (by decide) hD) ?_
    clear hK K
    try simp only [Act.put, List.setIfInBounds_toArray, List.set_cons_zero, List.set_cons_succ]
    refine wpAnyD_done (by kernel_rfl) ?_ _
    clear hS0 hS1 hL0 hL1 hSt hE cU c1 hsU l1
    go_wp2
    go_ret
    exact ⟨rfl, HFin.out⟩
  · rw [decide_eq_false hh] at hlk9
    obtain ⟨q, hq⟩ : ∃ q, T t = some q := Option.isSome_iff_exists.1 ((HT.out t).2 (.inr rfl))
    have HQ := hid hq
    have HN0 : Hid (gA A t r.1 = 0) := if_neg hh
    clear hh hq
    go_quiet (fail)
    go_upto_region 7 with fail
    obtain ⟨V, hV⟩ : ∃ V, V = W4.drewN nq := ⟨_, rfl⟩
    rw [← hV]
    have HFV : Hid (Fu V (nw S w) (N + 1) sb mb kb (fun s => (sm A s).1) (Has A) T B (gA A)) := by rw [hV]; exact HF4.out.below (drewN_below W4 nq)
    have HBV : Hid (Bx V t r b1 b2 b3) := by rw [hV]; exact HBx.out.below (drewN_below W4 nq)
    have HKV : Hid (Kp S w V) := by rw [hV]; exact HK.out.trans (Kp.of_below (S := S) (drewN_below W4 nq)) (fun _ _ h => h)
    clear hV hlk9 p0 p1 p2 p3 p4 c0 hsb HF4 HBx HK
    have HFD : Hid (Fu V.drew (nw S w) (N + 1) sb mb kb (fun s => (sm A s).1) (Has A) T B (gA A)) := HFV.out.below ((Gr.refl V).drew).below
    have HBD : Hid (Bx V.drew t r b1 b2 b3) := HBV.out.below ((Gr.refl V).drew).below
    have hadd := Tt.add_any r.1 1 V.drew (HFD.out.each t q HQ.out) (by unfold maxLen; omega)
    have e1 : Tt.addc (gA A t) r.1 1 = 0 := by unfold Tt.addc; rw [HN0.out]; rfl
    have e2 : Tt.addf (gA A t) r.1 1 = upd (gA A t) r.1 1 := by unfold Tt.addf; rw [HN0.out]; rfl
    rw [e1, e2] at hadd
    clear e1 e2
    have hlkt : ∀ X, Mp ZT X kb (N + 2) T → (Instr.lookup 63 (.map (some kb)) (tv t) false).run Try.prog X = .ok (.pointer (some ⟨q, 0, none⟩)) X := fun X hX => by
      have := hX.look (t := 63) Try.underlying63 zeroP t
      rw [HQ.out] at this
      exact this
    have hS0 : (fun X : World => X.cell? ⟨sb, 1, none⟩ = some (.map (some kb)) ∧ sb < X.heap.size ∧ Hid (Bx X t r b1 b2 b3) ∧ (Instr.lookup 63 (.map (some kb)) (tv t) false).run Try.prog X = .ok (.pointer (some ⟨q, 0, none⟩)) X) V.drew := ⟨HFD.out.c1, HFD.out.lt, HBD, hlkt _ (HFD.out.mp.mono (Nat.le_succ _))⟩
    have HLK := hid hlkt
    clear hlkt
    go_wp2_with fail
    refine wp_regionD (S := fun X : World => X.cell? ⟨sb, 1, none⟩ = some (.map (some kb)) ∧ sb < X.heap.size ∧ Hid (Bx X t r b1 b2 b3) ∧ (Instr.lookup 63 (.map (some kb)) (tv t) false).run Try.prog X = .ok (.pointer (some ⟨q, 0, none⟩)) X) (D := []) hmx ?_
    refine' wpAnyD_take (i := 0) (oi := { dst := some 31, op := Go.Op.move (Go.Operand.tmp 0), type := 24, pos := "sums.go:39", after := #[], guard := none }) (v := _) rfl (by kernel_rfl) (by kernel_rfl) (by kernel_rfl) (fun _ _ _ h => h) (by kernel_rfl) (Or.inl ⟨by rfl, ?hy13⟩) hS0 ?rest13
    case hy13 => (intro W hSw; go_simp; try (with_reducible rfl))
    try simp only [Act.put, List.setIfInBounds_toArray, List.set_cons_zero, List.set_cons_succ]
    refine' wpAnyD_take (i := 1) (oi := { dst := some 32, op := Go.Op.nilCheck (Go.Operand.tmp 31), type := 0, pos := "sums.go:39", after := #[{ on := 0, ground := Go.Ground.data }], guard := none }) (v := _) rfl (by kernel_rfl) (by kernel_rfl) (by kernel_rfl) (fun _ _ _ h => h) (by kernel_rfl) (Or.inl ⟨by rfl, ?hy14⟩) hS0 ?rest14
    case hy14 => (intro W hSw; obtain ⟨s1, s2, s3, s4⟩ := hSw; obtain ⟨m0, m1, m2, m3⟩ := bx_cell s3.out.tb; obtain ⟨m5, m6, m7⟩ := rc_cell s3.out.rb; go_simp; try (with_reducible rfl))
    try simp only [Act.put, List.setIfInBounds_toArray, List.set_cons_zero, List.set_cons_succ]
    refine' wpAnyD_take (i := 2) (oi := { dst := some 33, op := Go.Op.fieldAddr 67 (Go.Operand.tmp 32) 1, type := 0, pos := "sums.go:39", after := #[{ on := 1, ground := Go.Ground.data }], guard := none }) (v := _) rfl (by kernel_rfl) (by kernel_rfl) (by kernel_rfl) (fun _ _ _ h => h) (by kernel_rfl) (Or.inl ⟨by rfl, ?hy15⟩) hS0 ?rest15
    case hy15 => (intro W hSw; go_simp; try (with_reducible rfl))
    try simp only [Act.put, List.setIfInBounds_toArray, List.set_cons_zero, List.set_cons_succ]
    refine' wpAnyD_take (i := 3) (oi := { dst := some 34, op := Go.Op.load 63 (Go.Operand.tmp 33), type := 63, pos := "sums.go:39", after := #[{ on := 2, ground := Go.Ground.data }], guard := none }) (v := _) rfl (by kernel_rfl) (by kernel_rfl) (by kernel_rfl) (fun _ _ _ h => h) (by kernel_rfl) (Or.inl ⟨by rfl, ?hy16⟩) hS0 ?rest16
    case hy16 => (intro W hSw; obtain ⟨s1, s2, s3, s4⟩ := hSw; obtain ⟨m0, m1, m2, m3⟩ := bx_cell s3.out.tb; obtain ⟨m5, m6, m7⟩ := rc_cell s3.out.rb; go_simp; try (with_reducible rfl))
    try simp only [Act.put, List.setIfInBounds_toArray, List.set_cons_zero, List.set_cons_succ]
    refine' wpAnyD_take (i := 4) (oi := { dst := some 35, op := Go.Op.load 32 (Go.Operand.tmp 4), type := 32, pos := "sums.go:39", after := #[], guard := none }) (v := _) rfl (by kernel_rfl) (by kernel_rfl) (by kernel_rfl) (fun _ _ _ h => h) (by kernel_rfl) (Or.inl ⟨by rfl, ?hy17⟩) hS0 ?rest17
    case hy17 => (intro W hSw; obtain ⟨s1, s2, s3, s4⟩ := hSw; obtain ⟨m0, m1, m2, m3⟩ := bx_cell s3.out.tb; obtain ⟨m5, m6, m7⟩ := rc_cell s3.out.rb; go_simp; try (with_reducible rfl))
    try simp only [Act.put, List.setIfInBounds_toArray, List.set_cons_zero, List.set_cons_succ]
    refine' wpAnyD_take (i := 5) (oi := { dst := some 36, op := Go.Op.lookup 63 (Go.Operand.tmp 34) (Go.Operand.tmp 35) false, type := 64, pos := "sums.go:39", after := #[{ on := 3, ground := Go.Ground.data }, { on := 4, ground := Go.Ground.data }], guard := none }) (v := _) rfl (by kernel_rfl) (by kernel_rfl) (by kernel_rfl) (fun _ _ _ h => h) (by kernel_rfl) (Or.inl ⟨by rfl, ?hy18⟩) hS0 ?rest18
    case hy18 => (intro W hSw; obtain ⟨s1, s2, s3, s4⟩ := hSw; obtain ⟨m0, m1, m2, m3⟩ := bx_cell s3.out.tb; obtain ⟨m5, m6, m7⟩ := rc_cell s3.out.rb; go_simp; try (with_reducible rfl))
    try simp only [Act.put, List.setIfInBounds_toArray, List.set_cons_zero, List.set_cons_succ]
    refine' wpAnyD_take (i := 6) (oi := { dst := some 37, op := Go.Op.fieldAddr 37 (Go.Operand.tmp 5) 0, type := 0, pos := "sums.go:39", after := #[], guard := none }) (v := _) rfl (by kernel_rfl) (by kernel_rfl) (by kernel_rfl) (fun _ _ _ h => h) (by kernel_rfl) (Or.inl ⟨by rfl, ?hy19⟩) hS0 ?rest19
    case hy19 => (intro W hSw; go_simp; try (with_reducible rfl))
    try simp only [Act.put, List.setIfInBounds_toArray, List.set_cons_zero, List.set_cons_succ]
    refine' wpAnyD_take (i := 7) (oi := { dst := some 38, op := Go.Op.load 30 (Go.Operand.tmp 37), type := 30, pos := "sums.go:39", after := #[{ on := 6, ground := Go.Ground.data }], guard := none }) (v := _) rfl (by kernel_rfl) (by kernel_rfl) (by kernel_rfl) (fun _ _ _ h => h) (by kernel_rfl) (Or.inl ⟨by rfl, ?hy20⟩) hS0 ?rest20
    case hy20 => (intro W hSw; obtain ⟨s1, s2, s3, s4⟩ := hSw; obtain ⟨m0, m1, m2, m3⟩ := bx_cell s3.out.tb; obtain ⟨m5, m6, m7⟩ := rc_cell s3.out.rb; go_simp; try (with_reducible rfl))
    try simp only [Act.put, List.setIfInBounds_toArray, List.set_cons_zero, List.set_cons_succ]
    refine wpAnyD_one (i := 8) (o := { dst := some 39, op := Go.Op.call { callee := Go.Callee.value (Go.Operand.func 33), args := #[Go.Operand.tmp 36, Go.Operand.tmp 38, Go.Operand.const (Go.Value.int Go.IntKind.i64 1)], argTypes := #[64, 30, 2] }, type := 79, pos := "sums.go:39", after := #[{ on := 5, ground := Go.Ground.data }, { on := 7, ground := Go.Ground.data }], guard := none }) (by kernel_rfl) rfl (fun K hK => ?_)
    rw [if_pos (by kernel_rfl)]
    go_simp
    refine hadd.mono ?_
    rintro e U ⟨rfl, hT7, hK7⟩
    have HF9 : Hid (Fu U (nw S w) (N + 2) sb mb kb (fun s => (sm A s).1) (Has A) T B (fun u => if u = t then upd (gA A t) r.1 1 else gA A u)) := (HFD.out.mono (Nat.le_succ (N + 1))).setB HQ.out hK7 hT7
    obtain ⟨es, cl, hbk⟩ := (HFD.out.each t q HQ.out).ta.blk
    have HB9 : Hid (Bx U t r b1 b2 b3) := HBD.out.kp hbk hK7
    have hS7 : (fun X : World => X.cell? ⟨sb, 1, none⟩ = some (.map (some kb)) ∧ sb < X.heap.size ∧ Hid (Bx X t r b1 b2 b3) ∧ (Instr.lookup 63 (.map (some kb)) (tv t) false).run Try.prog X = .ok (.pointer (some ⟨q, 0, none⟩)) X) U := ⟨HF9.out.c1, HF9.out.lt, HB9, HLK.out _ HF9.out.mp⟩
    have HKU : Hid (Kp S w U) := (HKV.out.trans (Kp.of_gr (S := S) (Gr.refl V).drew) (fun _ _ h => h)).trans hK7 (fun k hk e => nw_in (e ▸ (HFD.out.ok t q HQ.out).2.1) hk)
    clear hbk hT7 hK7
    go_wp2_with fail
    refine hK.out _ _ (fun hD => hS7) ?_
    clear hK K
    try simp only [Act.put, List.setIfInBounds_toArray, List.set_cons_zero, List.set_cons_succ]
    refine wpAnyD_done (by kernel_rfl) ?_ _
    have HG9 : Hid (∀ u q, T u = some q → ∀ k, (if u = t then upd (gA A t) r.1 1 else gA A u) k = gA (A ++ [(t, r)]) u k) := fun u q _ k => ga_new u k
    have HFU := HF9
    have HBU := HB9
    clear hS0 hS7 hadd HF9 HB9 HFV HBV HKV HFD HBD HLK
    go_upto_region 8 with fail
    obtain ⟨v0, st, w1, w2, hL0, hE, hL1, hSt, hM3, hg1, hg2⟩ := (HFU.out.below ((Gr.refl U).drew).below).mw.bump (t := 65) lawSx Try.underlying65 Try.underlying30 zeroU (by unfold maxLen; omega) (t, r.1) (addU (sm A (t, r.1)) r.2).1 (addU (sm A (t, r.1)) r.2).2
    have hL0 : (Instr.lookup 65 (.map (some mb)) (xv (t, r.1)) false).run Try.prog U.drew = .ok (.int .u64 (sm A (t, r.1)).1) U.drew := hL0
    have hL1 : (Instr.lookup 65 (.map (some mb)) (xv (t, r.1)) false).run Try.prog w1 = .ok (.int .u64 (sm A (t, r.1)).1) w1 := hL1
    have hE : (Instr.mapEntry 65 (.map (some mb)) (xv (t, r.1))).run Try.prog U.drew = .ok (.tuple #[v0, .int .i64 st]) w1 := hE
    have hSt : (Instr.entryStore 65 (.map (some mb)) (.int .i64 st) (.int .u64 (IntKind.u64.wrap ((sm A (t, r.1)).1 + r.2.1)))).run Try.prog w1 = .ok () w2 := hSt
    obtain ⟨es, cl, hmk⟩ := (HFU.out.below ((Gr.refl U).drew).below).mw.blk
    have k1 : Kp (fun k => k = mb) U.drew w1 := Kp.grownBy hg1 (fun k hk => by simpa using hk.symm)
    have k2 : Kp (fun k => k = mb) U.drew w2 := Kp.grownBy hg2 (fun k hk => by simpa using hk.symm)
    have HB1 : Hid (Bx w1 t r b1 b2 b3) := (HBU.out.below ((Gr.refl U).drew).below).kp hmk k1
    have HBD : Hid (Bx U.drew t r b1 b2 b3) := HBU.out.below ((Gr.refl U).drew).below
    have hsU := HFU.out.lt
    have cU := HFU.out.c0
    have c1 := (k1.cell (o := 0) (show sb < U.drew.heap.size from hsU) HFU.out.nm).trans cU
    have l1 : sb < w1.heap.size := Nat.lt_of_lt_of_le hsU k1.size
    have HFin : Hid (Su w2 (nw S w) (N + 3) sb (A ++ [(t, r)]) ∧ Kp S w w2) := by
      refine ⟨.inr ⟨mb, kb, T, B, ((((HFU.out.below ((Gr.refl U).drew).below).mono (Nat.le_succ (N + 2))).setS k2 hM3).re (upd_sm A t r) (has_add A t r) HG9.out), fun u => (HT.out u).trans ?_⟩, (HKU.out.trans (Kp.of_gr (S := S) (Gr.refl U).drew) (fun _ _ h => h)).trans k2 (fun k hk e => nw_in (e ▸ HFU.out.im) hk)⟩
      rw [hld_snoc]
      exact ⟨fun h => h.imp_right fun e => e.symm, fun h => h.imp_right fun e => e.symm⟩
    obtain ⟨c, hc⟩ : ∃ c, c = (sm A (t, r.1)).1 := ⟨_, rfl⟩
    rw [← hc] at hL0 hL1 hSt
    have hS0 : (fun X : World => X.cell? ⟨sb, 0, none⟩ = some (.map (some mb)) ∧ sb < X.heap.size ∧ Hid (Bx X t r b1 b2 b3) ∧ (Instr.lookup 65 (.map (some mb)) (xv (t, r.1)) false).run Try.prog X = .ok (.int .u64 c) X) U.drew := ⟨cU, hsU, HBD, hL0⟩
    have hS1 : (fun X : World => X.cell? ⟨sb, 0, none⟩ = some (.map (some mb)) ∧ sb < X.heap.size ∧ Hid (Bx X t r b1 b2 b3) ∧ (Instr.lookup 65 (.map (some mb)) (xv (t, r.1)) false).run Try.prog X = .ok (.int .u64 c) X) w1 := ⟨c1, l1, HB1, hL1⟩
    clear hc hM3 hg1 hg2 k1 k2 hmk HFU HBU HKU
    go_wp2_with fail
    refine wp_regionD (S := fun X : World => X.cell? ⟨sb, 0, none⟩ = some (.map (some mb)) ∧ sb < X.heap.size ∧ Hid (Bx X t r b1 b2 b3) ∧ (Instr.lookup 65 (.map (some mb)) (xv (t, r.1)) false).run Try.prog X = .ok (.int .u64 c) X) (D := [11]) hmx ?_
    refine' wpAnyD_take (i := 0) (oi := { dst := some 40, op := Go.Op.move (Go.Operand.tmp 0), type := 24, pos := "sums.go:41", after := #[], guard := none }) (v := _) rfl (by kernel_rfl) (by kernel_rfl) (by kernel_rfl) (fun _ _ _ h => h) (by kernel_rfl) (Or.inl ⟨by rfl, ?hy22⟩) hS0 ?rest22
    case hy22 => (intro W hSw; go_simp; try (with_reducible rfl))
    try simp only [Act.put, List.setIfInBounds_toArray, List.set_cons_zero, List.set_cons_succ]
    refine' wpAnyD_take (i := 1) (oi := { dst := some 41, op := Go.Op.nilCheck (Go.Operand.tmp 40), type := 0, pos := "sums.go:41", after := #[{ on := 0, ground := Go.Ground.data }], guard := none }) (v := _) rfl (by kernel_rfl) (by kernel_rfl) (by kernel_rfl) (fun _ _ _ h => h) (by kernel_rfl) (Or.inl ⟨by rfl, ?hy23⟩) hS0 ?rest23
    case hy23 => (intro W hSw; obtain ⟨s1, s2, s3, s4⟩ := hSw; obtain ⟨m0, m1, m2, m3, m4⟩ := sp_cell (s := (t, r.1)) s3.out.sp; obtain ⟨m5, m6, m7⟩ := rc_cell s3.out.rb; go_simp; try (with_reducible rfl))
    try simp only [Act.put, List.setIfInBounds_toArray, List.set_cons_zero, List.set_cons_succ]
    refine' wpAnyD_take (i := 2) (oi := { dst := some 42, op := Go.Op.fieldAddr 67 (Go.Operand.tmp 41) 0, type := 0, pos := "sums.go:41", after := #[{ on := 1, ground := Go.Ground.data }], guard := none }) (v := _) rfl (by kernel_rfl) (by kernel_rfl) (by kernel_rfl) (fun _ _ _ h => h) (by kernel_rfl) (Or.inl ⟨by rfl, ?hy24⟩) hS0 ?rest24
    case hy24 => (intro W hSw; go_simp; try (with_reducible rfl))
    try simp only [Act.put, List.setIfInBounds_toArray, List.set_cons_zero, List.set_cons_succ]
    refine' wpAnyD_take (i := 3) (oi := { dst := some 43, op := Go.Op.load 65 (Go.Operand.tmp 42), type := 65, pos := "sums.go:41", after := #[{ on := 2, ground := Go.Ground.data }], guard := none }) (v := _) rfl (by kernel_rfl) (by kernel_rfl) (by kernel_rfl) (fun _ _ _ h => h) (by kernel_rfl) (Or.inl ⟨by rfl, ?hy25⟩) hS0 ?rest25
    case hy25 => (intro W hSw; obtain ⟨s1, s2, s3, s4⟩ := hSw; obtain ⟨m0, m1, m2, m3, m4⟩ := sp_cell (s := (t, r.1)) s3.out.sp; obtain ⟨m5, m6, m7⟩ := rc_cell s3.out.rb; go_simp; try (with_reducible rfl))
    try simp only [Act.put, List.setIfInBounds_toArray, List.set_cons_zero, List.set_cons_succ]
    refine' wpAnyD_take (i := 4) (oi := { dst := some 44, op := Go.Op.load 75 (Go.Operand.tmp 8), type := 75, pos := "sums.go:41", after := #[], guard := none }) (v := _) rfl (by kernel_rfl) (by kernel_rfl) (by kernel_rfl) (fun _ _ _ h => h) (by kernel_rfl) (Or.inl ⟨by rfl, ?hy26⟩) hS0 ?rest26
    case hy26 => (intro W hSw; obtain ⟨s1, s2, s3, s4⟩ := hSw; obtain ⟨m0, m1, m2, m3, m4⟩ := sp_cell (s := (t, r.1)) s3.out.sp; obtain ⟨m5, m6, m7⟩ := rc_cell s3.out.rb; go_simp; try (with_reducible rfl))
    try simp only [Act.put, List.setIfInBounds_toArray, List.set_cons_zero, List.set_cons_succ]
    refine' wpAnyD_take (i := 5) (oi := { dst := some 45, op := Go.Op.lookup 65 (Go.Operand.tmp 43) (Go.Operand.tmp 44) false, type := 30, pos := "sums.go:41", after := #[{ on := 3, ground := Go.Ground.data }, { on := 4, ground := Go.Ground.data }], guard := none }) (v := _) rfl (by kernel_rfl) (by kernel_rfl) (by kernel_rfl) (fun _ _ _ h => h) (by kernel_rfl) (Or.inl ⟨by rfl, ?hy27⟩) hS0 ?rest27
    case hy27 => (intro W hSw; obtain ⟨s1, s2, s3, s4⟩ := hSw; obtain ⟨m0, m1, m2, m3, m4⟩ := sp_cell (s := (t, r.1)) s3.out.sp; obtain ⟨m5, m6, m7⟩ := rc_cell s3.out.rb; go_simp; try (with_reducible rfl))
    try simp only [Act.put, List.setIfInBounds_toArray, List.set_cons_zero, List.set_cons_succ]
    refine' wpAnyD_take (i := 6) (oi := { dst := some 46, op := Go.Op.fieldAddr 37 (Go.Operand.tmp 5) 1, type := 0, pos := "sums.go:41", after := #[], guard := none }) (v := _) rfl (by kernel_rfl) (by kernel_rfl) (by kernel_rfl) (fun _ _ _ h => h) (by kernel_rfl) (Or.inl ⟨by rfl, ?hy28⟩) hS0 ?rest28
    case hy28 => (intro W hSw; go_simp; try (with_reducible rfl))
    try simp only [Act.put, List.setIfInBounds_toArray, List.set_cons_zero, List.set_cons_succ]
    refine' wpAnyD_take (i := 7) (oi := { dst := some 47, op := Go.Op.load 30 (Go.Operand.tmp 46), type := 30, pos := "sums.go:41", after := #[{ on := 6, ground := Go.Ground.data }], guard := none }) (v := _) rfl (by kernel_rfl) (by kernel_rfl) (by kernel_rfl) (fun _ _ _ h => h) (by kernel_rfl) (Or.inl ⟨by rfl, ?hy29⟩) hS0 ?rest29
    case hy29 => (intro W hSw; obtain ⟨s1, s2, s3, s4⟩ := hSw; obtain ⟨m0, m1, m2, m3, m4⟩ := sp_cell (s := (t, r.1)) s3.out.sp; obtain ⟨m5, m6, m7⟩ := rc_cell s3.out.rb; go_simp; try (with_reducible rfl))
    try simp only [Act.put, List.setIfInBounds_toArray, List.set_cons_zero, List.set_cons_succ]
    refine' wpAnyD_take (i := 8) (oi := { dst := some 48, op := Go.Op.binOp Go.BinOp.add 30 (Go.Operand.tmp 45) (Go.Operand.tmp 47) 30, type := 30, pos := "sums.go:41", after := #[{ on := 5, ground := Go.Ground.data }, { on := 7, ground := Go.Ground.data }], guard := none }) (v := _) rfl (by kernel_rfl) (by kernel_rfl) (by kernel_rfl) (fun _ _ _ h => h) (by kernel_rfl) (Or.inl ⟨by rfl, ?hy30⟩) hS0 ?rest30
    case hy30 => (intro W hSw; go_simp; try (with_reducible rfl))
    try simp only [Act.put, List.setIfInBounds_toArray, List.set_cons_zero, List.set_cons_succ]
    refine wpAnyD_one (i := 9) (o := { dst := some 49, op := Go.Op.mapEntry 65 (Go.Operand.tmp 43) (Go.Operand.tmp 44), type := 0, pos := "sums.go:41", after := #[{ on := 3, ground := Go.Ground.data }, { on := 4, ground := Go.Ground.data }, { on := 0, ground := Go.Ground.phase }, { on := 1, ground := Go.Ground.phase }, { on := 2, ground := Go.Ground.phase }, { on := 3, ground := Go.Ground.phase }, { on := 4, ground := Go.Ground.phase }, { on := 5, ground := Go.Ground.textOnly Go.Departure.mapOpAssignEntry }, { on := 6, ground := Go.Ground.phase }, { on := 7, ground := Go.Ground.phase }, { on := 8, ground := Go.Ground.textOnly Go.Departure.mapOpAssignEntry }], guard := none }) (by kernel_rfl) rfl (fun K hK => ?_)
    rw [if_pos (by kernel_rfl)]
    go_simp
    refine hK.out _ _ (fun hD => hS1) ?_
    clear hK K
    try simp only [Act.put, List.setIfInBounds_toArray, List.set_cons_zero, List.set_cons_succ]
    refine' wpAnyD_take (i := 10) (oi := { dst := some 50, op := Go.Op.extract (Go.Operand.tmp 49) 1, type := 3, pos := "sums.go:41", after := #[{ on := 9, ground := Go.Ground.data }], guard := none }) (v := _) rfl (by kernel_rfl) (by kernel_rfl) (by kernel_rfl) (fun _ _ _ h => h) (by kernel_rfl) (Or.inl ⟨by rfl, ?hy32⟩) hS1 ?rest32
    case hy32 => (intro W hSw; go_simp; try (with_reducible rfl))
    try simp only [Act.put, List.setIfInBounds_toArray, List.set_cons_zero, List.set_cons_succ]
    refine wpAnyD_one (i := 11) (o := { dst := none, op := Go.Op.entryStore 65 (Go.Operand.tmp 43) (Go.Operand.tmp 50) (Go.Operand.tmp 48), type := 0, pos := "sums.go:41", after := #[{ on := 3, ground := Go.Ground.data }, { on := 10, ground := Go.Ground.data }, { on := 8, ground := Go.Ground.data }, { on := 9, ground := Go.Ground.chain }, { on := 0, ground := Go.Ground.phase }, { on := 1, ground := Go.Ground.phase }, { on := 2, ground := Go.Ground.phase }, { on := 3, ground := Go.Ground.phase }, { on := 4, ground := Go.Ground.phase }, { on := 5, ground := Go.Ground.phase }, { on := 6, ground := Go.Ground.phase }, { on := 7, ground := Go.Ground.phase }, { on := 8, ground := Go.Ground.phase }, { on := 9, ground := Go.Ground.phase }, { on := 10, ground := Go.Ground.phase }], guard := none }) (by kernel_rfl) rfl (fun K hK => ?_)
    rw [if_pos (by kernel_rfl)]
    go_simp
    refine hK.out _ _ (fun hD => absurd (by decide) hD) ?_
    clear hK K
    try simp only [Act.put, List.setIfInBounds_toArray, List.set_cons_zero, List.set_cons_succ]
    refine wpAnyD_done (by kernel_rfl) ?_ _
    clear hS0 hS1 hL0 hL1 hSt hE cU c1 hsU l1
    go_wp2
    go_ret
    exact ⟨rfl, HFin.out⟩
end Go.Proofs.Ytijbmchgajhkeaa
