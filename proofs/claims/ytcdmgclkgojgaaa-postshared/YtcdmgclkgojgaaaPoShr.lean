import Derived.Test.YtcdmgclkgojgaaaPoTagS
import Derived.Test.YtcdmgclkgojgaaaPoKnown
import Derived.Test.YtcdmgclkgojgaaaPoKept
import Derived.Test.YtcdmgclkgojgaaaPoPairs
import Derived.WalkMore
namespace Go.Proofs.Ytcdmgclkgojgaaa.Ps
open Go.RowKit Go.Sort
open Po (fo ti fo_bd ti_bd cn cn_take cn_le cn_take_le kept_any)
attribute [local go_sem ↓] Go.wp_at_zero Go.wp_at_succ
theorem lnk8 (x : Po.Th) : Lnk 8 (fo x) (ti x) ↔ fo x ≠ ti x := by
  have h1 := fo_bd x
  have h2 := ti_bd x
  exact ⟨fun h => h.2.2, fun h => ⟨⟨h1.1, by omega⟩, ⟨h2.1, by omega⟩, h⟩⟩
theorem tot_step (Q : Nat → List ByteArray) (x : Po.Th) (s : ByteArray) : tot 8 (ptn 8 Q (fo x) (ti x) s) = tot 8 Q + (if fo x ≠ ti x then 1 else 0) := by
  by_cases h : fo x ≠ ti x
  · rw [if_pos h, tot_ptn (Nat.le_refl _) ((lnk8 x).2 h)]
  · rw [if_neg h]
    unfold ptn
    rw [if_neg (fun hk => h ((lnk8 x).1 hk))]
    rfl
/-- The post alone. -/
structure S1 (w0 : World) (hp N : Nat) (Q : Nat → List ByteArray) (w : World) : Prop where
  ex : ∃ tag, Pt w tag 1 hp 8 N Q ∧ ∀ k, k < w0.heap.size → tag k = 0
  bel : Below w0.heap.size w0 w
/-- The post and its copies. -/
structure S3 (w0 : World) (hp hc hd N : Nat) (Q C D : Nat → List ByteArray) (w : World) : Prop where
  ex : ∃ tag, Pt w tag 1 hp 8 N Q ∧ Pt w tag 2 hc 8 N C ∧ Pt w tag 3 hd 8 N D ∧ ∀ k, k < w0.heap.size → tag k = 0
  bel : Below w0.heap.size w0 w
section
variable {w0 w w' : World} {hp hc hd N : Nat} {Q C D : Nat → List ByteArray}
theorem old_tg {tag : Nat → Nat} {j : Nat} (h : ∀ k, k < w0.heap.size → tag k = 0) (hs : w0.heap.size ≤ w.heap.size) : ∀ k, k < w0.heap.size → tg tag w j k = 0 := fun k hk => by rw [tg_old (Nat.lt_of_lt_of_le hk hs)]; exact h k hk
theorem bel_kp {tag : Nat → Nat} {j : Nat} (h : ∀ k, k < w0.heap.size → tag k = 0) (hj : j ≠ 0) (hB : Below w0.heap.size w0 w) (hK : Kp (fun k => tag k = j) w w') : Below w0.heap.size w0 w' :=
  hB.trans (hK.below hB.size (fun k hk => Nat.le_of_not_lt (fun hlt => hj (hk.symm.trans (h k hlt)))))
theorem S1.below (h : S1 w0 hp N Q w) (hB : Below w.heap.size w w') : S1 w0 hp N Q w' := by
  obtain ⟨⟨tag, h1, h2⟩, hb⟩ := h
  exact ⟨⟨_, h1.below hB 0, old_tg h2 hb.size⟩, hb.trans (hB.mono hb.size)⟩
theorem S1.put (h : S1 w0 hp N Q w) (f t : Int) (x : ByteArray) (hN : (N + 1) * 16 ≤ 140737488355328) : Calls Try.prog 13 #[.pointer (some ⟨hp, 0, none⟩), .int .i64 f, .int .i64 t, .string x] w fun e w' => (∃ q : Int, e = .returned (.int .i64 q)) ∧ Hid (S1 w0 hp (N + 1) (ptn 8 Q f t x) w') := by
  obtain ⟨⟨tag, h1, h2⟩, hb⟩ := h
  refine (h1.put f t x hN).mono ?_
  rintro e w' ⟨he, hP⟩
  exact ⟨⟨_, he⟩, ⟨⟨_, hP.out.1, old_tg h2 hb.size⟩, bel_kp h2 (by decide) hb hP.out.2⟩⟩
theorem S3.below (h : S3 w0 hp hc hd N Q C D w) (hB : Below w.heap.size w w') : S3 w0 hp hc hd N Q C D w' := by
  obtain ⟨⟨tag, h1, h2, h3, h4⟩, hb⟩ := h
  exact ⟨⟨_, h1.below hB 0, h2.below hB 0, h3.below hB 0, old_tg h4 hb.size⟩, hb.trans (hB.mono hb.size)⟩
theorem S3.mono {N' : Nat} (h : S3 w0 hp hc hd N Q C D w) (hN : N ≤ N') : S3 w0 hp hc hd N' Q C D w := by
  obtain ⟨⟨tag, h1, h2, h3, h4⟩, hb⟩ := h
  exact ⟨⟨_, h1.mono (fun _ _ h => h) hN, h2.mono (fun _ _ h => h) hN, h3.mono (fun _ _ h => h) hN, h4⟩, hb⟩
theorem S1.copy2 (h : S1 w0 hp N Q w) (hN : N * 16 ≤ 140737488355328) : Calls Try.prog 14 #[.pointer (some ⟨hp, 0, none⟩)] w fun e w1 => ∃ hc, e = .returned (.pointer (some ⟨hc, 0, none⟩)) ∧ Hid (Calls Try.prog 14 #[.pointer (some ⟨hp, 0, none⟩)] w1 fun e w2 => ∃ hd, e = .returned (.pointer (some ⟨hd, 0, none⟩)) ∧ Hid (S3 w0 hp hc hd N Q Q Q w2)) := by
  obtain ⟨⟨tag, h1, h2⟩, hb⟩ := h
  refine (h1.copy 2 hN).mono ?_
  rintro e w1 ⟨he, hc⟩
  refine ⟨_, he, ?_⟩
  have h1' := h1.below hc.out.2 2
  have hb1 := hb.trans (hc.out.2.mono hb.size)
  refine (h1'.copy 3 hN).mono ?_
  rintro e w2 ⟨he2, hd⟩
  exact ⟨_, he2, ⟨⟨_, h1'.below hd.out.2 3, hc.out.1.below hd.out.2 3, hd.out.1, old_tg (old_tg h2 hb.size) hb1.size⟩, hb1.trans (hd.out.2.mono hb1.size)⟩⟩
theorem S3.putC (h : S3 w0 hp hc hd N Q C D w) (f t : Int) (x : ByteArray) (hN : (N + 1) * 16 ≤ 140737488355328) : Calls Try.prog 13 #[.pointer (some ⟨hc, 0, none⟩), .int .i64 f, .int .i64 t, .string x] w fun e w' => (∃ q : Int, e = .returned (.int .i64 q)) ∧ Hid (S3 w0 hp hc hd (N + 1) Q (ptn 8 C f t x) D w') := by
  obtain ⟨⟨tag, h1, h2, h3, h4⟩, hb⟩ := h.mono (Nat.le_succ N)
  obtain ⟨⟨tag', k1, k2, k3, k4⟩, _⟩ := h
  refine (k2.put f t x hN).mono ?_
  rintro e w' ⟨he, hP⟩
  exact ⟨⟨_, he⟩, ⟨⟨_, (k1.keep (by decide) hP.out.2).mono (fun _ _ h => h) (Nat.le_succ N), hP.out.1, (k3.keep (by decide) hP.out.2).mono (fun _ _ h => h) (Nat.le_succ N), old_tg k4 hb.size⟩, bel_kp k4 (by decide) hb hP.out.2⟩⟩
theorem S3.takeP (h : S3 w0 hp hc hd N Q C D w) (f t : Int) (hN : N * 16 ≤ 140737488355328) : Calls Try.prog 18 #[.pointer (some ⟨hp, 0, none⟩), .int .i64 f, .int .i64 t] w fun e w' => e = .returned (lv (lk 8 Q f t 0)) ∧ Hid (S3 w0 hp hc hd N (tkn 8 Q f t) C D w') := by
  obtain ⟨⟨tag, k1, k2, k3, k4⟩, hb⟩ := h
  refine (k1.take f t hN).mono ?_
  rintro e w' ⟨he, hP⟩
  exact ⟨he, ⟨⟨_, hP.out.1, k2.keep (by decide) hP.out.2, k3.keep (by decide) hP.out.2, old_tg k4 hb.size⟩, bel_kp k4 (by decide) hb hP.out.2⟩⟩
theorem S3.takeD (h : S3 w0 hp hc hd N Q C D w) (f t : Int) (hN : N * 16 ≤ 140737488355328) : Calls Try.prog 18 #[.pointer (some ⟨hd, 0, none⟩), .int .i64 f, .int .i64 t] w fun e w' => e = .returned (lv (lk 8 D f t 0)) ∧ Hid (S3 w0 hp hc hd N Q C (tkn 8 D f t) w') := by
  obtain ⟨⟨tag, k1, k2, k3, k4⟩, hb⟩ := h
  refine (k3.take f t hN).mono ?_
  rintro e w' ⟨he, hP⟩
  exact ⟨he, ⟨⟨_, k1.keep (by decide) hP.out.2, k2.keep (by decide) hP.out.2, hP.out.1, old_tg k4 hb.size⟩, bel_kp k4 (by decide) hb hP.out.2⟩⟩
theorem S3.total (h : S3 w0 hp hc hd N Q C D w) (hN : N * 16 ≤ 140737488355328) (q : Nat) (Z : Nat → List ByteArray) (hq : (q = hp ∧ Z = Q) ∨ (q = hc ∧ Z = C) ∨ (q = hd ∧ Z = D)) : Calls Try.prog 15 #[.pointer (some ⟨q, 0, none⟩)] w fun e w' => e = .returned (.int .i64 (tot 8 Z : Nat)) ∧ Hid (S3 w0 hp hc hd N Q C D w') := by
  have hs := h
  obtain ⟨⟨tag, k1, k2, k3, k4⟩, hb⟩ := h
  rcases hq with ⟨rfl, rfl⟩ | ⟨rfl, rfl⟩ | ⟨rfl, rfl⟩
  · refine (total_any w k1 hN).mono ?_
    rintro e w' ⟨he, m, rfl⟩
    exact ⟨he, hs.below ((Gr.refl _).drewN m).below⟩
  · refine (total_any w k2 hN).mono ?_
    rintro e w' ⟨he, m, rfl⟩
    exact ⟨he, hs.below ((Gr.refl _).drewN m).below⟩
  · refine (total_any w k3 hN).mono ?_
    rintro e w' ⟨he, m, rfl⟩
    exact ⟨he, hs.below ((Gr.refl _).drewN m).below⟩
theorem S3.busy (h : S3 w0 hp hc hd N Q C D w) (q : Nat) (Z : Nat → List ByteArray) (hq : (q = hp ∧ Z = Q) ∨ (q = hc ∧ Z = C) ∨ (q = hd ∧ Z = D)) : Calls Try.prog 17 #[.pointer (some ⟨q, 0, none⟩)] w fun e w' => ∃ p c, e = .returned (.slice p (bsy 8 Z).length c) ∧ Hid (S3 w0 hp hc hd N Q C D w' ∧ Ls EP w' (.slice p (bsy 8 Z).length c) (bsy 8 Z) ∧ Below w.heap.size w w') := by
  have hs := h
  obtain ⟨⟨tag, k1, k2, k3, k4⟩, hb⟩ := h
  have hall : ∀ {hb : Nat} {S : Nat → Prop}, Pq w S hb 8 N Z → Calls Try.prog 17 #[.pointer (some ⟨hb, 0, none⟩)] w fun e w' => ∃ p c, e = .returned (.slice p (bsy 8 Z).length c) ∧ Hid (S3 w0 hp hc hd N Q C D w' ∧ Ls EP w' (.slice p (bsy 8 Z).length c) (bsy 8 Z) ∧ Below w.heap.size w w') := fun hP => by
    refine (busy_any w hP).mono ?_
    rintro e w' ⟨v, he, ho, hB⟩
    have hl := owns_ls (E := EP) ho
    obtain ⟨p, c, rfl⟩ := hl.form
    exact ⟨p, c, he, hs.below hB, hl, hB⟩
  rcases hq with ⟨rfl, rfl⟩ | ⟨rfl, rfl⟩ | ⟨rfl, rfl⟩
  · exact hall k1
  · exact hall k2
  · exact hall k3
end
theorem bsy_le (Z : Nat → List ByteArray) : (bsy 8 Z).length ≤ 1000000000 := Nat.le_trans (bsA_le _ 8 8) (by decide)
set_option maxHeartbeats 16000000 in
set_option maxRecDepth 100000 in
theorem postShared_any (v1 v2 : Value) (sc mo : List Po.Th) (w : World) (hL1 : Ls Po.ET w v1 sc) (hL2 : Ls Po.ET w v2 mo) (hlen1 : sc.length * 40 ≤ 140737488351232) (hlen2 : mo.length * 40 ≤ 140737488351232) : Calls Try.prog 4 #[v1, v2] w fun e w' => e = .returned (.bool true) ∧ Below w.heap.size w w' := by
  have hmx : Try.prog.follows .mixedOrders = true := by kernel_rfl
  obtain ⟨p1, c1, rfl⟩ := hL1.form
  obtain ⟨p2, c2, rfl⟩ := hL2.form
  have HL1 := hid hL1
  have HL2 := hid hL2
  have HN1 := hid hlen1
  have HN2 := hid hlen2
  have hs1 : sc.length ≤ 3518437208784 := by omega
  have hs2 : mo.length ≤ 3518437208784 := by omega
  have hnew := new_any 8 w (by decide) (by decide)
  obtain ⟨hp, hhp⟩ : ∃ hp, hp = w.heap.size := ⟨_, rfl⟩
  rw [← hhp] at hnew
  have HHP := hid hhp
  clear hL1 hL2 hlen1 hlen2 hhp
  go_enter Try.func4, Try.ntmps4
  go_wp2_with fail
  refine hnew.mono ?_
  rintro e w1 ⟨rfl, hP1, hG1⟩
  have T1 : Hid (S1 w hp 0 (fun _ => []) w1) := ⟨⟨fun k => if k < w.heap.size then 0 else 1, hP1.mono (fun k _ e => by rw [e, HHP.out]; simp) (Nat.le_refl _), fun k hk => by simp [hk]⟩, hG1.below⟩
  have hkn := known_any w1
  clear hnew hP1 hG1
  go_wp2_with fail
  refine hkn.mono ?_
  rintro e w2 ⟨rfl, hB2⟩
  have T2 := hid (T1.out.below hB2)
  clear hkn hB2
  go_wp2_with fail
  go_loopw [7] (fun s7 wr => ∃ (k : Nat) (Q : Nat → List ByteArray), k ≤ sc.length ∧ s7 = .int .i64 k ∧ Hid (S1 w hp k Q wr ∧ tot 8 Q = cn (sc.take k))) (fun s7 _ => sc.length - (RowKit.intOf s7).toNat)
  case atStart => exact ⟨0, _, Nat.zero_le _, rfl, T2.out, tot_nil (Nat.le_refl _) (fun _ _ => rfl)⟩
  case round =>
    clear T2 T1
    obtain ⟨k, Q, hk, rfl, T⟩ := hrel
    by_cases hlt : k < sc.length
    · have hltz : (k : Int) < (sc.length : Int) := by omega
      have k0 : (0 : Int) ≤ (k : Int) := by omega
      obtain ⟨x, hx⟩ : ∃ x, sc[k]? = some x := ⟨sc[k], by rw [List.getElem?_eq_getElem]⟩
      obtain ⟨b2, o2, c2', e2, z2, -, -, x2, x3, x4⟩ := Po.ls_at HL1.out hx
      simp only [Value.slice.injEq] at e2
      obtain ⟨rfl, -, rfl⟩ := e2
      have HCT := hid (cn_take hx)
      have hput := fun s => (T.out.1.below (Gr.refl wr).drew.below).put (fo x) (ti x) s (by have := HN1.out; omega)
      have hF : bits .and .i64 x.2.2.1 7 = fo x := rfl
      have hT : bits .and .i64 x.2.2.2.1 7 = ti x := rfl
      have hS0 : Below w.heap.size w wr.drew := T.out.1.bel.trans ((Gr.refl wr).drew.below.mono T.out.1.bel.size)
      clear hx
      go_upto_region 7 with fail
      refine wp_regionD (S := fun W => Below w.heap.size w W) (D := []) hmx ?_
      refine' wpAnyD_take (i := 0) (oi := { dst := some 39, op := Go.Op.move (Go.Operand.tmp 5), type := 39, pos := "law.go:206", after := #[], guard := none }) (v := _) rfl (by kernel_rfl) (by kernel_rfl) (by kernel_rfl) (fun _ _ _ h => h) (by kernel_rfl) (Or.inl ⟨by rfl, ?hy1⟩) hS0 ?rest1
      case hy1 => (intro W hSw; go_simp; try (with_reducible rfl))
      try simp only [Act.put, List.setIfInBounds_toArray, List.set_cons_zero, List.set_cons_succ]
      refine' wpAnyD_take (i := 1) (oi := { dst := some 40, op := Go.Op.move (Go.Operand.tmp 0), type := 22, pos := "law.go:206", after := #[], guard := none }) (v := _) rfl (by kernel_rfl) (by kernel_rfl) (by kernel_rfl) (fun _ _ _ h => h) (by kernel_rfl) (Or.inl ⟨by rfl, ?hy2⟩) hS0 ?rest2
      case hy2 => (intro W hSw; go_simp; try (with_reducible rfl))
      try simp only [Act.put, List.setIfInBounds_toArray, List.set_cons_zero, List.set_cons_succ]
      refine' wpAnyD_take (i := 2) (oi := { dst := some 41, op := Go.Op.move (Go.Operand.tmp 7), type := 3, pos := "law.go:206", after := #[], guard := none }) (v := _) rfl (by kernel_rfl) (by kernel_rfl) (by kernel_rfl) (fun _ _ _ h => h) (by kernel_rfl) (Or.inl ⟨by rfl, ?hy3⟩) hS0 ?rest3
      case hy3 => (intro W hSw; go_simp; try (with_reducible rfl))
      try simp only [Act.put, List.setIfInBounds_toArray, List.set_cons_zero, List.set_cons_succ]
      refine' wpAnyD_take (i := 3) (oi := { dst := some 42, op := Go.Op.indexAddr 22 (Go.Operand.tmp 40) (Go.Operand.tmp 41), type := 0, pos := "law.go:206", after := #[{ on := 1, ground := Go.Ground.data }, { on := 2, ground := Go.Ground.data }], guard := none }) (v := _) rfl (by kernel_rfl) (by kernel_rfl) (by kernel_rfl) (fun _ _ _ h => h) (by kernel_rfl) (Or.inl ⟨by rfl, ?hy4⟩) hS0 ?rest4
      case hy4 => (intro W hSw; go_simp; try (with_reducible rfl))
      try simp only [Act.put, List.setIfInBounds_toArray, List.set_cons_zero, List.set_cons_succ]
      refine' wpAnyD_take (i := 4) (oi := { dst := some 43, op := Go.Op.fieldAddr 28 (Go.Operand.tmp 42) 2, type := 0, pos := "law.go:206", after := #[{ on := 3, ground := Go.Ground.data }], guard := none }) (v := _) rfl (by kernel_rfl) (by kernel_rfl) (by kernel_rfl) (fun _ _ _ h => h) (by kernel_rfl) (Or.inl ⟨by rfl, ?hy5⟩) hS0 ?rest5
      case hy5 => (intro W hSw; go_simp; try (with_reducible rfl))
      try simp only [Act.put, List.setIfInBounds_toArray, List.set_cons_zero, List.set_cons_succ]
      refine' wpAnyD_take (i := 5) (oi := { dst := some 44, op := Go.Op.load 3 (Go.Operand.tmp 43), type := 3, pos := "law.go:206", after := #[{ on := 4, ground := Go.Ground.data }], guard := none }) (v := _) rfl (by kernel_rfl) (by kernel_rfl) (by kernel_rfl) (fun _ _ _ h => h) (by kernel_rfl) (Or.inl ⟨by rfl, ?hy6⟩) hS0 ?rest6
      case hy6 => (intro W hSw; have s := (hSw.cell (p := ⟨b2, o2 + k * 5 + 2, none⟩) z2).trans x2; have z3 := Nat.lt_of_lt_of_le z2 hSw.size; go_simp; try (with_reducible rfl))
      try simp only [Act.put, List.setIfInBounds_toArray, List.set_cons_zero, List.set_cons_succ]
      refine' wpAnyD_take (i := 6) (oi := { dst := some 45, op := Go.Op.binOp Go.BinOp.and 3 (Go.Operand.tmp 44) (Go.Operand.const (Go.Value.int Go.IntKind.i64 7)) 3, type := 3, pos := "law.go:206", after := #[{ on := 5, ground := Go.Ground.data }], guard := none }) (v := _) rfl (by kernel_rfl) (by kernel_rfl) (by kernel_rfl) (fun _ _ _ h => h) (by kernel_rfl) (Or.inl ⟨by rfl, ?hy7⟩) hS0 ?rest7
      case hy7 => (intro W hSw; go_simp; try (with_reducible rfl))
      try simp only [Act.put, List.setIfInBounds_toArray, List.set_cons_zero, List.set_cons_succ]
      refine' wpAnyD_take (i := 7) (oi := { dst := some 46, op := Go.Op.move (Go.Operand.tmp 0), type := 22, pos := "law.go:206", after := #[], guard := none }) (v := _) rfl (by kernel_rfl) (by kernel_rfl) (by kernel_rfl) (fun _ _ _ h => h) (by kernel_rfl) (Or.inl ⟨by rfl, ?hy8⟩) hS0 ?rest8
      case hy8 => (intro W hSw; go_simp; try (with_reducible rfl))
      try simp only [Act.put, List.setIfInBounds_toArray, List.set_cons_zero, List.set_cons_succ]
      refine' wpAnyD_take (i := 8) (oi := { dst := some 47, op := Go.Op.move (Go.Operand.tmp 7), type := 3, pos := "law.go:206", after := #[], guard := none }) (v := _) rfl (by kernel_rfl) (by kernel_rfl) (by kernel_rfl) (fun _ _ _ h => h) (by kernel_rfl) (Or.inl ⟨by rfl, ?hy9⟩) hS0 ?rest9
      case hy9 => (intro W hSw; go_simp; try (with_reducible rfl))
      try simp only [Act.put, List.setIfInBounds_toArray, List.set_cons_zero, List.set_cons_succ]
      refine' wpAnyD_take (i := 9) (oi := { dst := some 48, op := Go.Op.indexAddr 22 (Go.Operand.tmp 46) (Go.Operand.tmp 47), type := 0, pos := "law.go:206", after := #[{ on := 7, ground := Go.Ground.data }, { on := 8, ground := Go.Ground.data }], guard := none }) (v := _) rfl (by kernel_rfl) (by kernel_rfl) (by kernel_rfl) (fun _ _ _ h => h) (by kernel_rfl) (Or.inl ⟨by rfl, ?hy10⟩) hS0 ?rest10
      case hy10 => (intro W hSw; go_simp; try (with_reducible rfl))
      try simp only [Act.put, List.setIfInBounds_toArray, List.set_cons_zero, List.set_cons_succ]
      refine' wpAnyD_take (i := 10) (oi := { dst := some 49, op := Go.Op.fieldAddr 28 (Go.Operand.tmp 48) 3, type := 0, pos := "law.go:206", after := #[{ on := 9, ground := Go.Ground.data }], guard := none }) (v := _) rfl (by kernel_rfl) (by kernel_rfl) (by kernel_rfl) (fun _ _ _ h => h) (by kernel_rfl) (Or.inl ⟨by rfl, ?hy11⟩) hS0 ?rest11
      case hy11 => (intro W hSw; go_simp; try (with_reducible rfl))
      try simp only [Act.put, List.setIfInBounds_toArray, List.set_cons_zero, List.set_cons_succ]
      refine' wpAnyD_take (i := 11) (oi := { dst := some 50, op := Go.Op.load 3 (Go.Operand.tmp 49), type := 3, pos := "law.go:206", after := #[{ on := 10, ground := Go.Ground.data }], guard := none }) (v := _) rfl (by kernel_rfl) (by kernel_rfl) (by kernel_rfl) (fun _ _ _ h => h) (by kernel_rfl) (Or.inl ⟨by rfl, ?hy12⟩) hS0 ?rest12
      case hy12 => (intro W hSw; have s := (hSw.cell (p := ⟨b2, o2 + k * 5 + 3, none⟩) z2).trans x3; have z3 := Nat.lt_of_lt_of_le z2 hSw.size; go_simp; try (with_reducible rfl))
      try simp only [Act.put, List.setIfInBounds_toArray, List.set_cons_zero, List.set_cons_succ]
      refine' wpAnyD_take (i := 12) (oi := { dst := some 51, op := Go.Op.binOp Go.BinOp.and 3 (Go.Operand.tmp 50) (Go.Operand.const (Go.Value.int Go.IntKind.i64 7)) 3, type := 3, pos := "law.go:206", after := #[{ on := 11, ground := Go.Ground.data }], guard := none }) (v := _) rfl (by kernel_rfl) (by kernel_rfl) (by kernel_rfl) (fun _ _ _ h => h) (by kernel_rfl) (Or.inl ⟨by rfl, ?hy13⟩) hS0 ?rest13
      case hy13 => (intro W hSw; go_simp; try (with_reducible rfl))
      try simp only [Act.put, List.setIfInBounds_toArray, List.set_cons_zero, List.set_cons_succ]
      refine' wpAnyD_take (i := 13) (oi := { dst := some 52, op := Go.Op.move (Go.Operand.tmp 0), type := 22, pos := "law.go:206", after := #[], guard := none }) (v := _) rfl (by kernel_rfl) (by kernel_rfl) (by kernel_rfl) (fun _ _ _ h => h) (by kernel_rfl) (Or.inl ⟨by rfl, ?hy14⟩) hS0 ?rest14
      case hy14 => (intro W hSw; go_simp; try (with_reducible rfl))
      try simp only [Act.put, List.setIfInBounds_toArray, List.set_cons_zero, List.set_cons_succ]
      refine' wpAnyD_take (i := 14) (oi := { dst := some 53, op := Go.Op.move (Go.Operand.tmp 7), type := 3, pos := "law.go:206", after := #[], guard := none }) (v := _) rfl (by kernel_rfl) (by kernel_rfl) (by kernel_rfl) (fun _ _ _ h => h) (by kernel_rfl) (Or.inl ⟨by rfl, ?hy15⟩) hS0 ?rest15
      case hy15 => (intro W hSw; go_simp; try (with_reducible rfl))
      try simp only [Act.put, List.setIfInBounds_toArray, List.set_cons_zero, List.set_cons_succ]
      refine' wpAnyD_take (i := 15) (oi := { dst := some 54, op := Go.Op.indexAddr 22 (Go.Operand.tmp 52) (Go.Operand.tmp 53), type := 0, pos := "law.go:206", after := #[{ on := 13, ground := Go.Ground.data }, { on := 14, ground := Go.Ground.data }], guard := none }) (v := _) rfl (by kernel_rfl) (by kernel_rfl) (by kernel_rfl) (fun _ _ _ h => h) (by kernel_rfl) (Or.inl ⟨by rfl, ?hy16⟩) hS0 ?rest16
      case hy16 => (intro W hSw; go_simp; try (with_reducible rfl))
      try simp only [Act.put, List.setIfInBounds_toArray, List.set_cons_zero, List.set_cons_succ]
      refine' wpAnyD_take (i := 16) (oi := { dst := some 55, op := Go.Op.fieldAddr 28 (Go.Operand.tmp 54) 4, type := 0, pos := "law.go:206", after := #[{ on := 15, ground := Go.Ground.data }], guard := none }) (v := _) rfl (by kernel_rfl) (by kernel_rfl) (by kernel_rfl) (fun _ _ _ h => h) (by kernel_rfl) (Or.inl ⟨by rfl, ?hy17⟩) hS0 ?rest17
      case hy17 => (intro W hSw; go_simp; try (with_reducible rfl))
      try simp only [Act.put, List.setIfInBounds_toArray, List.set_cons_zero, List.set_cons_succ]
      refine' wpAnyD_take (i := 17) (oi := { dst := some 56, op := Go.Op.load 3 (Go.Operand.tmp 55), type := 3, pos := "law.go:206", after := #[{ on := 16, ground := Go.Ground.data }], guard := none }) (v := _) rfl (by kernel_rfl) (by kernel_rfl) (by kernel_rfl) (fun _ _ _ h => h) (by kernel_rfl) (Or.inl ⟨by rfl, ?hy18⟩) hS0 ?rest18
      case hy18 => (intro W hSw; have s := (hSw.cell (p := ⟨b2, o2 + k * 5 + 4, none⟩) z2).trans x4; have z3 := Nat.lt_of_lt_of_le z2 hSw.size; go_simp; try (with_reducible rfl))
      try simp only [Act.put, List.setIfInBounds_toArray, List.set_cons_zero, List.set_cons_succ]
      refine' wpAnyD_take (i := 18) (oi := { dst := some 57, op := Go.Op.binOp Go.BinOp.and 3 (Go.Operand.tmp 56) (Go.Operand.const (Go.Value.int Go.IntKind.i64 15)) 3, type := 3, pos := "law.go:206", after := #[{ on := 17, ground := Go.Ground.data }], guard := none }) (v := _) rfl (by kernel_rfl) (by kernel_rfl) (by kernel_rfl) (fun _ _ _ h => h) (by kernel_rfl) (Or.inl ⟨by rfl, ?hy19⟩) hS0 ?rest19
      case hy19 => (intro W hSw; go_simp; try (with_reducible rfl))
      try simp only [Act.put, List.setIfInBounds_toArray, List.set_cons_zero, List.set_cons_succ]
      refine' wpAnyD_take (i := 19) (oi := { dst := some 58, op := Go.Op.binOp Go.BinOp.add 3 (Go.Operand.const (Go.Value.int Go.IntKind.i64 97)) (Go.Operand.tmp 57) 3, type := 3, pos := "law.go:206", after := #[{ on := 18, ground := Go.Ground.data }], guard := none }) (v := _) rfl (by kernel_rfl) (by kernel_rfl) (by kernel_rfl) (fun _ _ _ h => h) (by kernel_rfl) (Or.inl ⟨by rfl, ?hy20⟩) hS0 ?rest20
      case hy20 => (intro W hSw; go_simp; try (with_reducible rfl))
      try simp only [Act.put, List.setIfInBounds_toArray, List.set_cons_zero, List.set_cons_succ]
      refine' wpAnyD_take (i := 20) (oi := { dst := some 59, op := Go.Op.convert 3 21 (Go.Operand.tmp 58), type := 21, pos := "law.go:206", after := #[{ on := 19, ground := Go.Ground.data }], guard := none }) (v := _) rfl (by kernel_rfl) (by kernel_rfl) (by kernel_rfl) (fun _ _ _ h => h) (by kernel_rfl) (Or.inl ⟨by rfl, ?hy21⟩) hS0 ?rest21
      case hy21 => (intro W hSw; go_simp; try (with_reducible rfl))
      try simp only [Act.put, List.setIfInBounds_toArray, List.set_cons_zero, List.set_cons_succ]
      refine' wpAnyD_take (i := 21) (oi := { dst := some 60, op := Go.Op.convert 21 9 (Go.Operand.tmp 59), type := 9, pos := "law.go:206", after := #[{ on := 20, ground := Go.Ground.data }], guard := none }) (v := _) rfl (by kernel_rfl) (by kernel_rfl) (by kernel_rfl) (fun _ _ _ h => h) (by kernel_rfl) (Or.inl ⟨by rfl, ?hy22⟩) hS0 ?rest22
      case hy22 => (intro W hSw; go_simp; try (with_reducible rfl))
      try simp only [Act.put, List.setIfInBounds_toArray, List.set_cons_zero, List.set_cons_succ]
      refine wpAnyD_one (i := 22) (o := { dst := some 61, op := Go.Op.call { callee := Go.Callee.value (Go.Operand.func 13), args := #[Go.Operand.tmp 39, Go.Operand.tmp 45, Go.Operand.tmp 51, Go.Operand.tmp 60], argTypes := #[39, 3, 3, 9] }, type := 24, pos := "law.go:206", after := #[{ on := 0, ground := Go.Ground.data }, { on := 6, ground := Go.Ground.data }, { on := 12, ground := Go.Ground.data }, { on := 21, ground := Go.Ground.data }], guard := none }) (by kernel_rfl) rfl (fun K hK => ?_)
      rw [if_pos (by kernel_rfl)]
      go_simp
      refine (hput _).mono ?_
      rintro e w5 ⟨⟨q5, rfl⟩, T5⟩
      clear hput
      dsimp only
      refine hK.out _ _ (fun hD => T5.out.bel) ?_
      clear hK K
      try simp only [Act.put, List.setIfInBounds_toArray, List.set_cons_zero, List.set_cons_succ]
      refine wpAnyD_done (by kernel_rfl) ?_ _
      have T6 : Hid (∃ Q5, S1 w hp (k + 1) Q5 w5 ∧ tot 8 Q5 = cn (sc.take (k + 1))) := ⟨_, T5.out, by rw [tot_step, T.out.2, HCT.out]⟩
      go_wp2_with fail
      go_roundw
      case rel =>
        obtain ⟨Q5, h5, h6⟩ := T6.out
        exact ⟨k + 1, Q5, hlt, by simp, h5, h6⟩
      case measure => simp [RowKit.intOf]; omega
    · have hltz : ¬ (k : Int) < (sc.length : Int) := by omega
      have hkn : k = sc.length := by omega
      subst hkn
      rw [List.take_of_length_le (Nat.le_refl _)] at T
      have HTQ := hid T.out.2
      have hc2 := T.out.1.copy2 (by have := HN1.out; omega)
      clear hltz hlt T
      go_wp2_with fail
      refine hc2.mono ?_
      rintro e w3 ⟨hc, rfl, hd2⟩
      clear hc2
      have hd2 := hd2.out
      go_wp2_with fail
      refine hd2.mono ?_
      rintro e w4 ⟨hd, rfl, U4⟩
      clear hd2
      have HB0 : Hid (sc.length * 16 ≤ 140737488355328) := by have := HN1.out; show _ ≤ _; omega
      have h5 := U4.out.total HB0.out hc Q (Or.inr (Or.inl ⟨rfl, rfl⟩))
      go_wp2_with fail
      refine h5.mono ?_
      rintro e w5 ⟨rfl, U5⟩
      clear h5
      have h6 := U5.out.total HB0.out hp Q (Or.inl ⟨rfl, rfl⟩)
      go_wp2_with fail
      refine h6.mono ?_
      rintro e w6 ⟨rfl, U6⟩
      clear h6
      have h7 := U6.out.busy hc Q (Or.inr (Or.inl ⟨rfl, rfl⟩))
      go_wp2_with fail
      refine h7.mono ?_
      rintro e w7 ⟨p7, c7, rfl, U7⟩
      clear h7
      have h8 := U7.out.1.busy hp Q (Or.inl ⟨rfl, rfl⟩)
      go_wp2_with fail
      refine h8.mono ?_
      rintro e w8 ⟨p8, c8, rfl, U8⟩
      clear h8
      have h9 := pairs_any _ _ (bsy 8 Q) w8 (U7.out.2.1.below U8.out.2.2) U8.out.2.1 (bsy_le Q)
      go_wp2_with fail
      refine h9.mono ?_
      rintro e w9 ⟨rfl, m9, hm9⟩
      have U9 : Hid (S3 w hp hc hd sc.length Q Q Q w9) := by rw [hm9]; exact U8.out.1.below ((Gr.refl _).drewN _).below
      clear h9 hm9 U4 U5 U6 U7 U8
      go_wp2_with fail
      go_loopw [10] (fun s10 wr => ∃ (k : Nat) (Q C : Nat → List ByteArray), k ≤ mo.length ∧ s10 = .int .i64 k ∧ Hid (S3 w hp hc hd (sc.length + k) Q C Q wr ∧ tot 8 C = cn sc + cn (mo.take k))) (fun s10 _ => mo.length - (RowKit.intOf s10).toNat)
      case atStart => exact ⟨0, Q, Q, Nat.zero_le _, rfl, U9.out, HTQ.out⟩
      case round =>
        clear U9 HTQ
        obtain ⟨k, Q, C, hk, rfl, T⟩ := hrel
        by_cases hlt : k < mo.length
        · have hltz : (k : Int) < (mo.length : Int) := by omega
          have k0 : (0 : Int) ≤ (k : Int) := by omega
          obtain ⟨x, hx⟩ : ∃ x, mo[k]? = some x := ⟨mo[k], by rw [List.getElem?_eq_getElem]⟩
          obtain ⟨b2, o2, c2', e2, z2, -, -, x2, x3, -⟩ := Po.ls_at (HL2.out.below T.out.1.bel) hx
          simp only [Value.slice.injEq] at e2
          obtain ⟨rfl, -, rfl⟩ := e2
          have HCT := hid (cn_take hx)
          have hF : bits .and .i64 x.2.2.1 7 = fo x := rfl
          have hT : bits .and .i64 x.2.2.2.1 7 = ti x := rfl
          have HB1 : Hid ((sc.length + k + 1) * 16 ≤ 140737488355328) := by have h1 := HN1.out; have h2 := HN2.out; show _ ≤ _; omega
          have h5 := T.out.1.putC (fo x) (ti x) ⟨#[99]⟩ HB1.out
          clear hx
          go_wp2_with fail
          refine h5.mono ?_
          rintro e w5 ⟨⟨q5, rfl⟩, U5⟩
          clear h5 hF hT x2 x3 z2
          have h6 := U5.out.takeP (fo x) (ti x) HB1.out
          have h6b : ∀ (w6 : World), Hid (S3 w hp hc hd (sc.length + k + 1) (tkn 8 Q (fo x) (ti x)) (ptn 8 C (fo x) (ti x) ⟨#[99]⟩) Q w6) → Calls Try.prog 18 #[.pointer (some ⟨hd, 0, none⟩), .int .i64 (fo x), .int .i64 (ti x)] w6 fun e w' => e = .returned (lv (lk 8 Q (fo x) (ti x) 0)) ∧ Hid (S3 w hp hc hd (sc.length + k + 1) (tkn 8 Q (fo x) (ti x)) (ptn 8 C (fo x) (ti x) ⟨#[99]⟩) (tkn 8 Q (fo x) (ti x)) w') := fun w6 h => h.out.takeD (fo x) (ti x) HB1.out
          have HTC : Hid (tot 8 (ptn 8 C (fo x) (ti x) ⟨#[99]⟩) = cn sc + cn (mo.take (k + 1))) := by
            show _ = _
            rw [tot_step, T.out.2, HCT.out]; omega
          generalize lk 8 Q (fo x) (ti x) 0 = r at h6 h6b
          obtain ⟨rs, rn⟩ := r
          unfold lv at h6 h6b
          dsimp only at h6 h6b
          go_wp2_with fail
          refine h6.mono ?_
          rintro e w6 ⟨rfl, U6⟩
          have h7 := h6b w6 U6
          clear h6 h6b
          go_wp2_with fail
          refine h7.mono ?_
          rintro e w7 ⟨rfl, U7⟩
          clear h7
          go_wp2_with fail
          go_roundw
          case rel => exact ⟨k + 1, _, _, hlt, by simp, U7.out, HTC.out⟩
          case measure => simp [RowKit.intOf]; omega
        · have hltz : ¬ (k : Int) < (mo.length : Int) := by omega
          have hkn : k = mo.length := by omega
          subst hkn
          rw [List.take_of_length_le (Nat.le_refl _)] at T
          have HB2 : Hid ((sc.length + mo.length) * 16 ≤ 140737488355328) := by have h1 := HN1.out; have h2 := HN2.out; show _ ≤ _; omega
          have h5 := T.out.1.total HB2.out hc C (Or.inr (Or.inl ⟨rfl, rfl⟩))
          rw [T.out.2] at h5
          have hcm := cn_le mo
          have hcs := cn_le sc
          clear hltz hlt T
          go_wp2_with fail
          refine h5.mono ?_
          rintro e w5 ⟨rfl, U5⟩
          clear h5
          go_wp2_with fail
          go_loopw [17, 18] (fun s17 s18 wr => ∃ k : Nat, k ≤ mo.length ∧ s18 = .int .i64 k ∧ s17 = .int .i64 ((cn sc + cn mo - cn (mo.take k) : Nat)) ∧ Hid (S3 w hp hc hd (sc.length + mo.length) Q C Q wr)) (fun _ s18 _ => mo.length - (RowKit.intOf s18).toNat)
          case atStart => exact ⟨0, Nat.zero_le _, rfl, rfl, U5⟩
          case round =>
            clear U5
            obtain ⟨k, hk, rfl, rfl, T⟩ := hrel
            by_cases hlt : k < mo.length
            · have hltz : (k : Int) < (mo.length : Int) := by omega
              have k0 : (0 : Int) ≤ (k : Int) := by omega
              obtain ⟨x, hx⟩ : ∃ x, mo[k]? = some x := ⟨mo[k], by rw [List.getElem?_eq_getElem]⟩
              obtain ⟨b2, o2, c2', e2, z2, -, -, x2, x3, -⟩ := Po.ls_at (HL2.out.below T.out.bel) hx
              simp only [Value.slice.injEq] at e2
              obtain ⟨rfl, -, rfl⟩ := e2
              have HCT := hid (cn_take hx)
              have hF : bits .and .i64 x.2.2.1 7 = fo x := rfl
              have hT : bits .and .i64 x.2.2.2.1 7 = ti x := rfl
              have HTL := hid (cn_take_le mo (k + 1))
              obtain ⟨n, hn⟩ : ∃ n, n = cn sc + cn mo - cn (mo.take k) := ⟨_, rfl⟩
              rw [← hn]
              have hnb : n ≤ 7036874417568 := by omega
              have HNN := hid hn
              clear hx hn
              by_cases hne : fo x = ti x
              · have hneb : (fo x != ti x) = false := by simp [hne]
                have HE : Hid (n = cn sc + cn mo - cn (mo.take (k + 1))) := by have h1 := HCT.out; rw [if_neg (by simp [hne])] at h1; have h2 := HNN.out; show _ = _; omega
                clear hne
                go_wp2_with fail
                go_quiet (fail)
                have T2 := hid (T.out.below ((Gr.refl wr).drewN nq).below)
                generalize wr.drewN nq = w6 at *
                go_wp2_with fail
                go_roundw
                case rel => exact ⟨k + 1, hlt, by simp, by rw [← HE.out], T2⟩
                case measure => simp [RowKit.intOf]; omega
              · have hneb : (fo x != ti x) = true := by simp [hne]
                have HE : Hid (0 < n ∧ n - 1 = cn sc + cn mo - cn (mo.take (k + 1))) := by
                  have h1 := HCT.out
                  rw [if_pos hne] at h1
                  have h2 := HNN.out
                  have h3 := HTL.out
                  exact ⟨by omega, by omega⟩
                clear hne
                go_wp2_with fail
                go_quiet (fail)
                have T2 := hid (T.out.below ((Gr.refl wr).drewN nq).below)
                generalize wr.drewN nq = w6 at *
                have hn0 := HE.out.1
                go_wp2_with fail
                go_roundw
                case rel =>
                  refine ⟨k + 1, hlt, by simp, ?_, T2⟩
                  rw [← HE.out.2]
                  congr 1
                  omega
                case measure => simp [RowKit.intOf]; omega
            · have hltz : ¬ (k : Int) < (mo.length : Int) := by omega
              have hkn : k = mo.length := by omega
              subst hkn
              rw [List.take_of_length_le (Nat.le_refl _), show cn sc + cn mo - cn mo = cn sc by omega]
              have h5 := T.out.total HB2.out hp Q (Or.inl ⟨rfl, rfl⟩)
              clear hltz hlt
              go_wp2_with fail
              refine h5.mono ?_
              rintro e w5 ⟨rfl, U5⟩
              clear h5
              have h6 := U5.out.total HB2.out hd Q (Or.inr (Or.inr ⟨rfl, rfl⟩))
              go_wp2_with fail
              refine h6.mono ?_
              rintro e w6 ⟨rfl, U6⟩
              clear h6
              have h7 := kept_any _ sc w6 (HL1.out.below U6.out.bel) HN1.out
              go_wp2_with fail
              refine h7.mono ?_
              rintro e w7 ⟨p7, c7, rfl, hB7⟩
              have U7 := hid (U6.out.below hB7)
              clear h7 hB7
              have h8 := U7.out.busy hp Q (Or.inl ⟨rfl, rfl⟩)
              go_wp2_with fail
              refine h8.mono ?_
              rintro e w8 ⟨p8, c8, rfl, U8⟩
              clear h8
              have h9 := U8.out.1.busy hd Q (Or.inr (Or.inr ⟨rfl, rfl⟩))
              go_wp2_with fail
              refine h9.mono ?_
              rintro e w9 ⟨p9, c9, rfl, U9⟩
              clear h9
              have h10 := pairs_any _ _ (bsy 8 Q) w9 (U8.out.2.1.below U9.out.2.2) U9.out.2.1 (bsy_le Q)
              go_wp2_with fail
              refine h10.mono ?_
              rintro e w10 ⟨rfl, m10, hm10⟩
              have U10 : Hid (Below w.heap.size w w10) := by rw [hm10]; exact U9.out.1.bel.trans (((Gr.refl _).drewN _).below.mono U9.out.1.bel.size)
              clear h10 hm10
              go_wp2
              go_ret
              exact ⟨rfl, U10.out⟩
end Go.Proofs.Ytcdmgclkgojgaaa.Ps
