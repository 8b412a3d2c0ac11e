import Derived.Test.YtnpmmodcmfgbjaaGreatJ7
import Derived.Test.YtnpmmodcmfgbjaaGreatJ3
namespace Go.Proofs.YtnpmmodcmfgbjaaGreat
open Go.RowKit Go.Sort Go.Maps
open Tt (Tl byd byd_f byd_t)
attribute [local go_sem ↓] Go.wp_at_zero Go.wp_at_succ
/-- What the front becomes. -/
def Rnw (f : Tm → Int) (fr : List Tm) (us : List Dl) (fr' : List Tm) : Prop := ∃ ks, Sup f ks ∧ fr' = cren bel tol f (stT ks) fr us ks.length
theorem sup_le {w : World} {tb b g n : Nat} {f : Tm → Int} (h : Tl w tb b g n f) : ∃ ks, Sup f ks ∧ ∀ ks', Sup f ks' → ks'.length = ks.length ∧ ks'.length ≤ n := by
  obtain ⟨D, hown, _, h3⟩ := h.ta
  obtain ⟨ks, hk, hl⟩ := owns_sup hown h3
  refine ⟨ks, hk, fun ks' hS => ?_⟩
  have := (hS.perm hk).length_eq
  have := hown.size_le
  omega
theorem mul24 {a N : Nat} (h : a ≤ N) (hl : N * 24 ≤ 140737488355328) : a * 24 ≤ 140737488355328 := Nat.le_trans (Nat.mul_le_mul_right 24 h) hl
theorem Rn.ss {w wr : World} {B0 Bg mb tb b cb n : Nat} {v vr vg : Value} {f : Tm → Int} {F G : List Tm} (Q : Rn w wr B0 Bg mb tb b cb n v vr vg f F G) : wr.cell? ⟨B0, 0, none⟩ = some (.pointer (some ⟨mb, 0, none⟩)) ∧ wr.cell? ⟨mb, 0, none⟩ = some (.pointer (some ⟨tb, 0, none⟩)) ∧ wr.cell? ⟨mb, 1, none⟩ = some (.pointer (some ⟨cb, 0, none⟩)) ∧ B0 < wr.heap.size ∧ mb < wr.heap.size := ⟨Q.b0, Q.mu.c0, Q.mu.c1, Q.bl, Q.mu.lt⟩
theorem Rn.at {w wr : World} {B0 Bg mb tb b cb n : Nat} {v vr vg : Value} {f : Tm → Int} {F G : List Tm} {u : Value} {us : List Dl} (h : Rn w wr B0 Bg mb tb b cb n v vr vg f F G) (hu : Ls ED w u us) (hap : ∀ k, u.ownBlock = some k → k ≠ cb ∧ v.ownBlock ≠ some k) : Ls ED wr u us :=
  h.tn.1.ls hu (fun j hj hs => hs.elim (hap j hj).1 (hap j hj).2)
set_option maxHeartbeats 60000000 in
set_option maxRecDepth 100000 in
theorem renew_any {mb tb b cb n : Nat} {v : Value} {f : Tm → Int} {fr : List Tm} (us : List Dl) (u : Value) (w : World) (h : Mu w mb tb b cb n v f fr) (hu : Ls ED w u us) (hap : ∀ k, u.ownBlock = some k → k ≠ cb ∧ v.ownBlock ≠ some k)
    (hl : (fr.length + us.length + n + 1) * 24 ≤ 140737488355328) :
    Calls Tryz.prog 41 #[.pointer (some ⟨mb, 0, none⟩), u] w fun e w' => e = .returned (.tuple #[]) ∧ ∃ v' fr', Rnw f fr us fr' ∧ Mu w' mb tb b cb n v' f fr' ∧ Cn.Turn cb v v' w w' := by
  have hmx : Tryz.prog.follows .mixedOrders = true := by kernel_rfl
  obtain ⟨pu, cu, rfl⟩ := hu.form
  have HU := hidN hu
  have HAP := hidN hap
  have HSL := hidN (sup_le h.tl)
  obtain ⟨B0, hB0⟩ : ∃ B0, B0 = w.heap.size := ⟨_, rfl⟩
  obtain ⟨Bg, hBg⟩ : ∃ Bg, Bg = w.heap.size + 1 := ⟨_, rfl⟩
  obtain ⟨W2, hW2⟩ : ∃ W2, W2 = (w.alloc (.cells #[.pointer (some ⟨mb, 0, none⟩)] 24)).alloc (.cells #[.slice none 0 0] 42) := ⟨_, rfl⟩
  have G2 : Gr w W2 := by rw [hW2]; exact ((Gr.refl _).alloc _).alloc _
  have HR0 : Hid (Rn w W2 B0 Bg mb tb b cb n v v (.slice none 0 0) f fr []) := by
    have e0 : W2.heap[B0]? = some (.cells #[.pointer (some ⟨mb, 0, none⟩)] 24 (0, 0)) := by
      rw [hW2, hB0]
      exact (((Gr.refl _).alloc _).below.block _ (by simp)).trans (heap_new' _ _)
    have e1 : W2.heap[Bg]? = some (.cells #[.slice none 0 0] 42 (0, 0)) := by
      have : Bg = (w.alloc (.cells #[.pointer (some ⟨mb, 0, none⟩)] 24)).heap.size := by rw [hBg]; simp
      rw [hW2, this]
      exact heap_new' _ _
    exact ⟨h.below G2.below, Cn.Turn.of_below G2.below, ⟨by omega, by omega, by omega, h.ch.lt, h.lt, h.tl.lt, h.tl.ta.lt⟩, e0, e1, World.ownsRow_nil _ _ _ _, ⟨by simp [Value.ownBlock], by simp [Value.ownBlock]⟩, ⟨fun e => by have := h.ch.row _ e; omega, fun e => by have := h.ch.row _ e; omega⟩, fun k hk => by simp [Value.ownBlock] at hk⟩
  have eg : ∀ args w, (callFunc 66 args).run Tryz.prog w = .ok (.enter 66 args) w := enters_of Tryz.func66 (by kernel_rfl) rfl
  have HEG := hidN eg
  clear h hu hap eg G2
  go_enter Tryz.func41, Tryz.ntmps41
  go_wp2_with fail
  have es : (w.alloc (.cells #[.pointer (some ⟨mb, 0, none⟩)] 24)).heap.size = Bg := by rw [hBg]; simp
  (try rw [es])
  (try rw [← hBg])
  rw [← hW2, ← hB0]
  clear hB0 hBg hW2 es
  go_loopw [6, 11] (fun _ s11 wr => ∃ (k : Nat) (vr vg : Value), k ≤ us.length ∧ s11 = .int .i64 k ∧ Hid (Rn w wr B0 Bg mb tb b cb n v vr vg f (cutG bel (fr, []) (us.take k)).1 (cutG bel (fr, []) (us.take k)).2)) (fun _ s11 _ => us.length - (RowKit.intOf s11).toNat)
  case atStart => exact ⟨0, v, _, Nat.zero_le _, rfl, HR0.out⟩
  case round =>
    obtain ⟨k, vr, vg, hk, rfl, HI⟩ := hrel
    by_cases hlt : k < us.length
    · have hltz : (k : Int) < (us.length : Int) := by omega
      obtain ⟨d, hd⟩ : ∃ d, us[k]? = some d := ⟨us[k], by simp⟩
      obtain ⟨b1, o1, c1, e1, z1, x1, x2, x3, x4⟩ := (HI.out.at HU.out HAP.out).at4 hd
      simp only [Value.slice.injEq] at e1
      obtain ⟨rfl, -, rfl⟩ := e1
      have HJ := hidN (cutG_take_succ (bel := bel) (s := (fr, [])) hd)
      have hFL := cutG_len (bel := bel) (us.take k) (fr, [])
      rw [List.length_take] at hFL
      obtain ⟨F, G, hFG⟩ : ∃ F G, cutG bel (fr, []) (us.take k) = (F, G) := ⟨_, _, rfl⟩
      rw [hFG] at HI HJ hFL
      simp only [List.length_nil, Nat.zero_add] at hFL
      have hF1 : F.length ≤ fr.length := hFL.1
      have hG1 : G.length ≤ us.length := by have := hFL.2; omega
      have hG24 := hidN (Nat.le_trans (Nat.mul_le_mul_right 24 (Nat.add_le_add_right (Nat.le_trans hG1 (Nat.le_trans (Nat.le_add_left us.length fr.length) (Nat.le_add_right _ n))) 1)) hl)
      have hF24 := hidN (Nat.le_trans (Nat.mul_le_mul_right 24 (Nat.le_trans hF1 (Nat.le_trans (Nat.le_add_right fr.length us.length) (Nat.le_trans (Nat.le_add_right _ n) (Nat.le_add_right _ 1))))) hl)
      clear hd hFG hFL
      obtain ⟨pg, cg, rfl⟩ := (owns_lst HI.out.ow).form
      obtain ⟨W5, hW5⟩ : ∃ W5, W5 = wr.alloc (.cells #[.int .u64 d.1.1.1, .int .u64 d.1.1.2.1, .int .u64 d.1.1.2.2, .int .i64 d.2] 54) := ⟨_, rfl⟩
      obtain ⟨nb, hnb⟩ : ∃ nb, nb = wr.heap.size := ⟨_, rfl⟩
      have G5 : Gr wr W5 := by rw [hW5]; exact (Gr.refl _).alloc _
      have hblk : W5.heap[nb]? = some (.cells #[.int .u64 d.1.1.1, .int .u64 d.1.1.2.1, .int .u64 d.1.1.2.2, .int .i64 d.2] 54 (0, 0)) := by rw [hW5, hnb]; exact heap_new' _ _
      have R5 : Rn w W5.drew B0 Bg mb tb b cb n v vr (.slice pg G.length cg) f F G := HI.out.gr G5.drew
      have HR5 := hidN R5
      have hnr : vr.ownBlock ≠ some nb ∧ nb ≠ cb := ⟨fun e => by have := HI.out.mu.ch.row _ e; omega, fun e => by have := HI.out.mu.ch.lt; omega⟩
      have q0 : W5.drew.cell? ⟨nb, 0, none⟩ = some (.int .u64 d.1.1.1) := by show W5.cell? _ = _; simp only [World.cell?]; rw [hblk]; rfl
      have q1 : W5.drew.cell? ⟨nb, 1, none⟩ = some (.int .u64 d.1.1.2.1) := by show W5.cell? _ = _; simp only [World.cell?]; rw [hblk]; rfl
      have q2 : W5.drew.cell? ⟨nb, 2, none⟩ = some (.int .u64 d.1.1.2.2) := by show W5.cell? _ = _; simp only [World.cell?]; rw [hblk]; rfl
      have q3 : W5.drew.cell? ⟨nb, 3, none⟩ = some (.int .i64 d.2) := by show W5.cell? _ = _; simp only [World.cell?]; rw [hblk]; rfl
      have q4 : nb < W5.drew.heap.size := (Array.getElem?_eq_some_iff.1 hblk).1
      have S0 : W5.drew.cell? ⟨B0, 0, none⟩ = some (.pointer (some ⟨mb, 0, none⟩)) ∧ W5.drew.cell? ⟨mb, 1, none⟩ = some (.pointer (some ⟨cb, 0, none⟩)) ∧ W5.drew.cell? ⟨nb, 0, none⟩ = some (.int .u64 d.1.1.1) ∧ W5.drew.cell? ⟨nb, 1, none⟩ = some (.int .u64 d.1.1.2.1) ∧ W5.drew.cell? ⟨nb, 2, none⟩ = some (.int .u64 d.1.1.2.2) ∧ W5.drew.cell? ⟨nb, 3, none⟩ = some (.int .i64 d.2) ∧ B0 < W5.drew.heap.size ∧ mb < W5.drew.heap.size ∧ nb < W5.drew.heap.size := ⟨R5.b0, R5.mu.c1, q0, q1, q2, q3, R5.bl, R5.mu.lt, q4⟩
      have HNR := hidN hnr
      clear q0 q1 q2 q3 q4 hblk G5 R5 hnr
      go_upto_region 5 with fail
      rw [← hW5, ← hnb]
      clear hW5 hnb x1 x2 x3 x4 z1
      by_cases h0 : d.2 ≤ 0
      · obtain ⟨q, hq⟩ : ∃ q, F.length - (ccut bel F d.1).length = q := ⟨_, rfl⟩
        have hml := ccut_length (bel := bel) F d.1
        by_cases hq0 : 0 < q
        · have hqz : (0 : Int) < (q : Int) := by omega
          have HE : Hid (cutG bel (fr, []) (us.take (k + 1)) = (ccut bel F d.1, G ++ [d.1])) := by
            show _ = _
            rw [HJ.out, cutS, if_pos h0]
            show (_, if (ccut bel F d.1).length < F.length then _ else _) = _
            rw [if_pos (by omega)]
          refine wp_regionD (S := fun W => W.cell? ⟨B0, 0, none⟩ = some (.pointer (some ⟨mb, 0, none⟩)) ∧ W.cell? ⟨mb, 1, none⟩ = some (.pointer (some ⟨cb, 0, none⟩)) ∧ W.cell? ⟨nb, 0, none⟩ = some (.int .u64 d.1.1.1) ∧ W.cell? ⟨nb, 1, none⟩ = some (.int .u64 d.1.1.2.1) ∧ W.cell? ⟨nb, 2, none⟩ = some (.int .u64 d.1.1.2.2) ∧ W.cell? ⟨nb, 3, none⟩ = some (.int .i64 d.2) ∧ B0 < W.heap.size ∧ mb < W.heap.size ∧ nb < W.heap.size) (D := []) hmx ?_
          refine' wpAnyD_take (i := 0) (oi := { dst := some 15, op := Go.Op.fieldAddr 54 (Go.Operand.tmp 6) 1, type := 0, pos := "multi.go:88", after := #[], guard := none }) (v := _) rfl (by kernel_rfl) (by kernel_rfl) (by kernel_rfl) (fun _ _ _ h => h) (by kernel_rfl) (Or.inl ⟨by rfl, ?hy1⟩) S0 ?rest1
          case hy1 => (intro W hSw; (try dsimp only at hSw); obtain ⟨s1, s2, s3, s4, s5, s6, s7, s8, s9⟩ := hSw; go_simp; try (with_reducible rfl))
          try simp only [Act.put, List.setIfInBounds_toArray, List.set_cons_zero, List.set_cons_succ]
          refine' wpAnyD_take (i := 1) (oi := { dst := some 16, op := Go.Op.load 2 (Go.Operand.tmp 15), type := 2, pos := "multi.go:88", after := #[{ on := 0, ground := Go.Ground.data }], guard := none }) (v := _) rfl (by kernel_rfl) (by kernel_rfl) (by kernel_rfl) (fun _ _ _ h => h) (by kernel_rfl) (Or.inl ⟨by rfl, ?hy2⟩) S0 ?rest2
          case hy2 => (intro W hSw; (try dsimp only at hSw); obtain ⟨s1, s2, s3, s4, s5, s6, s7, s8, s9⟩ := hSw; go_simp; try (with_reducible rfl))
          try simp only [Act.put, List.setIfInBounds_toArray, List.set_cons_zero, List.set_cons_succ]
          refine' wpAnyD_take (i := 2) (oi := { dst := some 17, op := Go.Op.binOp Go.BinOp.leq 2 (Go.Operand.tmp 16) (Go.Operand.const (Go.Value.int Go.IntKind.i64 0)) 2, type := 4, pos := "multi.go:88", after := #[{ on := 1, ground := Go.Ground.data }], guard := none }) (v := _) rfl (by kernel_rfl) (by kernel_rfl) (by kernel_rfl) (fun _ _ _ h => h) (by kernel_rfl) (Or.inl ⟨by rfl, ?hy3⟩) S0 ?rest3
          case hy3 => (intro W hSw; (try dsimp only at hSw); obtain ⟨s1, s2, s3, s4, s5, s6, s7, s8, s9⟩ := hSw; go_simp; try (with_reducible rfl))
          try simp only [Act.put, List.setIfInBounds_toArray, List.set_cons_zero, List.set_cons_succ]
          refine' wpAnyD_take (i := 3) (oi := { dst := some 18, op := Go.Op.move (Go.Operand.tmp 17), type := 4, pos := "multi.go:88", after := #[{ on := 2, ground := Go.Ground.data }], guard := none }) (v := _) rfl (by kernel_rfl) (by kernel_rfl) (by kernel_rfl) (fun _ _ _ h => h) (by kernel_rfl) (Or.inl ⟨by rfl, ?hy4⟩) S0 ?rest4
          case hy4 => (intro W hSw; (try dsimp only at hSw); obtain ⟨s1, s2, s3, s4, s5, s6, s7, s8, s9⟩ := hSw; go_simp; try (with_reducible rfl))
          try simp only [Act.put, List.setIfInBounds_toArray, List.set_cons_zero, List.set_cons_succ]
          refine' wpAnyD_take (i := 4) (oi := { dst := some 19, op := Go.Op.load 24 (Go.Operand.tmp 2), type := 24, pos := "multi.go:88", after := #[{ on := 3, ground := Go.Ground.guard }], guard := some (3, true) }) (v := _) rfl (by kernel_rfl) (by kernel_rfl) (by kernel_rfl) (fun _ _ _ h => h) (by kernel_rfl) (Or.inl ⟨by rfl, ?hy5⟩) S0 ?rest5
          case hy5 => (intro W hSw; (try dsimp only at hSw); obtain ⟨s1, s2, s3, s4, s5, s6, s7, s8, s9⟩ := hSw; go_simp; try (with_reducible rfl))
          try simp only [Act.put, List.setIfInBounds_toArray, List.set_cons_zero, List.set_cons_succ]
          refine' wpAnyD_take (i := 5) (oi := { dst := some 20, op := Go.Op.nilCheck (Go.Operand.tmp 19), type := 0, pos := "multi.go:88", after := #[{ on := 4, ground := Go.Ground.data }, { on := 3, ground := Go.Ground.guard }], guard := some (3, true) }) (v := _) rfl (by kernel_rfl) (by kernel_rfl) (by kernel_rfl) (fun _ _ _ h => h) (by kernel_rfl) (Or.inl ⟨by rfl, ?hy6⟩) S0 ?rest6
          case hy6 => (intro W hSw; (try dsimp only at hSw); obtain ⟨s1, s2, s3, s4, s5, s6, s7, s8, s9⟩ := hSw; go_simp; try (with_reducible rfl))
          try simp only [Act.put, List.setIfInBounds_toArray, List.set_cons_zero, List.set_cons_succ]
          refine' wpAnyD_take (i := 6) (oi := { dst := some 21, op := Go.Op.fieldAddr 65 (Go.Operand.tmp 20) 1, type := 0, pos := "multi.go:88", after := #[{ on := 5, ground := Go.Ground.data }, { on := 3, ground := Go.Ground.guard }], guard := some (3, true) }) (v := _) rfl (by kernel_rfl) (by kernel_rfl) (by kernel_rfl) (fun _ _ _ h => h) (by kernel_rfl) (Or.inl ⟨by rfl, ?hy7⟩) S0 ?rest7
          case hy7 => (intro W hSw; (try dsimp only at hSw); obtain ⟨s1, s2, s3, s4, s5, s6, s7, s8, s9⟩ := hSw; go_simp; try (with_reducible rfl))
          try simp only [Act.put, List.setIfInBounds_toArray, List.set_cons_zero, List.set_cons_succ]
          refine' wpAnyD_take (i := 7) (oi := { dst := some 22, op := Go.Op.load 62 (Go.Operand.tmp 21), type := 62, pos := "multi.go:88", after := #[{ on := 6, ground := Go.Ground.data }, { on := 3, ground := Go.Ground.guard }], guard := some (3, true) }) (v := _) rfl (by kernel_rfl) (by kernel_rfl) (by kernel_rfl) (fun _ _ _ h => h) (by kernel_rfl) (Or.inl ⟨by rfl, ?hy8⟩) S0 ?rest8
          case hy8 => (intro W hSw; (try dsimp only at hSw); obtain ⟨s1, s2, s3, s4, s5, s6, s7, s8, s9⟩ := hSw; go_simp; try (with_reducible rfl))
          try simp only [Act.put, List.setIfInBounds_toArray, List.set_cons_zero, List.set_cons_succ]
          refine' wpAnyD_take (i := 8) (oi := { dst := some 23, op := Go.Op.fieldAddr 54 (Go.Operand.tmp 6) 0, type := 0, pos := "multi.go:88", after := #[{ on := 3, ground := Go.Ground.guard }], guard := some (3, true) }) (v := _) rfl (by kernel_rfl) (by kernel_rfl) (by kernel_rfl) (fun _ _ _ h => h) (by kernel_rfl) (Or.inl ⟨by rfl, ?hy9⟩) S0 ?rest9
          case hy9 => (intro W hSw; (try dsimp only at hSw); obtain ⟨s1, s2, s3, s4, s5, s6, s7, s8, s9⟩ := hSw; go_simp; try (with_reducible rfl))
          try simp only [Act.put, List.setIfInBounds_toArray, List.set_cons_zero, List.set_cons_succ]
          refine' wpAnyD_take (i := 9) (oi := { dst := some 24, op := Go.Op.load 37 (Go.Operand.tmp 23), type := 37, pos := "multi.go:88", after := #[{ on := 8, ground := Go.Ground.data }, { on := 3, ground := Go.Ground.guard }], guard := some (3, true) }) (v := _) rfl (by kernel_rfl) (by kernel_rfl) (by kernel_rfl) (fun _ _ _ h => h) (by kernel_rfl) (Or.inl ⟨by rfl, ?hy10⟩) S0 ?rest10
          case hy10 => (intro W hSw; (try dsimp only at hSw); obtain ⟨s1, s2, s3, s4, s5, s6, s7, s8, s9⟩ := hSw; go_simp; try (with_reducible rfl))
          try simp only [Act.put, List.setIfInBounds_toArray, List.set_cons_zero, List.set_cons_succ]
          refine wpAnyD_one (i := 10) (o := { dst := some 25, op := Go.Op.call { callee := Go.Callee.value (Go.Operand.func 62), args := #[Go.Operand.tmp 22, Go.Operand.tmp 24], argTypes := #[62, 37] }, type := 3, pos := "multi.go:88", after := #[{ on := 7, ground := Go.Ground.data }, { on := 9, ground := Go.Ground.data }, { on := 3, ground := Go.Ground.chain }, { on := 3, ground := Go.Ground.guard }], guard := some (3, true) }) (by kernel_rfl) rfl (fun K hK => ?_)
          go_simp
          refine (Cn.cut_any (bel := bel) d.1 W5.drew HR5.out.mu.ch hF24.out ahead_ok).mono ?_
          rintro e w8 ⟨v8, rfl, hch8, hk8, hv8⟩
          rw [hq]
          have ht8 : Cn.Turn cb vr v8 W5.drew w8 := ⟨hk8.mono (fun _ h => Or.inl h), hv8⟩
          have R8 := HR5.out.turn ht8 hch8
          have hk9 := fun o => hk8.cell (o := o) S0.2.2.2.2.2.2.2.2 HNR.out.2
          have S8 : w8.cell? ⟨B0, 0, none⟩ = some (.pointer (some ⟨mb, 0, none⟩)) ∧ w8.cell? ⟨mb, 1, none⟩ = some (.pointer (some ⟨cb, 0, none⟩)) ∧ w8.cell? ⟨nb, 0, none⟩ = some (.int .u64 d.1.1.1) ∧ w8.cell? ⟨nb, 1, none⟩ = some (.int .u64 d.1.1.2.1) ∧ w8.cell? ⟨nb, 2, none⟩ = some (.int .u64 d.1.1.2.2) ∧ w8.cell? ⟨nb, 3, none⟩ = some (.int .i64 d.2) ∧ B0 < w8.heap.size ∧ mb < w8.heap.size ∧ nb < w8.heap.size := ⟨R8.b0, R8.mu.c1, (hk9 0).trans S0.2.2.1, (hk9 1).trans S0.2.2.2.1, (hk9 2).trans S0.2.2.2.2.1, (hk9 3).trans S0.2.2.2.2.2.1, R8.bl, R8.mu.lt, Nat.lt_of_lt_of_le S0.2.2.2.2.2.2.2.2 hk8.size⟩
          have HR8 := hidN R8
          clear hk9 hk8 ht8 hch8 hv8 R8
          go_wp2_with fail
          refine hK.out _ _ (fun hD => S8) ?_
          clear hK K
          try simp only [Act.put, List.setIfInBounds_toArray, List.set_cons_zero, List.set_cons_succ]
          refine' wpAnyD_take (i := 11) (oi := { dst := some 26, op := Go.Op.binOp Go.BinOp.gtr 3 (Go.Operand.tmp 25) (Go.Operand.const (Go.Value.int Go.IntKind.i64 0)) 3, type := 4, pos := "multi.go:88", after := #[{ on := 10, ground := Go.Ground.data }, { on := 3, ground := Go.Ground.guard }], guard := some (3, true) }) (v := _) rfl (by kernel_rfl) (by kernel_rfl) (by kernel_rfl) (fun _ _ _ h => h) (by kernel_rfl) (Or.inl ⟨by rfl, ?hy12⟩) S8 ?rest12
          case hy12 => (intro W hSw; (try dsimp only at hSw); obtain ⟨s1, s2, s3, s4, s5, s6, s7, s8, s9⟩ := hSw; go_simp; try (with_reducible rfl))
          try simp only [Act.put, List.setIfInBounds_toArray, List.set_cons_zero, List.set_cons_succ]
          refine' wpAnyD_take (i := 12) (oi := { dst := some 27, op := Go.Op.pick (Go.Operand.tmp 18) (Go.Operand.tmp 26) (Go.Operand.const (Go.Value.bool false)), type := 4, pos := "multi.go:88", after := #[{ on := 3, ground := Go.Ground.data }, { on := 11, ground := Go.Ground.data }], guard := none }) (v := _) rfl (by kernel_rfl) (by kernel_rfl) (by kernel_rfl) (fun _ _ _ h => h) (by kernel_rfl) (Or.inl ⟨by rfl, ?hy13⟩) S8 ?rest13
          case hy13 => (intro W hSw; (try dsimp only at hSw); obtain ⟨s1, s2, s3, s4, s5, s6, s7, s8, s9⟩ := hSw; go_simp; try (with_reducible rfl))
          try simp only [Act.put, List.setIfInBounds_toArray, List.set_cons_zero, List.set_cons_succ]
          refine wpAnyD_done (by kernel_rfl) ?_ _
          obtain ⟨s1, s2, s3, s4, s5, s6, s7, s8, s9⟩ := S8
          have g0 := HR8.out.g0
          have gl := HR8.out.gl
          have hbs := HR8.out.tn.1.size
          go_wp2_with (at_builtin; refine wpApp1T rfl _ _ rfl w.heap.size _ G.length _ rfl HR8.out.ow d.1 rfl hG24.out hbs ?_; intro g' cap' w6 ho6 hg6 hl6; have gb6 := ((Kp.grownBy hg6 (fun k hk => hk) : Kp (fun k => _ = some k) _ w6).block Bg gl HR8.out.a1.2).trans HR8.out.gb; have d1 : w6.cell? ⟨Bg, 0, none⟩ = some (.slice pg G.length cg) := by { simp [World.cell?, gb6] }; have d2 : w6.frozen? ⟨Bg, 0, none⟩ = false := by { simp [World.frozen?, gb6] }; have d3 : Bg < w6.heap.size := (Array.getElem?_eq_some_iff.1 gb6).1)
          have RN := HR8.out.note (x := d.1) (m := G.length + 1) (g := g') (cap := cap') hg6 (by
            rw [List.length_append, List.length_singleton, flT_append, flT_one]
            exact ho6) hl6
          go_roundw
          case rel =>
            refine ⟨k + 1, v8, .slice (some ⟨g', 0, none⟩) (G.length + 1) cap', by omega, by go_num, ?_⟩
            rw [HE.out]
            exact RN
          case measure => simp [RowKit.intOf]; omega
        · obtain rfl : q = 0 := by omega
          have HE : Hid (cutG bel (fr, []) (us.take (k + 1)) = (ccut bel F d.1, G)) := by
            show _ = _
            rw [HJ.out, cutS, if_pos h0]
            show (_, if (ccut bel F d.1).length < F.length then _ else _) = _
            rw [if_neg (by omega)]
          refine wp_regionD (S := fun W => W.cell? ⟨B0, 0, none⟩ = some (.pointer (some ⟨mb, 0, none⟩)) ∧ W.cell? ⟨mb, 1, none⟩ = some (.pointer (some ⟨cb, 0, none⟩)) ∧ W.cell? ⟨nb, 0, none⟩ = some (.int .u64 d.1.1.1) ∧ W.cell? ⟨nb, 1, none⟩ = some (.int .u64 d.1.1.2.1) ∧ W.cell? ⟨nb, 2, none⟩ = some (.int .u64 d.1.1.2.2) ∧ W.cell? ⟨nb, 3, none⟩ = some (.int .i64 d.2) ∧ B0 < W.heap.size ∧ mb < W.heap.size ∧ nb < W.heap.size) (D := []) hmx ?_
          refine' wpAnyD_take (i := 0) (oi := { dst := some 15, op := Go.Op.fieldAddr 54 (Go.Operand.tmp 6) 1, type := 0, pos := "multi.go:88", after := #[], guard := none }) (v := _) rfl (by kernel_rfl) (by kernel_rfl) (by kernel_rfl) (fun _ _ _ h => h) (by kernel_rfl) (Or.inl ⟨by rfl, ?hy14⟩) S0 ?rest14
          case hy14 => (intro W hSw; (try dsimp only at hSw); obtain ⟨s1, s2, s3, s4, s5, s6, s7, s8, s9⟩ := hSw; go_simp; try (with_reducible rfl))
          try simp only [Act.put, List.setIfInBounds_toArray, List.set_cons_zero, List.set_cons_succ]
          refine' wpAnyD_take (i := 1) (oi := { dst := some 16, op := Go.Op.load 2 (Go.Operand.tmp 15), type := 2, pos := "multi.go:88", after := #[{ on := 0, ground := Go.Ground.data }], guard := none }) (v := _) rfl (by kernel_rfl) (by kernel_rfl) (by kernel_rfl) (fun _ _ _ h => h) (by kernel_rfl) (Or.inl ⟨by rfl, ?hy15⟩) S0 ?rest15
          case hy15 => (intro W hSw; (try dsimp only at hSw); obtain ⟨s1, s2, s3, s4, s5, s6, s7, s8, s9⟩ := hSw; go_simp; try (with_reducible rfl))
          try simp only [Act.put, List.setIfInBounds_toArray, List.set_cons_zero, List.set_cons_succ]
          refine' wpAnyD_take (i := 2) (oi := { dst := some 17, op := Go.Op.binOp Go.BinOp.leq 2 (Go.Operand.tmp 16) (Go.Operand.const (Go.Value.int Go.IntKind.i64 0)) 2, type := 4, pos := "multi.go:88", after := #[{ on := 1, ground := Go.Ground.data }], guard := none }) (v := _) rfl (by kernel_rfl) (by kernel_rfl) (by kernel_rfl) (fun _ _ _ h => h) (by kernel_rfl) (Or.inl ⟨by rfl, ?hy16⟩) S0 ?rest16
          case hy16 => (intro W hSw; (try dsimp only at hSw); obtain ⟨s1, s2, s3, s4, s5, s6, s7, s8, s9⟩ := hSw; go_simp; try (with_reducible rfl))
          try simp only [Act.put, List.setIfInBounds_toArray, List.set_cons_zero, List.set_cons_succ]
          refine' wpAnyD_take (i := 3) (oi := { dst := some 18, op := Go.Op.move (Go.Operand.tmp 17), type := 4, pos := "multi.go:88", after := #[{ on := 2, ground := Go.Ground.data }], guard := none }) (v := _) rfl (by kernel_rfl) (by kernel_rfl) (by kernel_rfl) (fun _ _ _ h => h) (by kernel_rfl) (Or.inl ⟨by rfl, ?hy17⟩) S0 ?rest17
          case hy17 => (intro W hSw; (try dsimp only at hSw); obtain ⟨s1, s2, s3, s4, s5, s6, s7, s8, s9⟩ := hSw; go_simp; try (with_reducible rfl))
          try simp only [Act.put, List.setIfInBounds_toArray, List.set_cons_zero, List.set_cons_succ]
          refine' wpAnyD_take (i := 4) (oi := { dst := some 19, op := Go.Op.load 24 (Go.Operand.tmp 2), type := 24, pos := "multi.go:88", after := #[{ on := 3, ground := Go.Ground.guard }], guard := some (3, true) }) (v := _) rfl (by kernel_rfl) (by kernel_rfl) (by kernel_rfl) (fun _ _ _ h => h) (by kernel_rfl) (Or.inl ⟨by rfl, ?hy18⟩) S0 ?rest18
          case hy18 => (intro W hSw; (try dsimp only at hSw); obtain ⟨s1, s2, s3, s4, s5, s6, s7, s8, s9⟩ := hSw; go_simp; try (with_reducible rfl))
          try simp only [Act.put, List.setIfInBounds_toArray, List.set_cons_zero, List.set_cons_succ]
          refine' wpAnyD_take (i := 5) (oi := { dst := some 20, op := Go.Op.nilCheck (Go.Operand.tmp 19), type := 0, pos := "multi.go:88", after := #[{ on := 4, ground := Go.Ground.data }, { on := 3, ground := Go.Ground.guard }], guard := some (3, true) }) (v := _) rfl (by kernel_rfl) (by kernel_rfl) (by kernel_rfl) (fun _ _ _ h => h) (by kernel_rfl) (Or.inl ⟨by rfl, ?hy19⟩) S0 ?rest19
          case hy19 => (intro W hSw; (try dsimp only at hSw); obtain ⟨s1, s2, s3, s4, s5, s6, s7, s8, s9⟩ := hSw; go_simp; try (with_reducible rfl))
          try simp only [Act.put, List.setIfInBounds_toArray, List.set_cons_zero, List.set_cons_succ]
          refine' wpAnyD_take (i := 6) (oi := { dst := some 21, op := Go.Op.fieldAddr 65 (Go.Operand.tmp 20) 1, type := 0, pos := "multi.go:88", after := #[{ on := 5, ground := Go.Ground.data }, { on := 3, ground := Go.Ground.guard }], guard := some (3, true) }) (v := _) rfl (by kernel_rfl) (by kernel_rfl) (by kernel_rfl) (fun _ _ _ h => h) (by kernel_rfl) (Or.inl ⟨by rfl, ?hy20⟩) S0 ?rest20
          case hy20 => (intro W hSw; (try dsimp only at hSw); obtain ⟨s1, s2, s3, s4, s5, s6, s7, s8, s9⟩ := hSw; go_simp; try (with_reducible rfl))
          try simp only [Act.put, List.setIfInBounds_toArray, List.set_cons_zero, List.set_cons_succ]
          refine' wpAnyD_take (i := 7) (oi := { dst := some 22, op := Go.Op.load 62 (Go.Operand.tmp 21), type := 62, pos := "multi.go:88", after := #[{ on := 6, ground := Go.Ground.data }, { on := 3, ground := Go.Ground.guard }], guard := some (3, true) }) (v := _) rfl (by kernel_rfl) (by kernel_rfl) (by kernel_rfl) (fun _ _ _ h => h) (by kernel_rfl) (Or.inl ⟨by rfl, ?hy21⟩) S0 ?rest21
          case hy21 => (intro W hSw; (try dsimp only at hSw); obtain ⟨s1, s2, s3, s4, s5, s6, s7, s8, s9⟩ := hSw; go_simp; try (with_reducible rfl))
          try simp only [Act.put, List.setIfInBounds_toArray, List.set_cons_zero, List.set_cons_succ]
          refine' wpAnyD_take (i := 8) (oi := { dst := some 23, op := Go.Op.fieldAddr 54 (Go.Operand.tmp 6) 0, type := 0, pos := "multi.go:88", after := #[{ on := 3, ground := Go.Ground.guard }], guard := some (3, true) }) (v := _) rfl (by kernel_rfl) (by kernel_rfl) (by kernel_rfl) (fun _ _ _ h => h) (by kernel_rfl) (Or.inl ⟨by rfl, ?hy22⟩) S0 ?rest22
          case hy22 => (intro W hSw; (try dsimp only at hSw); obtain ⟨s1, s2, s3, s4, s5, s6, s7, s8, s9⟩ := hSw; go_simp; try (with_reducible rfl))
          try simp only [Act.put, List.setIfInBounds_toArray, List.set_cons_zero, List.set_cons_succ]
          refine' wpAnyD_take (i := 9) (oi := { dst := some 24, op := Go.Op.load 37 (Go.Operand.tmp 23), type := 37, pos := "multi.go:88", after := #[{ on := 8, ground := Go.Ground.data }, { on := 3, ground := Go.Ground.guard }], guard := some (3, true) }) (v := _) rfl (by kernel_rfl) (by kernel_rfl) (by kernel_rfl) (fun _ _ _ h => h) (by kernel_rfl) (Or.inl ⟨by rfl, ?hy23⟩) S0 ?rest23
          case hy23 => (intro W hSw; (try dsimp only at hSw); obtain ⟨s1, s2, s3, s4, s5, s6, s7, s8, s9⟩ := hSw; go_simp; try (with_reducible rfl))
          try simp only [Act.put, List.setIfInBounds_toArray, List.set_cons_zero, List.set_cons_succ]
          refine wpAnyD_one (i := 10) (o := { dst := some 25, op := Go.Op.call { callee := Go.Callee.value (Go.Operand.func 62), args := #[Go.Operand.tmp 22, Go.Operand.tmp 24], argTypes := #[62, 37] }, type := 3, pos := "multi.go:88", after := #[{ on := 7, ground := Go.Ground.data }, { on := 9, ground := Go.Ground.data }, { on := 3, ground := Go.Ground.chain }, { on := 3, ground := Go.Ground.guard }], guard := some (3, true) }) (by kernel_rfl) rfl (fun K hK => ?_)
          go_simp
          refine (Cn.cut_any (bel := bel) d.1 W5.drew HR5.out.mu.ch hF24.out ahead_ok).mono ?_
          rintro e w8 ⟨v8, rfl, hch8, hk8, hv8⟩
          rw [hq]
          have ht8 : Cn.Turn cb vr v8 W5.drew w8 := ⟨hk8.mono (fun _ h => Or.inl h), hv8⟩
          have R8 := HR5.out.turn ht8 hch8
          have hk9 := fun o => hk8.cell (o := o) S0.2.2.2.2.2.2.2.2 HNR.out.2
          have S8 : w8.cell? ⟨B0, 0, none⟩ = some (.pointer (some ⟨mb, 0, none⟩)) ∧ w8.cell? ⟨mb, 1, none⟩ = some (.pointer (some ⟨cb, 0, none⟩)) ∧ w8.cell? ⟨nb, 0, none⟩ = some (.int .u64 d.1.1.1) ∧ w8.cell? ⟨nb, 1, none⟩ = some (.int .u64 d.1.1.2.1) ∧ w8.cell? ⟨nb, 2, none⟩ = some (.int .u64 d.1.1.2.2) ∧ w8.cell? ⟨nb, 3, none⟩ = some (.int .i64 d.2) ∧ B0 < w8.heap.size ∧ mb < w8.heap.size ∧ nb < w8.heap.size := ⟨R8.b0, R8.mu.c1, (hk9 0).trans S0.2.2.1, (hk9 1).trans S0.2.2.2.1, (hk9 2).trans S0.2.2.2.2.1, (hk9 3).trans S0.2.2.2.2.2.1, R8.bl, R8.mu.lt, Nat.lt_of_lt_of_le S0.2.2.2.2.2.2.2.2 hk8.size⟩
          have HR8 := hidN R8
          clear hk9 hk8 ht8 hch8 hv8 R8
          go_wp2_with fail
          refine hK.out _ _ (fun hD => S8) ?_
          clear hK K
          try simp only [Act.put, List.setIfInBounds_toArray, List.set_cons_zero, List.set_cons_succ]
          refine' wpAnyD_take (i := 11) (oi := { dst := some 26, op := Go.Op.binOp Go.BinOp.gtr 3 (Go.Operand.tmp 25) (Go.Operand.const (Go.Value.int Go.IntKind.i64 0)) 3, type := 4, pos := "multi.go:88", after := #[{ on := 10, ground := Go.Ground.data }, { on := 3, ground := Go.Ground.guard }], guard := some (3, true) }) (v := _) rfl (by kernel_rfl) (by kernel_rfl) (by kernel_rfl) (fun _ _ _ h => h) (by kernel_rfl) (Or.inl ⟨by rfl, ?hy25⟩) S8 ?rest25
          case hy25 => (intro W hSw; (try dsimp only at hSw); obtain ⟨s1, s2, s3, s4, s5, s6, s7, s8, s9⟩ := hSw; go_simp; try (with_reducible rfl))
          try simp only [Act.put, List.setIfInBounds_toArray, List.set_cons_zero, List.set_cons_succ]
          refine' wpAnyD_take (i := 12) (oi := { dst := some 27, op := Go.Op.pick (Go.Operand.tmp 18) (Go.Operand.tmp 26) (Go.Operand.const (Go.Value.bool false)), type := 4, pos := "multi.go:88", after := #[{ on := 3, ground := Go.Ground.data }, { on := 11, ground := Go.Ground.data }], guard := none }) (v := _) rfl (by kernel_rfl) (by kernel_rfl) (by kernel_rfl) (fun _ _ _ h => h) (by kernel_rfl) (Or.inl ⟨by rfl, ?hy26⟩) S8 ?rest26
          case hy26 => (intro W hSw; (try dsimp only at hSw); obtain ⟨s1, s2, s3, s4, s5, s6, s7, s8, s9⟩ := hSw; go_simp; try (with_reducible rfl))
          try simp only [Act.put, List.setIfInBounds_toArray, List.set_cons_zero, List.set_cons_succ]
          refine wpAnyD_done (by kernel_rfl) ?_ _
          go_wp2_with fail
          go_roundw
          case rel =>
            refine ⟨k + 1, v8, .slice pg G.length cg, by omega, by go_num, ?_⟩
            rw [HE.out]
            exact HR8.out
          case measure => simp [RowKit.intOf]; omega
      · have HE : Hid (cutG bel (fr, []) (us.take (k + 1)) = (F, G)) := by
          show _ = _
          rw [HJ.out, cutS, if_neg h0]
        have HE0 := hidN (decide_eq_false h0)
        refine wp_regionD (S := fun W => W.cell? ⟨B0, 0, none⟩ = some (.pointer (some ⟨mb, 0, none⟩)) ∧ W.cell? ⟨mb, 1, none⟩ = some (.pointer (some ⟨cb, 0, none⟩)) ∧ W.cell? ⟨nb, 0, none⟩ = some (.int .u64 d.1.1.1) ∧ W.cell? ⟨nb, 1, none⟩ = some (.int .u64 d.1.1.2.1) ∧ W.cell? ⟨nb, 2, none⟩ = some (.int .u64 d.1.1.2.2) ∧ W.cell? ⟨nb, 3, none⟩ = some (.int .i64 d.2) ∧ B0 < W.heap.size ∧ mb < W.heap.size ∧ nb < W.heap.size) (D := []) hmx ?_
        refine' wpAnyD_take (i := 0) (oi := { dst := some 15, op := Go.Op.fieldAddr 54 (Go.Operand.tmp 6) 1, type := 0, pos := "multi.go:88", after := #[], guard := none }) (v := _) rfl (by kernel_rfl) (by kernel_rfl) (by kernel_rfl) (fun _ _ _ h => h) (by kernel_rfl) (Or.inl ⟨by rfl, ?hy27⟩) S0 ?rest27
        case hy27 => (intro W hSw; (try dsimp only at hSw); obtain ⟨s1, s2, s3, s4, s5, s6, s7, s8, s9⟩ := hSw; go_simp; try (with_reducible rfl))
        try simp only [Act.put, List.setIfInBounds_toArray, List.set_cons_zero, List.set_cons_succ]
        refine' wpAnyD_take (i := 1) (oi := { dst := some 16, op := Go.Op.load 2 (Go.Operand.tmp 15), type := 2, pos := "multi.go:88", after := #[{ on := 0, ground := Go.Ground.data }], guard := none }) (v := _) rfl (by kernel_rfl) (by kernel_rfl) (by kernel_rfl) (fun _ _ _ h => h) (by kernel_rfl) (Or.inl ⟨by rfl, ?hy28⟩) S0 ?rest28
        case hy28 => (intro W hSw; (try dsimp only at hSw); obtain ⟨s1, s2, s3, s4, s5, s6, s7, s8, s9⟩ := hSw; go_simp; try (with_reducible rfl))
        try simp only [Act.put, List.setIfInBounds_toArray, List.set_cons_zero, List.set_cons_succ]
        refine' wpAnyD_take (i := 2) (oi := { dst := some 17, op := Go.Op.binOp Go.BinOp.leq 2 (Go.Operand.tmp 16) (Go.Operand.const (Go.Value.int Go.IntKind.i64 0)) 2, type := 4, pos := "multi.go:88", after := #[{ on := 1, ground := Go.Ground.data }], guard := none }) (v := _) rfl (by kernel_rfl) (by kernel_rfl) (by kernel_rfl) (fun _ _ _ h => h) (by kernel_rfl) (Or.inl ⟨by rfl, ?hy29⟩) S0 ?rest29
        case hy29 => (intro W hSw; (try dsimp only at hSw); obtain ⟨s1, s2, s3, s4, s5, s6, s7, s8, s9⟩ := hSw; go_simp; (try rw [HE0.out]); try (with_reducible rfl))
        try simp only [Act.put, List.setIfInBounds_toArray, List.set_cons_zero, List.set_cons_succ]
        refine' wpAnyD_take (i := 3) (oi := { dst := some 18, op := Go.Op.move (Go.Operand.tmp 17), type := 4, pos := "multi.go:88", after := #[{ on := 2, ground := Go.Ground.data }], guard := none }) (v := _) rfl (by kernel_rfl) (by kernel_rfl) (by kernel_rfl) (fun _ _ _ h => h) (by kernel_rfl) (Or.inl ⟨by rfl, ?hy30⟩) S0 ?rest30
        case hy30 => (intro W hSw; (try dsimp only at hSw); obtain ⟨s1, s2, s3, s4, s5, s6, s7, s8, s9⟩ := hSw; go_simp; try (with_reducible rfl))
        try simp only [Act.put, List.setIfInBounds_toArray, List.set_cons_zero, List.set_cons_succ]
        refine' wpAnyD_take (i := 4) (oi := { dst := some 19, op := Go.Op.load 24 (Go.Operand.tmp 2), type := 24, pos := "multi.go:88", after := #[{ on := 3, ground := Go.Ground.guard }], guard := some (3, true) }) (v := undef) rfl (by kernel_rfl) (by kernel_rfl) (by kernel_rfl) (fun _ _ _ h => h) (by kernel_rfl) (Or.inr ⟨by rfl, rfl⟩) S0 ?rest31
        try simp only [Act.put, List.setIfInBounds_toArray, List.set_cons_zero, List.set_cons_succ]
        refine' wpAnyD_take (i := 5) (oi := { dst := some 20, op := Go.Op.nilCheck (Go.Operand.tmp 19), type := 0, pos := "multi.go:88", after := #[{ on := 4, ground := Go.Ground.data }, { on := 3, ground := Go.Ground.guard }], guard := some (3, true) }) (v := undef) rfl (by kernel_rfl) (by kernel_rfl) (by kernel_rfl) (fun _ _ _ h => h) (by kernel_rfl) (Or.inr ⟨by rfl, rfl⟩) S0 ?rest32
        try simp only [Act.put, List.setIfInBounds_toArray, List.set_cons_zero, List.set_cons_succ]
        refine' wpAnyD_take (i := 6) (oi := { dst := some 21, op := Go.Op.fieldAddr 65 (Go.Operand.tmp 20) 1, type := 0, pos := "multi.go:88", after := #[{ on := 5, ground := Go.Ground.data }, { on := 3, ground := Go.Ground.guard }], guard := some (3, true) }) (v := undef) rfl (by kernel_rfl) (by kernel_rfl) (by kernel_rfl) (fun _ _ _ h => h) (by kernel_rfl) (Or.inr ⟨by rfl, rfl⟩) S0 ?rest33
        try simp only [Act.put, List.setIfInBounds_toArray, List.set_cons_zero, List.set_cons_succ]
        refine' wpAnyD_take (i := 7) (oi := { dst := some 22, op := Go.Op.load 62 (Go.Operand.tmp 21), type := 62, pos := "multi.go:88", after := #[{ on := 6, ground := Go.Ground.data }, { on := 3, ground := Go.Ground.guard }], guard := some (3, true) }) (v := undef) rfl (by kernel_rfl) (by kernel_rfl) (by kernel_rfl) (fun _ _ _ h => h) (by kernel_rfl) (Or.inr ⟨by rfl, rfl⟩) S0 ?rest34
        try simp only [Act.put, List.setIfInBounds_toArray, List.set_cons_zero, List.set_cons_succ]
        refine' wpAnyD_take (i := 8) (oi := { dst := some 23, op := Go.Op.fieldAddr 54 (Go.Operand.tmp 6) 0, type := 0, pos := "multi.go:88", after := #[{ on := 3, ground := Go.Ground.guard }], guard := some (3, true) }) (v := undef) rfl (by kernel_rfl) (by kernel_rfl) (by kernel_rfl) (fun _ _ _ h => h) (by kernel_rfl) (Or.inr ⟨by rfl, rfl⟩) S0 ?rest35
        try simp only [Act.put, List.setIfInBounds_toArray, List.set_cons_zero, List.set_cons_succ]
        refine' wpAnyD_take (i := 9) (oi := { dst := some 24, op := Go.Op.load 37 (Go.Operand.tmp 23), type := 37, pos := "multi.go:88", after := #[{ on := 8, ground := Go.Ground.data }, { on := 3, ground := Go.Ground.guard }], guard := some (3, true) }) (v := undef) rfl (by kernel_rfl) (by kernel_rfl) (by kernel_rfl) (fun _ _ _ h => h) (by kernel_rfl) (Or.inr ⟨by rfl, rfl⟩) S0 ?rest36
        try simp only [Act.put, List.setIfInBounds_toArray, List.set_cons_zero, List.set_cons_succ]
        refine' wpAnyD_take (i := 10) (oi := { dst := some 25, op := Go.Op.call { callee := Go.Callee.value (Go.Operand.func 62), args := #[Go.Operand.tmp 22, Go.Operand.tmp 24], argTypes := #[62, 37] }, type := 3, pos := "multi.go:88", after := #[{ on := 7, ground := Go.Ground.data }, { on := 9, ground := Go.Ground.data }, { on := 3, ground := Go.Ground.chain }, { on := 3, ground := Go.Ground.guard }], guard := some (3, true) }) (v := undef) rfl (by kernel_rfl) (by kernel_rfl) (by kernel_rfl) (fun _ _ _ h => h) (by kernel_rfl) (Or.inr ⟨by rfl, rfl⟩) S0 ?rest37
        try simp only [Act.put, List.setIfInBounds_toArray, List.set_cons_zero, List.set_cons_succ]
        refine' wpAnyD_take (i := 11) (oi := { dst := some 26, op := Go.Op.binOp Go.BinOp.gtr 3 (Go.Operand.tmp 25) (Go.Operand.const (Go.Value.int Go.IntKind.i64 0)) 3, type := 4, pos := "multi.go:88", after := #[{ on := 10, ground := Go.Ground.data }, { on := 3, ground := Go.Ground.guard }], guard := some (3, true) }) (v := undef) rfl (by kernel_rfl) (by kernel_rfl) (by kernel_rfl) (fun _ _ _ h => h) (by kernel_rfl) (Or.inr ⟨by rfl, rfl⟩) S0 ?rest38
        try simp only [Act.put, List.setIfInBounds_toArray, List.set_cons_zero, List.set_cons_succ]
        refine' wpAnyD_take (i := 12) (oi := { dst := some 27, op := Go.Op.pick (Go.Operand.tmp 18) (Go.Operand.tmp 26) (Go.Operand.const (Go.Value.bool false)), type := 4, pos := "multi.go:88", after := #[{ on := 3, ground := Go.Ground.data }, { on := 11, ground := Go.Ground.data }], guard := none }) (v := _) rfl (by kernel_rfl) (by kernel_rfl) (by kernel_rfl) (fun _ _ _ h => h) (by kernel_rfl) (Or.inl ⟨by rfl, ?hy39⟩) S0 ?rest39
        case hy39 => (intro W hSw; (try dsimp only at hSw); obtain ⟨s1, s2, s3, s4, s5, s6, s7, s8, s9⟩ := hSw; go_simp; try (with_reducible rfl))
        try simp only [Act.put, List.setIfInBounds_toArray, List.set_cons_zero, List.set_cons_succ]
        refine wpAnyD_done (by kernel_rfl) ?_ _
        go_wp2_with fail
        go_roundw
        case rel =>
          refine ⟨k + 1, vr, .slice pg G.length cg, by omega, by go_num, ?_⟩
          rw [HE.out]
          exact HR5.out
        case measure => simp [RowKit.intOf]; omega
    · have hltz : ¬ (k : Int) < (us.length : Int) := by omega
      obtain rfl : k = us.length := by omega
      rw [List.take_length] at HI
      have hFL := cutG_len (bel := bel) us (fr, [])
      obtain ⟨F, G, hFG⟩ : ∃ F G, cutG bel (fr, []) us = (F, G) := ⟨_, _, rfl⟩
      have HFG := hidN hFG
      rw [hFG] at HI hFL
      simp only [List.length_nil, Nat.zero_add] at hFL
      have hF1 : F.length ≤ fr.length := hFL.1
      have hG1 : G.length ≤ us.length := hFL.2
      clear hFG hFL HR0
      obtain ⟨pg, cg, rfl⟩ := (owns_lst HI.out.ow).form
      have R5 : Rn w wr.drew B0 Bg mb tb b cb n v vr (.slice pg G.length cg) f F G := HI.out.gr (Gr.refl _).drew
      have HR5 := hidN R5
      have S0 : wr.drew.cell? ⟨B0, 0, none⟩ = some (.pointer (some ⟨mb, 0, none⟩)) ∧ wr.drew.cell? ⟨mb, 1, none⟩ = some (.pointer (some ⟨cb, 0, none⟩)) ∧ wr.drew.cell? ⟨mb, 0, none⟩ = some (.pointer (some ⟨tb, 0, none⟩)) ∧ wr.drew.cell? ⟨Bg, 0, none⟩ = some (.slice pg G.length cg) ∧ B0 < wr.drew.heap.size ∧ mb < wr.drew.heap.size ∧ Bg < wr.drew.heap.size := ⟨R5.b0, R5.mu.c1, R5.mu.c0, R5.g0, R5.bl, R5.mu.lt, R5.gl⟩
      clear R5
      go_upto_region 8 with fail
      by_cases hG0 : G.length = 0
      · skip
        have HE0 : Hid (decide (0 < G.length) = false) := decide_eq_false (by omega)
        have HX : Hid (∃ ks, Sup f ks ∧ cback bel tol f (stT ks) F G ks.length = F) := by
          obtain ⟨ks, h1, _⟩ := HSL.out
          exact ⟨ks, h1, if_neg (fun h => by omega)⟩
        refine wp_regionD (S := fun W => W.cell? ⟨B0, 0, none⟩ = some (.pointer (some ⟨mb, 0, none⟩)) ∧ W.cell? ⟨mb, 1, none⟩ = some (.pointer (some ⟨cb, 0, none⟩)) ∧ W.cell? ⟨mb, 0, none⟩ = some (.pointer (some ⟨tb, 0, none⟩)) ∧ W.cell? ⟨Bg, 0, none⟩ = some (.slice pg G.length cg) ∧ B0 < W.heap.size ∧ mb < W.heap.size ∧ Bg < W.heap.size) (D := []) hmx ?_
        refine' wpAnyD_take (i := 0) (oi := { dst := some 34, op := Go.Op.load 42 (Go.Operand.tmp 4), type := 42, pos := "multi.go:93", after := #[], guard := none }) (v := _) rfl (by kernel_rfl) (by kernel_rfl) (by kernel_rfl) (fun _ _ _ h => h) (by kernel_rfl) (Or.inl ⟨by rfl, ?hy40⟩) S0 ?rest40
        case hy40 => (intro W hSw; (try dsimp only at hSw); obtain ⟨s1, s2, s3, s4, s5, s6, s7⟩ := hSw; go_simp; try (with_reducible rfl))
        try simp only [Act.put, List.setIfInBounds_toArray, List.set_cons_zero, List.set_cons_succ]
        refine' wpAnyD_take (i := 1) (oi := { dst := some 35, op := Go.Op.call { callee := Go.Callee.builtin Go.Builtin.len, args := #[Go.Operand.tmp 34], argTypes := #[42] }, type := 3, pos := "multi.go:93", after := #[{ on := 0, ground := Go.Ground.data }], guard := none }) (v := _) rfl (by kernel_rfl) (by kernel_rfl) (by kernel_rfl) (fun _ _ _ h => h) (by kernel_rfl) (Or.inl ⟨by rfl, ?hy41⟩) S0 ?rest41
        case hy41 => (intro W hSw; (try dsimp only at hSw); obtain ⟨s1, s2, s3, s4, s5, s6, s7⟩ := hSw; go_simp; try (with_reducible rfl))
        try simp only [Act.put, List.setIfInBounds_toArray, List.set_cons_zero, List.set_cons_succ]
        refine' wpAnyD_take (i := 2) (oi := { dst := some 36, op := Go.Op.binOp Go.BinOp.gtr 3 (Go.Operand.tmp 35) (Go.Operand.const (Go.Value.int Go.IntKind.i64 0)) 3, type := 4, pos := "multi.go:93", after := #[{ on := 1, ground := Go.Ground.data }], guard := none }) (v := _) rfl (by kernel_rfl) (by kernel_rfl) (by kernel_rfl) (fun _ _ _ h => h) (by kernel_rfl) (Or.inl ⟨by rfl, ?hy42⟩) S0 ?rest42
        case hy42 => (intro W hSw; (try dsimp only at hSw); obtain ⟨s1, s2, s3, s4, s5, s6, s7⟩ := hSw; go_simp; (try rw [HE0.out]); try (with_reducible rfl))
        try simp only [Act.put, List.setIfInBounds_toArray, List.set_cons_zero, List.set_cons_succ]
        refine' wpAnyD_take (i := 3) (oi := { dst := some 37, op := Go.Op.move (Go.Operand.tmp 36), type := 4, pos := "multi.go:93", after := #[{ on := 2, ground := Go.Ground.data }], guard := none }) (v := _) rfl (by kernel_rfl) (by kernel_rfl) (by kernel_rfl) (fun _ _ _ h => h) (by kernel_rfl) (Or.inl ⟨by rfl, ?hy43⟩) S0 ?rest43
        case hy43 => (intro W hSw; (try dsimp only at hSw); obtain ⟨s1, s2, s3, s4, s5, s6, s7⟩ := hSw; go_simp; try (with_reducible rfl))
        try simp only [Act.put, List.setIfInBounds_toArray, List.set_cons_zero, List.set_cons_succ]
        refine' wpAnyD_take (i := 4) (oi := { dst := some 38, op := Go.Op.load 24 (Go.Operand.tmp 2), type := 24, pos := "multi.go:93", after := #[{ on := 3, ground := Go.Ground.guard }], guard := some (3, true) }) (v := undef) rfl (by kernel_rfl) (by kernel_rfl) (by kernel_rfl) (fun _ _ _ h => h) (by kernel_rfl) (Or.inr ⟨by rfl, rfl⟩) S0 ?rest44
        try simp only [Act.put, List.setIfInBounds_toArray, List.set_cons_zero, List.set_cons_succ]
        refine' wpAnyD_take (i := 5) (oi := { dst := some 39, op := Go.Op.nilCheck (Go.Operand.tmp 38), type := 0, pos := "multi.go:93", after := #[{ on := 4, ground := Go.Ground.data }, { on := 3, ground := Go.Ground.guard }], guard := some (3, true) }) (v := undef) rfl (by kernel_rfl) (by kernel_rfl) (by kernel_rfl) (fun _ _ _ h => h) (by kernel_rfl) (Or.inr ⟨by rfl, rfl⟩) S0 ?rest45
        try simp only [Act.put, List.setIfInBounds_toArray, List.set_cons_zero, List.set_cons_succ]
        refine' wpAnyD_take (i := 6) (oi := { dst := some 40, op := Go.Op.fieldAddr 65 (Go.Operand.tmp 39) 1, type := 0, pos := "multi.go:93", after := #[{ on := 5, ground := Go.Ground.data }, { on := 3, ground := Go.Ground.guard }], guard := some (3, true) }) (v := undef) rfl (by kernel_rfl) (by kernel_rfl) (by kernel_rfl) (fun _ _ _ h => h) (by kernel_rfl) (Or.inr ⟨by rfl, rfl⟩) S0 ?rest46
        try simp only [Act.put, List.setIfInBounds_toArray, List.set_cons_zero, List.set_cons_succ]
        refine' wpAnyD_take (i := 7) (oi := { dst := some 41, op := Go.Op.load 62 (Go.Operand.tmp 40), type := 62, pos := "multi.go:93", after := #[{ on := 6, ground := Go.Ground.data }, { on := 3, ground := Go.Ground.guard }], guard := some (3, true) }) (v := undef) rfl (by kernel_rfl) (by kernel_rfl) (by kernel_rfl) (fun _ _ _ h => h) (by kernel_rfl) (Or.inr ⟨by rfl, rfl⟩) S0 ?rest47
        try simp only [Act.put, List.setIfInBounds_toArray, List.set_cons_zero, List.set_cons_succ]
        refine' wpAnyD_take (i := 8) (oi := { dst := some 42, op := Go.Op.call { callee := Go.Callee.value (Go.Operand.func 63), args := #[Go.Operand.tmp 41], argTypes := #[62] }, type := 3, pos := "multi.go:93", after := #[{ on := 7, ground := Go.Ground.data }, { on := 3, ground := Go.Ground.chain }, { on := 3, ground := Go.Ground.guard }], guard := some (3, true) }) (v := undef) rfl (by kernel_rfl) (by kernel_rfl) (by kernel_rfl) (fun _ _ _ h => h) (by kernel_rfl) (Or.inr ⟨by rfl, rfl⟩) S0 ?rest48
        try simp only [Act.put, List.setIfInBounds_toArray, List.set_cons_zero, List.set_cons_succ]
        refine' wpAnyD_take (i := 9) (oi := { dst := some 43, op := Go.Op.load 24 (Go.Operand.tmp 2), type := 24, pos := "multi.go:93", after := #[{ on := 3, ground := Go.Ground.guard }], guard := some (3, true) }) (v := undef) rfl (by kernel_rfl) (by kernel_rfl) (by kernel_rfl) (fun _ _ _ h => h) (by kernel_rfl) (Or.inr ⟨by rfl, rfl⟩) S0 ?rest49
        try simp only [Act.put, List.setIfInBounds_toArray, List.set_cons_zero, List.set_cons_succ]
        refine' wpAnyD_take (i := 10) (oi := { dst := some 44, op := Go.Op.nilCheck (Go.Operand.tmp 43), type := 0, pos := "multi.go:93", after := #[{ on := 9, ground := Go.Ground.data }, { on := 3, ground := Go.Ground.guard }], guard := some (3, true) }) (v := undef) rfl (by kernel_rfl) (by kernel_rfl) (by kernel_rfl) (fun _ _ _ h => h) (by kernel_rfl) (Or.inr ⟨by rfl, rfl⟩) S0 ?rest50
        try simp only [Act.put, List.setIfInBounds_toArray, List.set_cons_zero, List.set_cons_succ]
        refine' wpAnyD_take (i := 11) (oi := { dst := some 45, op := Go.Op.fieldAddr 65 (Go.Operand.tmp 44) 0, type := 0, pos := "multi.go:93", after := #[{ on := 10, ground := Go.Ground.data }, { on := 3, ground := Go.Ground.guard }], guard := some (3, true) }) (v := undef) rfl (by kernel_rfl) (by kernel_rfl) (by kernel_rfl) (fun _ _ _ h => h) (by kernel_rfl) (Or.inr ⟨by rfl, rfl⟩) S0 ?rest51
        try simp only [Act.put, List.setIfInBounds_toArray, List.set_cons_zero, List.set_cons_succ]
        refine' wpAnyD_take (i := 12) (oi := { dst := some 46, op := Go.Op.load 60 (Go.Operand.tmp 45), type := 60, pos := "multi.go:93", after := #[{ on := 11, ground := Go.Ground.data }, { on := 3, ground := Go.Ground.guard }], guard := some (3, true) }) (v := undef) rfl (by kernel_rfl) (by kernel_rfl) (by kernel_rfl) (fun _ _ _ h => h) (by kernel_rfl) (Or.inr ⟨by rfl, rfl⟩) S0 ?rest52
        try simp only [Act.put, List.setIfInBounds_toArray, List.set_cons_zero, List.set_cons_succ]
        refine' wpAnyD_take (i := 13) (oi := { dst := some 47, op := Go.Op.call { callee := Go.Callee.value (Go.Operand.func 34), args := #[Go.Operand.tmp 46], argTypes := #[60] }, type := 3, pos := "multi.go:93", after := #[{ on := 12, ground := Go.Ground.data }, { on := 8, ground := Go.Ground.chain }, { on := 3, ground := Go.Ground.guard }], guard := some (3, true) }) (v := undef) rfl (by kernel_rfl) (by kernel_rfl) (by kernel_rfl) (fun _ _ _ h => h) (by kernel_rfl) (Or.inr ⟨by rfl, rfl⟩) S0 ?rest53
        try simp only [Act.put, List.setIfInBounds_toArray, List.set_cons_zero, List.set_cons_succ]
        refine' wpAnyD_take (i := 14) (oi := { dst := some 48, op := Go.Op.binOp Go.BinOp.lss 3 (Go.Operand.tmp 42) (Go.Operand.tmp 47) 3, type := 4, pos := "multi.go:93", after := #[{ on := 8, ground := Go.Ground.data }, { on := 13, ground := Go.Ground.data }, { on := 3, ground := Go.Ground.guard }], guard := some (3, true) }) (v := undef) rfl (by kernel_rfl) (by kernel_rfl) (by kernel_rfl) (fun _ _ _ h => h) (by kernel_rfl) (Or.inr ⟨by rfl, rfl⟩) S0 ?rest54
        try simp only [Act.put, List.setIfInBounds_toArray, List.set_cons_zero, List.set_cons_succ]
        refine' wpAnyD_take (i := 15) (oi := { dst := some 49, op := Go.Op.pick (Go.Operand.tmp 37) (Go.Operand.tmp 48) (Go.Operand.const (Go.Value.bool false)), type := 4, pos := "multi.go:93", after := #[{ on := 3, ground := Go.Ground.data }, { on := 14, ground := Go.Ground.data }], guard := none }) (v := _) rfl (by kernel_rfl) (by kernel_rfl) (by kernel_rfl) (fun _ _ _ h => h) (by kernel_rfl) (Or.inl ⟨by rfl, ?hy55⟩) S0 ?rest55
        case hy55 => (intro W hSw; (try dsimp only at hSw); obtain ⟨s1, s2, s3, s4, s5, s6, s7⟩ := hSw; go_simp; try (with_reducible rfl))
        try simp only [Act.put, List.setIfInBounds_toArray, List.set_cons_zero, List.set_cons_succ]
        refine wpAnyD_done (by kernel_rfl) ?_ _
        obtain ⟨FX, hFX⟩ : ∃ FX, FX = F := ⟨_, rfl⟩
        have HX2 : Hid (∃ ks, Sup f ks ∧ cback bel tol f (stT ks) F G ks.length = FX) := by rw [hFX]; exact HX.out
        rw [← hFX] at HR5
        have hXl : FX.length ≤ fr.length + n := by rw [hFX]; exact by omega
        clear hFX HX
        go_wp2_with fail
        go_loopw [8, 64] (fun _ s64 wr => ∃ (k : Nat) (vr : Value), k ≤ us.length ∧ s64 = .int .i64 k ∧ Hid (Rn w wr B0 Bg mb tb b cb n v vr (.slice pg G.length cg) f (cjoin bel tol FX (((us.take k).filter fun d => decide (0 < d.2)).map Prod.fst)) G)) (fun _ s64 _ => us.length - (RowKit.intOf s64).toNat)
        case atStart => exact ⟨0, vr, Nat.zero_le _, rfl, by simpa [cjoin, Hid] using HR5.out⟩
        case round =>
          obtain ⟨k, vr2, hk, rfl, HI2⟩ := hrel
          by_cases hlt2 : k < us.length
          · have hltz2 : (k : Int) < (us.length : Int) := by omega
            obtain ⟨d, hd⟩ : ∃ d, us[k]? = some d := ⟨us[k], by simp⟩
            obtain ⟨b1, o1, c1, e1, z1, x1, x2, x3, x4⟩ := (HI2.out.at HU.out HAP.out).at4 hd
            simp only [Value.slice.injEq] at e1
            obtain ⟨rfl, -, rfl⟩ := e1
            have HJ : Hid (((us.take (k + 1)).filter fun d => decide (0 < d.2)).map Prod.fst = ((us.take k).filter fun d => decide (0 < d.2)).map Prod.fst ++ (if 0 < d.2 then [d.1] else [])) := by
              show _ = _
              rw [filter_take_succ hd, List.map_append]
              by_cases h0 : 0 < d.2 <;> simp [h0]
            have hFL : (((us.take k).filter fun d => decide (0 < d.2)).map Prod.fst).length ≤ k := by
              rw [List.length_map]
              exact Nat.le_trans (List.length_filter_le _ _) (by rw [List.length_take]; omega)
            clear hd
            generalize ((us.take k).filter fun d => decide (0 < d.2)).map Prod.fst = L at *
            have hcl2 : ((cjoin bel tol FX L).length + 1) * 24 ≤ 140737488355328 := by
              have := cjoin_length (bel := bel) (fst := tol) FX L
              exact mul24 (by omega) hl
            by_cases h0 : 0 < d.2
            · have HE : Hid (((us.take (k + 1)).filter fun d => decide (0 < d.2)).map Prod.fst = L ++ [d.1]) := by rw [HJ.out, if_pos h0]; simp [Hid]
              obtain ⟨W5, hW5⟩ : ∃ W5, W5 = wr.alloc (.cells #[.int .u64 d.1.1.1, .int .u64 d.1.1.2.1, .int .u64 d.1.1.2.2, .int .i64 d.2] 54) := ⟨_, rfl⟩
              obtain ⟨nb, hnb⟩ : ∃ nb, nb = wr.heap.size := ⟨_, rfl⟩
              have G5 : Gr wr W5 := by rw [hW5]; exact (Gr.refl _).alloc _
              have hblk : W5.heap[nb]? = some (.cells #[.int .u64 d.1.1.1, .int .u64 d.1.1.2.1, .int .u64 d.1.1.2.2, .int .i64 d.2] 54 (0, 0)) := by rw [hW5, hnb]; exact heap_new' _ _
              have R6 := HI2.out.gr G5.drew
              have HR6 := hidN R6
              have hnr : ¬ (nb = cb ∨ vr2.ownBlock = some nb) := fun e => e.elim (fun e => by have := HI2.out.mu.ch.lt; omega) (fun e => by have := HI2.out.mu.ch.row _ e; omega)
              have hin := Cn.insert_any (bel := bel) (fst := tol) d.1 W5.drew R6.mu.ch hcl2 ahead_ok told_ok
              have q0 : W5.drew.cell? ⟨nb, 0, none⟩ = some (.int .u64 d.1.1.1) := by show W5.cell? _ = _; simp only [World.cell?]; rw [hblk]; rfl
              have q1 : W5.drew.cell? ⟨nb, 1, none⟩ = some (.int .u64 d.1.1.2.1) := by show W5.cell? _ = _; simp only [World.cell?]; rw [hblk]; rfl
              have q2 : W5.drew.cell? ⟨nb, 2, none⟩ = some (.int .u64 d.1.1.2.2) := by show W5.cell? _ = _; simp only [World.cell?]; rw [hblk]; rfl
              have q4 : nb < W5.drew.heap.size := (Array.getElem?_eq_some_iff.1 hblk).1
              have S9 : (W5.drew).cell? ⟨B0, 0, none⟩ = some (.pointer (some ⟨mb, 0, none⟩)) ∧ (W5.drew).cell? ⟨mb, 1, none⟩ = some (.pointer (some ⟨cb, 0, none⟩)) ∧ (W5.drew).cell? ⟨nb, 0, none⟩ = some (.int .u64 d.1.1.1) ∧ (W5.drew).cell? ⟨nb, 1, none⟩ = some (.int .u64 d.1.1.2.1) ∧ (W5.drew).cell? ⟨nb, 2, none⟩ = some (.int .u64 d.1.1.2.2) ∧ B0 < (W5.drew).heap.size ∧ mb < (W5.drew).heap.size ∧ nb < (W5.drew).heap.size := ⟨R6.b0, R6.mu.c1, q0, q1, q2, R6.bl, R6.mu.lt, q4⟩
              generalize hcn : cjoin bel tol FX L = F2 at *
              have HCN : Hid (cjoin bel tol FX (L ++ [d.1]) = cins bel tol F2 d.1) := by
                show _ = _
                rw [cjoin_append, hcn]; rfl
              clear hcn hblk G5 R6 q0 q1 q2 q4 S0
              generalize ccov bel F2 d.1 = r at hin
              go_wp2_with fail
              rw [← hW5, ← hnb]
              clear hW5 hnb x1 x2 x3 x4 z1
              go_region_held3 (fun w' => (w').cell? ⟨B0, 0, none⟩ = some (.pointer (some ⟨mb, 0, none⟩)) ∧ (w').cell? ⟨mb, 1, none⟩ = some (.pointer (some ⟨cb, 0, none⟩)) ∧ (w').cell? ⟨nb, 0, none⟩ = some (.int .u64 d.1.1.1) ∧ (w').cell? ⟨nb, 1, none⟩ = some (.int .u64 d.1.1.2.1) ∧ (w').cell? ⟨nb, 2, none⟩ = some (.int .u64 d.1.1.2.2) ∧ B0 < (w').heap.size ∧ mb < (w').heap.size ∧ nb < (w').heap.size)
                (first | exact S9 | exact S10)
                (first | (go_at_call 68; refine hin.mono ?_; rintro e w8 ⟨v8, rfl, hch8, ht8⟩; have R8 := HR6.out.turn ht8 hch8; have S10 : (w8).cell? ⟨B0, 0, none⟩ = some (.pointer (some ⟨mb, 0, none⟩)) ∧ (w8).cell? ⟨mb, 1, none⟩ = some (.pointer (some ⟨cb, 0, none⟩)) ∧ (w8).cell? ⟨nb, 0, none⟩ = some (.int .u64 d.1.1.1) ∧ (w8).cell? ⟨nb, 1, none⟩ = some (.int .u64 d.1.1.2.1) ∧ (w8).cell? ⟨nb, 2, none⟩ = some (.int .u64 d.1.1.2.2) ∧ B0 < (w8).heap.size ∧ mb < (w8).heap.size ∧ nb < (w8).heap.size := ⟨R8.b0, R8.mu.c1, (ht8.1.cell S9.2.2.2.2.2.2.2 hnr).trans S9.2.2.1, (ht8.1.cell S9.2.2.2.2.2.2.2 hnr).trans S9.2.2.2.1, (ht8.1.cell S9.2.2.2.2.2.2.2 hnr).trans S9.2.2.2.2.1, R8.bl, R8.mu.lt, Nat.lt_of_lt_of_le S9.2.2.2.2.2.2.2 ht8.1.size⟩))
              have HR8 := hidN R8
              clear R8 S10 ht8 hch8
              go_wp2
              go_roundw
              case rel =>
                refine ⟨k + 1, v8, by omega, by go_num, ?_⟩
                rw [HE.out, HCN.out]
                exact HR8.out
              case measure => simp [RowKit.intOf]; omega
            · have HE : Hid (((us.take (k + 1)).filter fun d => decide (0 < d.2)).map Prod.fst = L) := by rw [HJ.out, if_neg h0]; simp [Hid]
              go_wp2
              go_roundw
              case rel =>
                refine ⟨k + 1, vr2, by omega, by go_num, ?_⟩
                rw [HE.out]
                exact HI2.out.gr ((Gr.refl _).alloc _)
              case measure => simp [RowKit.intOf]; omega
          · have hltz2 : ¬ (k : Int) < (us.length : Int) := by omega
            obtain rfl : k = us.length := by omega
            rw [List.take_length] at HI2
            go_wp2
            go_end0
            obtain ⟨ks2, hS2, hX2⟩ := HX2.out
            refine ⟨rfl, vr2, _, ⟨ks2, hS2, ?_⟩, HI2.out.mu, HI2.out.tn⟩
            rw [cren, HFG.out]
            exact congrArg (fun z => cjoin bel tol z _) hX2.symm
      · have HE0 : Hid (decide (0 < G.length) = true) := decide_eq_true (by omega)
        refine wp_regionD (S := fun W => W.cell? ⟨B0, 0, none⟩ = some (.pointer (some ⟨mb, 0, none⟩)) ∧ W.cell? ⟨mb, 1, none⟩ = some (.pointer (some ⟨cb, 0, none⟩)) ∧ W.cell? ⟨mb, 0, none⟩ = some (.pointer (some ⟨tb, 0, none⟩)) ∧ W.cell? ⟨Bg, 0, none⟩ = some (.slice pg G.length cg) ∧ B0 < W.heap.size ∧ mb < W.heap.size ∧ Bg < W.heap.size) (D := []) hmx ?_
        refine' wpAnyD_take (i := 0) (oi := { dst := some 34, op := Go.Op.load 42 (Go.Operand.tmp 4), type := 42, pos := "multi.go:93", after := #[], guard := none }) (v := _) rfl (by kernel_rfl) (by kernel_rfl) (by kernel_rfl) (fun _ _ _ h => h) (by kernel_rfl) (Or.inl ⟨by rfl, ?hy56⟩) S0 ?rest56
        case hy56 => (intro W hSw; (try dsimp only at hSw); obtain ⟨s1, s2, s3, s4, s5, s6, s7⟩ := hSw; go_simp; try (with_reducible rfl))
        try simp only [Act.put, List.setIfInBounds_toArray, List.set_cons_zero, List.set_cons_succ]
        refine' wpAnyD_take (i := 1) (oi := { dst := some 35, op := Go.Op.call { callee := Go.Callee.builtin Go.Builtin.len, args := #[Go.Operand.tmp 34], argTypes := #[42] }, type := 3, pos := "multi.go:93", after := #[{ on := 0, ground := Go.Ground.data }], guard := none }) (v := _) rfl (by kernel_rfl) (by kernel_rfl) (by kernel_rfl) (fun _ _ _ h => h) (by kernel_rfl) (Or.inl ⟨by rfl, ?hy57⟩) S0 ?rest57
        case hy57 => (intro W hSw; (try dsimp only at hSw); obtain ⟨s1, s2, s3, s4, s5, s6, s7⟩ := hSw; go_simp; try (with_reducible rfl))
        try simp only [Act.put, List.setIfInBounds_toArray, List.set_cons_zero, List.set_cons_succ]
        refine' wpAnyD_take (i := 2) (oi := { dst := some 36, op := Go.Op.binOp Go.BinOp.gtr 3 (Go.Operand.tmp 35) (Go.Operand.const (Go.Value.int Go.IntKind.i64 0)) 3, type := 4, pos := "multi.go:93", after := #[{ on := 1, ground := Go.Ground.data }], guard := none }) (v := _) rfl (by kernel_rfl) (by kernel_rfl) (by kernel_rfl) (fun _ _ _ h => h) (by kernel_rfl) (Or.inl ⟨by rfl, ?hy58⟩) S0 ?rest58
        case hy58 => (intro W hSw; (try dsimp only at hSw); obtain ⟨s1, s2, s3, s4, s5, s6, s7⟩ := hSw; go_simp; (try rw [HE0.out]); try (with_reducible rfl))
        try simp only [Act.put, List.setIfInBounds_toArray, List.set_cons_zero, List.set_cons_succ]
        refine' wpAnyD_take (i := 3) (oi := { dst := some 37, op := Go.Op.move (Go.Operand.tmp 36), type := 4, pos := "multi.go:93", after := #[{ on := 2, ground := Go.Ground.data }], guard := none }) (v := _) rfl (by kernel_rfl) (by kernel_rfl) (by kernel_rfl) (fun _ _ _ h => h) (by kernel_rfl) (Or.inl ⟨by rfl, ?hy59⟩) S0 ?rest59
        case hy59 => (intro W hSw; (try dsimp only at hSw); obtain ⟨s1, s2, s3, s4, s5, s6, s7⟩ := hSw; go_simp; try (with_reducible rfl))
        try simp only [Act.put, List.setIfInBounds_toArray, List.set_cons_zero, List.set_cons_succ]
        refine' wpAnyD_take (i := 4) (oi := { dst := some 38, op := Go.Op.load 24 (Go.Operand.tmp 2), type := 24, pos := "multi.go:93", after := #[{ on := 3, ground := Go.Ground.guard }], guard := some (3, true) }) (v := _) rfl (by kernel_rfl) (by kernel_rfl) (by kernel_rfl) (fun _ _ _ h => h) (by kernel_rfl) (Or.inl ⟨by rfl, ?hy60⟩) S0 ?rest60
        case hy60 => (intro W hSw; (try dsimp only at hSw); obtain ⟨s1, s2, s3, s4, s5, s6, s7⟩ := hSw; go_simp; try (with_reducible rfl))
        try simp only [Act.put, List.setIfInBounds_toArray, List.set_cons_zero, List.set_cons_succ]
        refine' wpAnyD_take (i := 5) (oi := { dst := some 39, op := Go.Op.nilCheck (Go.Operand.tmp 38), type := 0, pos := "multi.go:93", after := #[{ on := 4, ground := Go.Ground.data }, { on := 3, ground := Go.Ground.guard }], guard := some (3, true) }) (v := _) rfl (by kernel_rfl) (by kernel_rfl) (by kernel_rfl) (fun _ _ _ h => h) (by kernel_rfl) (Or.inl ⟨by rfl, ?hy61⟩) S0 ?rest61
        case hy61 => (intro W hSw; (try dsimp only at hSw); obtain ⟨s1, s2, s3, s4, s5, s6, s7⟩ := hSw; go_simp; try (with_reducible rfl))
        try simp only [Act.put, List.setIfInBounds_toArray, List.set_cons_zero, List.set_cons_succ]
        refine' wpAnyD_take (i := 6) (oi := { dst := some 40, op := Go.Op.fieldAddr 65 (Go.Operand.tmp 39) 1, type := 0, pos := "multi.go:93", after := #[{ on := 5, ground := Go.Ground.data }, { on := 3, ground := Go.Ground.guard }], guard := some (3, true) }) (v := _) rfl (by kernel_rfl) (by kernel_rfl) (by kernel_rfl) (fun _ _ _ h => h) (by kernel_rfl) (Or.inl ⟨by rfl, ?hy62⟩) S0 ?rest62
        case hy62 => (intro W hSw; (try dsimp only at hSw); obtain ⟨s1, s2, s3, s4, s5, s6, s7⟩ := hSw; go_simp; try (with_reducible rfl))
        try simp only [Act.put, List.setIfInBounds_toArray, List.set_cons_zero, List.set_cons_succ]
        refine' wpAnyD_take (i := 7) (oi := { dst := some 41, op := Go.Op.load 62 (Go.Operand.tmp 40), type := 62, pos := "multi.go:93", after := #[{ on := 6, ground := Go.Ground.data }, { on := 3, ground := Go.Ground.guard }], guard := some (3, true) }) (v := _) rfl (by kernel_rfl) (by kernel_rfl) (by kernel_rfl) (fun _ _ _ h => h) (by kernel_rfl) (Or.inl ⟨by rfl, ?hy63⟩) S0 ?rest63
        case hy63 => (intro W hSw; (try dsimp only at hSw); obtain ⟨s1, s2, s3, s4, s5, s6, s7⟩ := hSw; go_simp; try (with_reducible rfl))
        try simp only [Act.put, List.setIfInBounds_toArray, List.set_cons_zero, List.set_cons_succ]
        refine' wpAnyD_take (i := 9) (oi := { dst := some 43, op := Go.Op.load 24 (Go.Operand.tmp 2), type := 24, pos := "multi.go:93", after := #[{ on := 3, ground := Go.Ground.guard }], guard := some (3, true) }) (v := _) rfl (by kernel_rfl) (by kernel_rfl) (by kernel_rfl) (fun _ _ _ h => h) (by kernel_rfl) (Or.inl ⟨by rfl, ?hy64⟩) S0 ?rest64
        case hy64 => (intro W hSw; (try dsimp only at hSw); obtain ⟨s1, s2, s3, s4, s5, s6, s7⟩ := hSw; go_simp; try (with_reducible rfl))
        try simp only [Act.put, List.setIfInBounds_toArray, List.set_cons_zero, List.set_cons_succ]
        refine' wpAnyD_take (i := 10) (oi := { dst := some 44, op := Go.Op.nilCheck (Go.Operand.tmp 43), type := 0, pos := "multi.go:93", after := #[{ on := 9, ground := Go.Ground.data }, { on := 3, ground := Go.Ground.guard }], guard := some (3, true) }) (v := _) rfl (by kernel_rfl) (by kernel_rfl) (by kernel_rfl) (fun _ _ _ h => h) (by kernel_rfl) (Or.inl ⟨by rfl, ?hy65⟩) S0 ?rest65
        case hy65 => (intro W hSw; (try dsimp only at hSw); obtain ⟨s1, s2, s3, s4, s5, s6, s7⟩ := hSw; go_simp; try (with_reducible rfl))
        try simp only [Act.put, List.setIfInBounds_toArray, List.set_cons_zero, List.set_cons_succ]
        refine' wpAnyD_take (i := 11) (oi := { dst := some 45, op := Go.Op.fieldAddr 65 (Go.Operand.tmp 44) 0, type := 0, pos := "multi.go:93", after := #[{ on := 10, ground := Go.Ground.data }, { on := 3, ground := Go.Ground.guard }], guard := some (3, true) }) (v := _) rfl (by kernel_rfl) (by kernel_rfl) (by kernel_rfl) (fun _ _ _ h => h) (by kernel_rfl) (Or.inl ⟨by rfl, ?hy66⟩) S0 ?rest66
        case hy66 => (intro W hSw; (try dsimp only at hSw); obtain ⟨s1, s2, s3, s4, s5, s6, s7⟩ := hSw; go_simp; try (with_reducible rfl))
        try simp only [Act.put, List.setIfInBounds_toArray, List.set_cons_zero, List.set_cons_succ]
        refine' wpAnyD_take (i := 12) (oi := { dst := some 46, op := Go.Op.load 60 (Go.Operand.tmp 45), type := 60, pos := "multi.go:93", after := #[{ on := 11, ground := Go.Ground.data }, { on := 3, ground := Go.Ground.guard }], guard := some (3, true) }) (v := _) rfl (by kernel_rfl) (by kernel_rfl) (by kernel_rfl) (fun _ _ _ h => h) (by kernel_rfl) (Or.inl ⟨by rfl, ?hy67⟩) S0 ?rest67
        case hy67 => (intro W hSw; (try dsimp only at hSw); obtain ⟨s1, s2, s3, s4, s5, s6, s7⟩ := hSw; go_simp; try (with_reducible rfl))
        try simp only [Act.put, List.setIfInBounds_toArray, List.set_cons_zero, List.set_cons_succ]
        refine wpAnyD_one (i := 8) (o := { dst := some 42, op := Go.Op.call { callee := Go.Callee.value (Go.Operand.func 63), args := #[Go.Operand.tmp 41], argTypes := #[62] }, type := 3, pos := "multi.go:93", after := #[{ on := 7, ground := Go.Ground.data }, { on := 3, ground := Go.Ground.chain }, { on := 3, ground := Go.Ground.guard }], guard := some (3, true) }) (by kernel_rfl) rfl (fun K hK => ?_)
        go_simp
        refine (Cn.len_any wr.drew HR5.out.mu.ch).mono ?_
        rintro e w8 ⟨rfl, rfl⟩
        go_wp2_with fail
        refine hK.out _ _ (fun hD => S0) ?_
        clear hK K
        try simp only [Act.put, List.setIfInBounds_toArray, List.set_cons_zero, List.set_cons_succ]
        refine wpAnyD_one (i := 13) (o := { dst := some 47, op := Go.Op.call { callee := Go.Callee.value (Go.Operand.func 34), args := #[Go.Operand.tmp 46], argTypes := #[60] }, type := 3, pos := "multi.go:93", after := #[{ on := 12, ground := Go.Ground.data }, { on := 8, ground := Go.Ground.chain }, { on := 3, ground := Go.Ground.guard }], guard := some (3, true) }) (by kernel_rfl) rfl (fun K hK => ?_)
        go_simp
        refine (many_any wr.drew HR5.out.mu.tl).mono ?_
        rintro e w9 ⟨ks, hS9, rfl, hg9⟩
        have R9 := HR5.out.gr hg9
        have S9 : w9.cell? ⟨B0, 0, none⟩ = some (.pointer (some ⟨mb, 0, none⟩)) ∧ w9.cell? ⟨mb, 1, none⟩ = some (.pointer (some ⟨cb, 0, none⟩)) ∧ w9.cell? ⟨mb, 0, none⟩ = some (.pointer (some ⟨tb, 0, none⟩)) ∧ w9.cell? ⟨Bg, 0, none⟩ = some (.slice pg G.length cg) ∧ B0 < w9.heap.size ∧ mb < w9.heap.size ∧ Bg < w9.heap.size := ⟨R9.b0, R9.mu.c1, R9.mu.c0, R9.g0, R9.bl, R9.mu.lt, R9.gl⟩
        have HR9 := hidN R9
        have HS9 := hidN hS9
        clear R9 hg9 hS9
        go_wp2_with fail
        refine hK.out _ _ (fun hD => S9) ?_
        clear hK K
        try simp only [Act.put, List.setIfInBounds_toArray, List.set_cons_zero, List.set_cons_succ]
        refine' wpAnyD_take (i := 14) (oi := { dst := some 48, op := Go.Op.binOp Go.BinOp.lss 3 (Go.Operand.tmp 42) (Go.Operand.tmp 47) 3, type := 4, pos := "multi.go:93", after := #[{ on := 8, ground := Go.Ground.data }, { on := 13, ground := Go.Ground.data }, { on := 3, ground := Go.Ground.guard }], guard := some (3, true) }) (v := _) rfl (by kernel_rfl) (by kernel_rfl) (by kernel_rfl) (fun _ _ _ h => h) (by kernel_rfl) (Or.inl ⟨by rfl, ?hy70⟩) S9 ?rest70
        case hy70 => (intro W hSw; (try dsimp only at hSw); obtain ⟨s1, s2, s3, s4, s5, s6, s7⟩ := hSw; go_simp; try (with_reducible rfl))
        try simp only [Act.put, List.setIfInBounds_toArray, List.set_cons_zero, List.set_cons_succ]
        refine' wpAnyD_take (i := 15) (oi := { dst := some 49, op := Go.Op.pick (Go.Operand.tmp 37) (Go.Operand.tmp 48) (Go.Operand.const (Go.Value.bool false)), type := 4, pos := "multi.go:93", after := #[{ on := 3, ground := Go.Ground.data }, { on := 14, ground := Go.Ground.data }], guard := none }) (v := _) rfl (by kernel_rfl) (by kernel_rfl) (by kernel_rfl) (fun _ _ _ h => h) (by kernel_rfl) (Or.inl ⟨by rfl, ?hy71⟩) S9 ?rest71
        case hy71 => (intro W hSw; (try dsimp only at hSw); obtain ⟨s1, s2, s3, s4, s5, s6, s7⟩ := hSw; go_simp; try (with_reducible rfl))
        try simp only [Act.put, List.setIfInBounds_toArray, List.set_cons_zero, List.set_cons_succ]
        refine wpAnyD_done (by kernel_rfl) ?_ _
        by_cases hFk : F.length < ks.length
        · have hFz : (F.length : Int) < (ks.length : Int) := by omega
          obtain ⟨ks0, hs0, hsl⟩ := HSL.out
          have HSL2 := hidN hsl
          obtain ⟨P, hP⟩ : ∃ P : Tm → Bool, ∀ x, P x = (decide (f x ≤ 0) || !ccov bel G x) := ⟨_, fun _ => rfl⟩
          have HP := hidN hP
          clear hP
          have hkn := (hsl ks HS9.out).2
          have HR7 : Hid (Rn w w9.drew B0 Bg mb tb b cb n v vr (.slice pg G.length cg) f F G) := HR9.out.gr (Gr.refl _).drew
          have htm := mtimes_any w9.drew HR7.out.mu.tl (mul24 (by omega) hl)
          have hdl : ∀ (ks : List Tm) (g5 c5 : Nat) (w5 : World), w5.ownsRow w9.drew.heap.size 37 3 (.slice (some ⟨g5, 0, none⟩) (stT ks).length c5) (stT ks).length (flT (stT ks)) → Below w9.drew.heap.size w9.drew w5 → Sup f ks → _ := fun ks g5 c5 w5 ho hb hS =>
            deleteFunc_any g5 c5 (stT ks) 66 #[.pointer (some ⟨B0, 0, none⟩), .pointer (some ⟨Bg, 0, none⟩)] P w5 ho (by
              have hle := (HSL2.out ks hS).2
              rw [srtBy_length]; exact mul24 (by omega) hl) HEG.out (fun W x hk => by
                have hg5 : w9.drew.heap.size ≤ g5 := (ho.lt g5 rfl).1
                have RW := HR7.out.below (hb.trans (hk.below hb.size (fun k e => e ▸ hg5)))
                rw [HP.out x]
                exact gone_any x W RW.b0 RW.mu.c0 RW.g0 RW.bl RW.mu.lt RW.gl RW.mu.tl (owns_lst RW.ow) (Cn.len_ok (mul24 (by omega) hl)))
          have hjn : ∀ (ks : List Tm) (g5 c6 : Nat) (w5 w6 : World), w9.drew.heap.size ≤ g5 → Below w9.drew.heap.size w9.drew w5 → Kp (fun k => k = g5) w5 w6 → w6.ownsRow 0 37 3 (.slice (some ⟨g5, 0, none⟩) ((stT ks).filter fun x => !P x).length c6) ((stT ks).filter fun x => !P x).length (flT ((stT ks).filter fun x => !P x)) → Sup f ks → _ := fun ks g5 c6 w5 w6 hg hb hk ho hS =>
            Cn.join_any w6 (HR7.out.below (hb.trans (hk.below hb.size (fun k e => e ▸ hg)))).mu.ch (owns_lst ho) (fun k hk => by
              have : k = g5 := by simpa [Value.ownBlock] using hk.symm
              have h1 := HR7.out.mu.ch.lt
              exact ⟨by omega, fun e => by have := HR7.out.mu.ch.row _ e; omega⟩) (by
              have hle := (HSL2.out ks hS).2
              have h1 := List.length_filter_le (fun x => !P x) (stT ks)
              rw [srtBy_length] at h1
              exact mul24 (by omega) hl) ahead_ok told_ok
          have T0 : (w9.drew).cell? ⟨B0, 0, none⟩ = some (.pointer (some ⟨mb, 0, none⟩)) ∧ (w9.drew).cell? ⟨mb, 0, none⟩ = some (.pointer (some ⟨tb, 0, none⟩)) ∧ (w9.drew).cell? ⟨mb, 1, none⟩ = some (.pointer (some ⟨cb, 0, none⟩)) ∧ B0 < (w9.drew).heap.size ∧ mb < (w9.drew).heap.size := ⟨HR7.out.b0, HR7.out.mu.c0, HR7.out.mu.c1, HR7.out.bl, HR7.out.mu.lt⟩
          clear S0 S9
          go_upto_region 9 with fail
          refine wp_regionD (S := fun W => (W).cell? ⟨B0, 0, none⟩ = some (.pointer (some ⟨mb, 0, none⟩)) ∧ (W).cell? ⟨mb, 0, none⟩ = some (.pointer (some ⟨tb, 0, none⟩)) ∧ (W).cell? ⟨mb, 1, none⟩ = some (.pointer (some ⟨cb, 0, none⟩)) ∧ B0 < (W).heap.size ∧ mb < (W).heap.size) (D := []) hmx ?_
          refine' wpAnyD_take (i := 0) (oi := { dst := some 50, op := Go.Op.load 24 (Go.Operand.tmp 2), type := 24, pos := "multi.go:94", after := #[], guard := none }) (v := _) rfl (by kernel_rfl) (by kernel_rfl) (by kernel_rfl) (fun _ _ _ h => h) (by kernel_rfl) (Or.inl ⟨by rfl, ?hy72⟩) T0 ?rest72
          case hy72 => (intro W hSw; (try dsimp only at hSw); obtain ⟨s1, s2, s3, s4, s5⟩ := hSw; go_simp; try (with_reducible rfl))
          try simp only [Act.put, List.setIfInBounds_toArray, List.set_cons_zero, List.set_cons_succ]
          refine' wpAnyD_take (i := 1) (oi := { dst := some 51, op := Go.Op.nilCheck (Go.Operand.tmp 50), type := 0, pos := "multi.go:94", after := #[{ on := 0, ground := Go.Ground.data }], guard := none }) (v := _) rfl (by kernel_rfl) (by kernel_rfl) (by kernel_rfl) (fun _ _ _ h => h) (by kernel_rfl) (Or.inl ⟨by rfl, ?hy73⟩) T0 ?rest73
          case hy73 => (intro W hSw; (try dsimp only at hSw); obtain ⟨s1, s2, s3, s4, s5⟩ := hSw; go_simp; try (with_reducible rfl))
          try simp only [Act.put, List.setIfInBounds_toArray, List.set_cons_zero, List.set_cons_succ]
          refine' wpAnyD_take (i := 2) (oi := { dst := some 52, op := Go.Op.fieldAddr 65 (Go.Operand.tmp 51) 1, type := 0, pos := "multi.go:94", after := #[{ on := 1, ground := Go.Ground.data }], guard := none }) (v := _) rfl (by kernel_rfl) (by kernel_rfl) (by kernel_rfl) (fun _ _ _ h => h) (by kernel_rfl) (Or.inl ⟨by rfl, ?hy74⟩) T0 ?rest74
          case hy74 => (intro W hSw; (try dsimp only at hSw); obtain ⟨s1, s2, s3, s4, s5⟩ := hSw; go_simp; try (with_reducible rfl))
          try simp only [Act.put, List.setIfInBounds_toArray, List.set_cons_zero, List.set_cons_succ]
          refine' wpAnyD_take (i := 3) (oi := { dst := some 53, op := Go.Op.load 62 (Go.Operand.tmp 52), type := 62, pos := "multi.go:94", after := #[{ on := 2, ground := Go.Ground.data }], guard := none }) (v := _) rfl (by kernel_rfl) (by kernel_rfl) (by kernel_rfl) (fun _ _ _ h => h) (by kernel_rfl) (Or.inl ⟨by rfl, ?hy75⟩) T0 ?rest75
          case hy75 => (intro W hSw; (try dsimp only at hSw); obtain ⟨s1, s2, s3, s4, s5⟩ := hSw; go_simp; try (with_reducible rfl))
          try simp only [Act.put, List.setIfInBounds_toArray, List.set_cons_zero, List.set_cons_succ]
          refine' wpAnyD_take (i := 4) (oi := { dst := some 54, op := Go.Op.load 24 (Go.Operand.tmp 2), type := 24, pos := "multi.go:94", after := #[], guard := none }) (v := _) rfl (by kernel_rfl) (by kernel_rfl) (by kernel_rfl) (fun _ _ _ h => h) (by kernel_rfl) (Or.inl ⟨by rfl, ?hy76⟩) T0 ?rest76
          case hy76 => (intro W hSw; (try dsimp only at hSw); obtain ⟨s1, s2, s3, s4, s5⟩ := hSw; go_simp; try (with_reducible rfl))
          try simp only [Act.put, List.setIfInBounds_toArray, List.set_cons_zero, List.set_cons_succ]
          refine' wpAnyD_take (i := 5) (oi := { dst := some 55, op := Go.Op.nilCheck (Go.Operand.tmp 54), type := 0, pos := "multi.go:94", after := #[{ on := 4, ground := Go.Ground.data }], guard := none }) (v := _) rfl (by kernel_rfl) (by kernel_rfl) (by kernel_rfl) (fun _ _ _ h => h) (by kernel_rfl) (Or.inl ⟨by rfl, ?hy77⟩) T0 ?rest77
          case hy77 => (intro W hSw; (try dsimp only at hSw); obtain ⟨s1, s2, s3, s4, s5⟩ := hSw; go_simp; try (with_reducible rfl))
          try simp only [Act.put, List.setIfInBounds_toArray, List.set_cons_zero, List.set_cons_succ]
          refine' wpAnyD_take (i := 6) (oi := { dst := some 56, op := Go.Op.fieldAddr 65 (Go.Operand.tmp 55) 0, type := 0, pos := "multi.go:94", after := #[{ on := 5, ground := Go.Ground.data }], guard := none }) (v := _) rfl (by kernel_rfl) (by kernel_rfl) (by kernel_rfl) (fun _ _ _ h => h) (by kernel_rfl) (Or.inl ⟨by rfl, ?hy78⟩) T0 ?rest78
          case hy78 => (intro W hSw; (try dsimp only at hSw); obtain ⟨s1, s2, s3, s4, s5⟩ := hSw; go_simp; try (with_reducible rfl))
          try simp only [Act.put, List.setIfInBounds_toArray, List.set_cons_zero, List.set_cons_succ]
          refine' wpAnyD_take (i := 7) (oi := { dst := some 57, op := Go.Op.load 60 (Go.Operand.tmp 56), type := 60, pos := "multi.go:94", after := #[{ on := 6, ground := Go.Ground.data }], guard := none }) (v := _) rfl (by kernel_rfl) (by kernel_rfl) (by kernel_rfl) (fun _ _ _ h => h) (by kernel_rfl) (Or.inl ⟨by rfl, ?hy79⟩) T0 ?rest79
          case hy79 => (intro W hSw; (try dsimp only at hSw); obtain ⟨s1, s2, s3, s4, s5⟩ := hSw; go_simp; try (with_reducible rfl))
          try simp only [Act.put, List.setIfInBounds_toArray, List.set_cons_zero, List.set_cons_succ]
          refine' wpAnyD_take (i := 9) (oi := { dst := some 59, op := Go.Op.makeFunc (Go.Fn.func 66) #[] #[Go.Operand.tmp 2, Go.Operand.tmp 4], type := 44, pos := "multi.go:94", after := #[], guard := none }) (v := _) rfl (by kernel_rfl) (by kernel_rfl) (by kernel_rfl) (fun _ _ _ h => h) (by kernel_rfl) (Or.inl ⟨by rfl, ?hy80⟩) T0 ?rest80
          case hy80 => (intro W hSw; (try dsimp only at hSw); obtain ⟨s1, s2, s3, s4, s5⟩ := hSw; go_simp; try (with_reducible rfl))
          try simp only [Act.put, List.setIfInBounds_toArray, List.set_cons_zero, List.set_cons_succ]
          refine wpAnyD_one (i := 8) (o := { dst := some 58, op := Go.Op.call { callee := Go.Callee.value (Go.Operand.func 36), args := #[Go.Operand.tmp 57], argTypes := #[60] }, type := 42, pos := "multi.go:94", after := #[{ on := 7, ground := Go.Ground.data }], guard := none }) (by kernel_rfl) rfl (fun K hK => ?_)
          go_simp
          refine htm.mono ?_
          rintro e w5 ⟨v5, ks5, hS5, rfl, ho5, hv5, hb5⟩
          obtain ⟨g5, c5, hgg5, rfl⟩ : ∃ g5 c5, w9.drew.heap.size ≤ g5 ∧ v5 = .slice (some ⟨g5, 0, none⟩) (stT ks5).length c5 := by
            obtain ⟨_, ⟨hn0, _⟩ | ⟨g5, c5, cur5, hv, hgg5, _⟩⟩ := ho5
            · exact absurd hn0 hv5
            · exact ⟨g5, c5, hgg5, hv⟩
          have Q5 := hidN (HR7.out.below hb5)
          have T5 : (w5).cell? ⟨B0, 0, none⟩ = some (.pointer (some ⟨mb, 0, none⟩)) ∧ (w5).cell? ⟨mb, 0, none⟩ = some (.pointer (some ⟨tb, 0, none⟩)) ∧ (w5).cell? ⟨mb, 1, none⟩ = some (.pointer (some ⟨cb, 0, none⟩)) ∧ B0 < (w5).heap.size ∧ mb < (w5).heap.size := Q5.out.ss
          have HO5 := hidN ho5
          have HB5 := hidN hb5
          have HS5 := hidN hS5
          clear ho5 hb5 hS5 hv5
          go_wp2_with fail
          refine hK.out _ _ (fun hD => T5) ?_
          clear hK K
          try simp only [Act.put, List.setIfInBounds_toArray, List.set_cons_zero, List.set_cons_succ]
          refine wpAnyD_one (i := 10) (o := { dst := some 60, op := Go.Op.call { callee := Go.Callee.value (Go.Operand.func 65), args := #[Go.Operand.tmp 58, Go.Operand.tmp 59], argTypes := #[42, 44] }, type := 42, pos := "multi.go:94", after := #[{ on := 8, ground := Go.Ground.data }, { on := 9, ground := Go.Ground.data }, { on := 8, ground := Go.Ground.chain }], guard := none }) (by kernel_rfl) rfl (fun K hK => ?_)
          go_simp
          refine (hdl ks5 g5 c5 w5 HO5.out HB5.out HS5.out).mono ?_
          rintro e w6 ⟨c6, rfl, ho6, hk6⟩
          have Q6 := hidN (HR7.out.below (HB5.out.trans (hk6.below HB5.out.size (fun k e => e ▸ hgg5))))
          have T6 : (w6).cell? ⟨B0, 0, none⟩ = some (.pointer (some ⟨mb, 0, none⟩)) ∧ (w6).cell? ⟨mb, 0, none⟩ = some (.pointer (some ⟨tb, 0, none⟩)) ∧ (w6).cell? ⟨mb, 1, none⟩ = some (.pointer (some ⟨cb, 0, none⟩)) ∧ B0 < (w6).heap.size ∧ mb < (w6).heap.size := Q6.out.ss
          have HO6 := hidN ho6
          have HK6 := hidN hk6
          clear ho6 hk6
          go_wp2_with fail
          refine hK.out _ _ (fun hD => T6) ?_
          clear hK K
          try simp only [Act.put, List.setIfInBounds_toArray, List.set_cons_zero, List.set_cons_succ]
          refine wpAnyD_one (i := 11) (o := { dst := some 61, op := Go.Op.call { callee := Go.Callee.value (Go.Operand.func 64), args := #[Go.Operand.tmp 53, Go.Operand.tmp 60], argTypes := #[62, 42] }, type := 3, pos := "multi.go:94", after := #[{ on := 3, ground := Go.Ground.data }, { on := 10, ground := Go.Ground.data }, { on := 10, ground := Go.Ground.chain }], guard := none }) (by kernel_rfl) rfl (fun K hK => ?_)
          go_simp
          refine (hjn ks5 g5 c6 w5 w6 hgg5 HB5.out HK6.out HO6.out HS5.out).mono ?_
          rintro e w7 ⟨rfl, v7, hch7, ht7⟩
          have Q7 := hidN (Q6.out.turn ht7 hch7)
          have T7 : (w7).cell? ⟨B0, 0, none⟩ = some (.pointer (some ⟨mb, 0, none⟩)) ∧ (w7).cell? ⟨mb, 0, none⟩ = some (.pointer (some ⟨tb, 0, none⟩)) ∧ (w7).cell? ⟨mb, 1, none⟩ = some (.pointer (some ⟨cb, 0, none⟩)) ∧ B0 < (w7).heap.size ∧ mb < (w7).heap.size := Q7.out.ss
          clear hch7 ht7
          go_wp2_with fail
          refine hK.out _ _ (fun hD => T7) ?_
          clear hK K
          try simp only [Act.put, List.setIfInBounds_toArray, List.set_cons_zero, List.set_cons_succ]
          refine wpAnyD_done (by kernel_rfl) ?_ _
          have HQ7 := Q7
          have HX : Hid (∃ ks, Sup f ks ∧ cback bel tol f (stT ks) F G ks.length = cjoin bel tol F ((stT ks5).filter fun x => !P x)) := by
            refine ⟨ks5, HS5.out, ?_⟩
            have e : (fun x => !P x) = fun x => !(decide (f x ≤ 0) || !ccov bel G x) := funext fun x => by rw [HP.out x]
            rw [e]
            exact if_pos ⟨by omega, by rw [(HSL2.out ks5 HS5.out).1, ← (HSL2.out ks HS9.out).1]; exact hFk⟩
          have h5n : (cjoin bel tol F ((stT ks5).filter fun x => !P x)).length ≤ fr.length + n := by
            have h1 := cjoin_length (bel := bel) (fst := tol) F ((stT ks5).filter fun x => !P x)
            have h2 := List.length_filter_le (fun x => !P x) (stT ks5)
            have h3 := (HSL2.out ks5 HS5.out).2
            rw [srtBy_length] at h2
            omega
          have S0 := T7
          clear Q5 Q6 Q7 T5 T6 T0 T7 HK6 HO6 HB5 HO5 HS5 hjn hdl htm HR7 hs0 hsl
          obtain ⟨FX, hFX⟩ : ∃ FX, FX = cjoin bel tol F ((stT ks5).filter fun x => !P x) := ⟨_, rfl⟩
          have HX2 : Hid (∃ ks, Sup f ks ∧ cback bel tol f (stT ks) F G ks.length = FX) := by rw [hFX]; exact HX.out
          rw [← hFX] at HQ7
          have hXl : FX.length ≤ fr.length + n := by rw [hFX]; exact h5n
          clear hFX HX
          go_wp2_with fail
          go_loopw [8, 64] (fun _ s64 wr => ∃ (k : Nat) (vr : Value), k ≤ us.length ∧ s64 = .int .i64 k ∧ Hid (Rn w wr B0 Bg mb tb b cb n v vr (.slice pg G.length cg) f (cjoin bel tol FX (((us.take k).filter fun d => decide (0 < d.2)).map Prod.fst)) G)) (fun _ s64 _ => us.length - (RowKit.intOf s64).toNat)
          case atStart => exact ⟨0, v7, Nat.zero_le _, rfl, by simpa [cjoin, Hid] using HQ7.out⟩
          case round =>
            obtain ⟨k, vr2, hk, rfl, HI2⟩ := hrel
            by_cases hlt2 : k < us.length
            · have hltz2 : (k : Int) < (us.length : Int) := by omega
              obtain ⟨d, hd⟩ : ∃ d, us[k]? = some d := ⟨us[k], by simp⟩
              obtain ⟨b1, o1, c1, e1, z1, x1, x2, x3, x4⟩ := (HI2.out.at HU.out HAP.out).at4 hd
              simp only [Value.slice.injEq] at e1
              obtain ⟨rfl, -, rfl⟩ := e1
              have HJ : Hid (((us.take (k + 1)).filter fun d => decide (0 < d.2)).map Prod.fst = ((us.take k).filter fun d => decide (0 < d.2)).map Prod.fst ++ (if 0 < d.2 then [d.1] else [])) := by
                show _ = _
                rw [filter_take_succ hd, List.map_append]
                by_cases h0 : 0 < d.2 <;> simp [h0]
              have hFL : (((us.take k).filter fun d => decide (0 < d.2)).map Prod.fst).length ≤ k := by
                rw [List.length_map]
                exact Nat.le_trans (List.length_filter_le _ _) (by rw [List.length_take]; omega)
              clear hd
              generalize ((us.take k).filter fun d => decide (0 < d.2)).map Prod.fst = L at *
              have hcl2 : ((cjoin bel tol FX L).length + 1) * 24 ≤ 140737488355328 := by
                have := cjoin_length (bel := bel) (fst := tol) FX L
                exact mul24 (by omega) hl
              by_cases h0 : 0 < d.2
              · have HE : Hid (((us.take (k + 1)).filter fun d => decide (0 < d.2)).map Prod.fst = L ++ [d.1]) := by rw [HJ.out, if_pos h0]; simp [Hid]
                obtain ⟨W5, hW5⟩ : ∃ W5, W5 = wr.alloc (.cells #[.int .u64 d.1.1.1, .int .u64 d.1.1.2.1, .int .u64 d.1.1.2.2, .int .i64 d.2] 54) := ⟨_, rfl⟩
                obtain ⟨nb, hnb⟩ : ∃ nb, nb = wr.heap.size := ⟨_, rfl⟩
                have G5 : Gr wr W5 := by rw [hW5]; exact (Gr.refl _).alloc _
                have hblk : W5.heap[nb]? = some (.cells #[.int .u64 d.1.1.1, .int .u64 d.1.1.2.1, .int .u64 d.1.1.2.2, .int .i64 d.2] 54 (0, 0)) := by rw [hW5, hnb]; exact heap_new' _ _
                have R6 := HI2.out.gr G5.drew
                have HR6 := hidN R6
                have hnr : ¬ (nb = cb ∨ vr2.ownBlock = some nb) := fun e => e.elim (fun e => by have := HI2.out.mu.ch.lt; omega) (fun e => by have := HI2.out.mu.ch.row _ e; omega)
                have hin := Cn.insert_any (bel := bel) (fst := tol) d.1 W5.drew R6.mu.ch hcl2 ahead_ok told_ok
                have q0 : W5.drew.cell? ⟨nb, 0, none⟩ = some (.int .u64 d.1.1.1) := by show W5.cell? _ = _; simp only [World.cell?]; rw [hblk]; rfl
                have q1 : W5.drew.cell? ⟨nb, 1, none⟩ = some (.int .u64 d.1.1.2.1) := by show W5.cell? _ = _; simp only [World.cell?]; rw [hblk]; rfl
                have q2 : W5.drew.cell? ⟨nb, 2, none⟩ = some (.int .u64 d.1.1.2.2) := by show W5.cell? _ = _; simp only [World.cell?]; rw [hblk]; rfl
                have q4 : nb < W5.drew.heap.size := (Array.getElem?_eq_some_iff.1 hblk).1
                have S9 : (W5.drew).cell? ⟨B0, 0, none⟩ = some (.pointer (some ⟨mb, 0, none⟩)) ∧ (W5.drew).cell? ⟨mb, 1, none⟩ = some (.pointer (some ⟨cb, 0, none⟩)) ∧ (W5.drew).cell? ⟨nb, 0, none⟩ = some (.int .u64 d.1.1.1) ∧ (W5.drew).cell? ⟨nb, 1, none⟩ = some (.int .u64 d.1.1.2.1) ∧ (W5.drew).cell? ⟨nb, 2, none⟩ = some (.int .u64 d.1.1.2.2) ∧ B0 < (W5.drew).heap.size ∧ mb < (W5.drew).heap.size ∧ nb < (W5.drew).heap.size := ⟨R6.b0, R6.mu.c1, q0, q1, q2, R6.bl, R6.mu.lt, q4⟩
                generalize hcn : cjoin bel tol FX L = F2 at *
                have HCN : Hid (cjoin bel tol FX (L ++ [d.1]) = cins bel tol F2 d.1) := by
                  show _ = _
                  rw [cjoin_append, hcn]; rfl
                clear hcn hblk G5 R6 q0 q1 q2 q4 S0
                generalize ccov bel F2 d.1 = r at hin
                go_wp2_with fail
                rw [← hW5, ← hnb]
                clear hW5 hnb x1 x2 x3 x4 z1
                go_region_held3 (fun w' => (w').cell? ⟨B0, 0, none⟩ = some (.pointer (some ⟨mb, 0, none⟩)) ∧ (w').cell? ⟨mb, 1, none⟩ = some (.pointer (some ⟨cb, 0, none⟩)) ∧ (w').cell? ⟨nb, 0, none⟩ = some (.int .u64 d.1.1.1) ∧ (w').cell? ⟨nb, 1, none⟩ = some (.int .u64 d.1.1.2.1) ∧ (w').cell? ⟨nb, 2, none⟩ = some (.int .u64 d.1.1.2.2) ∧ B0 < (w').heap.size ∧ mb < (w').heap.size ∧ nb < (w').heap.size)
                  (first | exact S9 | exact S10)
                  (first | (go_at_call 68; refine hin.mono ?_; rintro e w8 ⟨v8, rfl, hch8, ht8⟩; have R8 := HR6.out.turn ht8 hch8; have S10 : (w8).cell? ⟨B0, 0, none⟩ = some (.pointer (some ⟨mb, 0, none⟩)) ∧ (w8).cell? ⟨mb, 1, none⟩ = some (.pointer (some ⟨cb, 0, none⟩)) ∧ (w8).cell? ⟨nb, 0, none⟩ = some (.int .u64 d.1.1.1) ∧ (w8).cell? ⟨nb, 1, none⟩ = some (.int .u64 d.1.1.2.1) ∧ (w8).cell? ⟨nb, 2, none⟩ = some (.int .u64 d.1.1.2.2) ∧ B0 < (w8).heap.size ∧ mb < (w8).heap.size ∧ nb < (w8).heap.size := ⟨R8.b0, R8.mu.c1, (ht8.1.cell S9.2.2.2.2.2.2.2 hnr).trans S9.2.2.1, (ht8.1.cell S9.2.2.2.2.2.2.2 hnr).trans S9.2.2.2.1, (ht8.1.cell S9.2.2.2.2.2.2.2 hnr).trans S9.2.2.2.2.1, R8.bl, R8.mu.lt, Nat.lt_of_lt_of_le S9.2.2.2.2.2.2.2 ht8.1.size⟩))
                have HR8 := hidN R8
                clear R8 S10 ht8 hch8
                go_wp2
                go_roundw
                case rel =>
                  refine ⟨k + 1, v8, by omega, by go_num, ?_⟩
                  rw [HE.out, HCN.out]
                  exact HR8.out
                case measure => simp [RowKit.intOf]; omega
              · have HE : Hid (((us.take (k + 1)).filter fun d => decide (0 < d.2)).map Prod.fst = L) := by rw [HJ.out, if_neg h0]; simp [Hid]
                go_wp2
                go_roundw
                case rel =>
                  refine ⟨k + 1, vr2, by omega, by go_num, ?_⟩
                  rw [HE.out]
                  exact HI2.out.gr ((Gr.refl _).alloc _)
                case measure => simp [RowKit.intOf]; omega
            · have hltz2 : ¬ (k : Int) < (us.length : Int) := by omega
              obtain rfl : k = us.length := by omega
              rw [List.take_length] at HI2
              go_wp2
              go_end0
              obtain ⟨ks2, hS2, hX2⟩ := HX2.out
              refine ⟨rfl, vr2, _, ⟨ks2, hS2, ?_⟩, HI2.out.mu, HI2.out.tn⟩
              rw [cren, HFG.out]
              exact congrArg (fun z => cjoin bel tol z _) hX2.symm
        · have hFz : ¬ (F.length : Int) < (ks.length : Int) := by omega
          have HX : Hid (∃ ks, Sup f ks ∧ cback bel tol f (stT ks) F G ks.length = F) := ⟨ks, HS9.out, if_neg (fun h => by omega)⟩
          have S0 := S9
          obtain ⟨FX, hFX⟩ : ∃ FX, FX = F := ⟨_, rfl⟩
          have HX2 : Hid (∃ ks, Sup f ks ∧ cback bel tol f (stT ks) F G ks.length = FX) := by rw [hFX]; exact HX.out
          rw [← hFX] at HR9
          have hXl : FX.length ≤ fr.length + n := by rw [hFX]; exact by omega
          clear hFX HX
          go_wp2_with fail
          go_loopw [8, 64] (fun _ s64 wr => ∃ (k : Nat) (vr : Value), k ≤ us.length ∧ s64 = .int .i64 k ∧ Hid (Rn w wr B0 Bg mb tb b cb n v vr (.slice pg G.length cg) f (cjoin bel tol FX (((us.take k).filter fun d => decide (0 < d.2)).map Prod.fst)) G)) (fun _ s64 _ => us.length - (RowKit.intOf s64).toNat)
          case atStart => exact ⟨0, vr, Nat.zero_le _, rfl, by simpa [cjoin, Hid] using HR9.out⟩
          case round =>
            obtain ⟨k, vr2, hk, rfl, HI2⟩ := hrel
            by_cases hlt2 : k < us.length
            · have hltz2 : (k : Int) < (us.length : Int) := by omega
              obtain ⟨d, hd⟩ : ∃ d, us[k]? = some d := ⟨us[k], by simp⟩
              obtain ⟨b1, o1, c1, e1, z1, x1, x2, x3, x4⟩ := (HI2.out.at HU.out HAP.out).at4 hd
              simp only [Value.slice.injEq] at e1
              obtain ⟨rfl, -, rfl⟩ := e1
              have HJ : Hid (((us.take (k + 1)).filter fun d => decide (0 < d.2)).map Prod.fst = ((us.take k).filter fun d => decide (0 < d.2)).map Prod.fst ++ (if 0 < d.2 then [d.1] else [])) := by
                show _ = _
                rw [filter_take_succ hd, List.map_append]
                by_cases h0 : 0 < d.2 <;> simp [h0]
              have hFL : (((us.take k).filter fun d => decide (0 < d.2)).map Prod.fst).length ≤ k := by
                rw [List.length_map]
                exact Nat.le_trans (List.length_filter_le _ _) (by rw [List.length_take]; omega)
              clear hd
              generalize ((us.take k).filter fun d => decide (0 < d.2)).map Prod.fst = L at *
              have hcl2 : ((cjoin bel tol FX L).length + 1) * 24 ≤ 140737488355328 := by
                have := cjoin_length (bel := bel) (fst := tol) FX L
                exact mul24 (by omega) hl
              by_cases h0 : 0 < d.2
              · have HE : Hid (((us.take (k + 1)).filter fun d => decide (0 < d.2)).map Prod.fst = L ++ [d.1]) := by rw [HJ.out, if_pos h0]; simp [Hid]
                obtain ⟨W5, hW5⟩ : ∃ W5, W5 = wr.alloc (.cells #[.int .u64 d.1.1.1, .int .u64 d.1.1.2.1, .int .u64 d.1.1.2.2, .int .i64 d.2] 54) := ⟨_, rfl⟩
                obtain ⟨nb, hnb⟩ : ∃ nb, nb = wr.heap.size := ⟨_, rfl⟩
                have G5 : Gr wr W5 := by rw [hW5]; exact (Gr.refl _).alloc _
                have hblk : W5.heap[nb]? = some (.cells #[.int .u64 d.1.1.1, .int .u64 d.1.1.2.1, .int .u64 d.1.1.2.2, .int .i64 d.2] 54 (0, 0)) := by rw [hW5, hnb]; exact heap_new' _ _
                have R6 := HI2.out.gr G5.drew
                have HR6 := hidN R6
                have hnr : ¬ (nb = cb ∨ vr2.ownBlock = some nb) := fun e => e.elim (fun e => by have := HI2.out.mu.ch.lt; omega) (fun e => by have := HI2.out.mu.ch.row _ e; omega)
                have hin := Cn.insert_any (bel := bel) (fst := tol) d.1 W5.drew R6.mu.ch hcl2 ahead_ok told_ok
                have q0 : W5.drew.cell? ⟨nb, 0, none⟩ = some (.int .u64 d.1.1.1) := by show W5.cell? _ = _; simp only [World.cell?]; rw [hblk]; rfl
                have q1 : W5.drew.cell? ⟨nb, 1, none⟩ = some (.int .u64 d.1.1.2.1) := by show W5.cell? _ = _; simp only [World.cell?]; rw [hblk]; rfl
                have q2 : W5.drew.cell? ⟨nb, 2, none⟩ = some (.int .u64 d.1.1.2.2) := by show W5.cell? _ = _; simp only [World.cell?]; rw [hblk]; rfl
                have q4 : nb < W5.drew.heap.size := (Array.getElem?_eq_some_iff.1 hblk).1
                have S9 : (W5.drew).cell? ⟨B0, 0, none⟩ = some (.pointer (some ⟨mb, 0, none⟩)) ∧ (W5.drew).cell? ⟨mb, 1, none⟩ = some (.pointer (some ⟨cb, 0, none⟩)) ∧ (W5.drew).cell? ⟨nb, 0, none⟩ = some (.int .u64 d.1.1.1) ∧ (W5.drew).cell? ⟨nb, 1, none⟩ = some (.int .u64 d.1.1.2.1) ∧ (W5.drew).cell? ⟨nb, 2, none⟩ = some (.int .u64 d.1.1.2.2) ∧ B0 < (W5.drew).heap.size ∧ mb < (W5.drew).heap.size ∧ nb < (W5.drew).heap.size := ⟨R6.b0, R6.mu.c1, q0, q1, q2, R6.bl, R6.mu.lt, q4⟩
                generalize hcn : cjoin bel tol FX L = F2 at *
                have HCN : Hid (cjoin bel tol FX (L ++ [d.1]) = cins bel tol F2 d.1) := by
                  show _ = _
                  rw [cjoin_append, hcn]; rfl
                clear hcn hblk G5 R6 q0 q1 q2 q4 S0
                generalize ccov bel F2 d.1 = r at hin
                go_wp2_with fail
                rw [← hW5, ← hnb]
                clear hW5 hnb x1 x2 x3 x4 z1
                go_region_held3 (fun w' => (w').cell? ⟨B0, 0, none⟩ = some (.pointer (some ⟨mb, 0, none⟩)) ∧ (w').cell? ⟨mb, 1, none⟩ = some (.pointer (some ⟨cb, 0, none⟩)) ∧ (w').cell? ⟨nb, 0, none⟩ = some (.int .u64 d.1.1.1) ∧ (w').cell? ⟨nb, 1, none⟩ = some (.int .u64 d.1.1.2.1) ∧ (w').cell? ⟨nb, 2, none⟩ = some (.int .u64 d.1.1.2.2) ∧ B0 < (w').heap.size ∧ mb < (w').heap.size ∧ nb < (w').heap.size)
                  (first | exact S9 | exact S10)
                  (first | (go_at_call 68; refine hin.mono ?_; rintro e w8 ⟨v8, rfl, hch8, ht8⟩; have R8 := HR6.out.turn ht8 hch8; have S10 : (w8).cell? ⟨B0, 0, none⟩ = some (.pointer (some ⟨mb, 0, none⟩)) ∧ (w8).cell? ⟨mb, 1, none⟩ = some (.pointer (some ⟨cb, 0, none⟩)) ∧ (w8).cell? ⟨nb, 0, none⟩ = some (.int .u64 d.1.1.1) ∧ (w8).cell? ⟨nb, 1, none⟩ = some (.int .u64 d.1.1.2.1) ∧ (w8).cell? ⟨nb, 2, none⟩ = some (.int .u64 d.1.1.2.2) ∧ B0 < (w8).heap.size ∧ mb < (w8).heap.size ∧ nb < (w8).heap.size := ⟨R8.b0, R8.mu.c1, (ht8.1.cell S9.2.2.2.2.2.2.2 hnr).trans S9.2.2.1, (ht8.1.cell S9.2.2.2.2.2.2.2 hnr).trans S9.2.2.2.1, (ht8.1.cell S9.2.2.2.2.2.2.2 hnr).trans S9.2.2.2.2.1, R8.bl, R8.mu.lt, Nat.lt_of_lt_of_le S9.2.2.2.2.2.2.2 ht8.1.size⟩))
                have HR8 := hidN R8
                clear R8 S10 ht8 hch8
                go_wp2
                go_roundw
                case rel =>
                  refine ⟨k + 1, v8, by omega, by go_num, ?_⟩
                  rw [HE.out, HCN.out]
                  exact HR8.out
                case measure => simp [RowKit.intOf]; omega
              · have HE : Hid (((us.take (k + 1)).filter fun d => decide (0 < d.2)).map Prod.fst = L) := by rw [HJ.out, if_neg h0]; simp [Hid]
                go_wp2
                go_roundw
                case rel =>
                  refine ⟨k + 1, vr2, by omega, by go_num, ?_⟩
                  rw [HE.out]
                  exact HI2.out.gr ((Gr.refl _).alloc _)
                case measure => simp [RowKit.intOf]; omega
            · have hltz2 : ¬ (k : Int) < (us.length : Int) := by omega
              obtain rfl : k = us.length := by omega
              rw [List.take_length] at HI2
              go_wp2
              go_end0
              obtain ⟨ks2, hS2, hX2⟩ := HX2.out
              refine ⟨rfl, vr2, _, ⟨ks2, hS2, ?_⟩, HI2.out.mu, HI2.out.tn⟩
              rw [cren, HFG.out]
              exact congrArg (fun z => cjoin bel tol z _) hX2.symm
end Go.Proofs.YtnpmmodcmfgbjaaGreat
