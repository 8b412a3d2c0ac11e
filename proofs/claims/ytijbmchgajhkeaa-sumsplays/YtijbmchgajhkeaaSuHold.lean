import Derived.Test.YtijbmchgajhkeaaSuFu
import Derived.Test.YtijbmchgajhkeaaLHold
import Derived.BigQuiet
import Derived.Deep.QuietTactic
namespace Go.Proofs.Ytijbmchgajhkeaa
open Go.RowKit Go.Sort Go.Maps Go.Shelf
open Tt (Tl)
attribute [local go_sem ↓] Go.wp_at_zero Go.wp_at_succ

theorem bx_cell {w : World} {b : Nat} {x : Tm} (h : w.heap[b]? = some (.cells #[.int .u64 x.1.1, .int .u64 x.1.2.1, .int .u64 x.1.2.2] 32 (0, 0))) : w.cell? ⟨b, 0, none⟩ = some (.int .u64 x.1.1) ∧ w.cell? ⟨b, 1, none⟩ = some (.int .u64 x.1.2.1) ∧ w.cell? ⟨b, 2, none⟩ = some (.int .u64 x.1.2.2) ∧ b < w.heap.size := by
  refine ⟨?_, ?_, ?_, (Array.getElem?_eq_some_iff.1 h).1⟩ <;> simp [World.cell?, h]
theorem drewN_below (w : World) (m : Nat) : Below w.heap.size w (w.drewN m) := ((Gr.refl w).drewN m).below
theorem blk_ne {w : World} {b c : Nat} {o p : Obj} (h1 : w.heap[b]? = some o) (h2 : w.heap[c]? = some p) (hne : o ≠ p) : b ≠ c := fun e => hne (by rw [e, h2] at h1; exact (Option.some.inj h1).symm)
theorem nw_in {S : Nat → Prop} {w : World} {k : Nat} (h : nw S w k) (hk : k < w.heap.size) : S k := h.elim (·.1) fun h => absurd hk (Nat.not_lt.2 h)
theorem setCell_blk {w : World} {tb k : Nat} {cs : Array Value} {t : TypeId} {v : Value} (h : w.heap[tb]? = some (.cells cs t (0, 0))) :
    (w.setCell ⟨tb, k, none⟩ v).heap[tb]? = some (.cells (cs.setIfInBounds k v) t (0, 0)) ∧ Kp (fun k => k = tb) w (w.setCell ⟨tb, k, none⟩ v) ∧ (w.setCell ⟨tb, k, none⟩ v).heap.size = w.heap.size := by
  have e := setCell_eq_setRow w tb k _ _ _ v h
  have hz : (w.setCell ⟨tb, k, none⟩ v).heap.size = w.heap.size := by rw [e]; simp [World.setRow]
  refine ⟨?_, ?_, hz⟩
  · rw [e, setRow_heap _ tb _ _ _ _ h]
  · rw [e]
    exact ⟨rfl, rfl, rfl, by simp [World.setRow], fun k _ hne => setRow_other _ tb k _ (by omega)⟩
/-- Two new maps in a Sums' block. -/
theorem em_full {U : World} {S : Nat → Prop} {N sb : Nat} {o : Option Nat} (h : U.heap[sb]? = some (.cells #[.map none, .map o] 67 (0, 0))) (hs : S sb) (hn : ∀ k, U.heap.size ≤ k → S k) (B : Tm → Nat) :
    Fu ((((U.setCell ⟨sb, 0, none⟩ (.map (some U.heap.size))).setCell ⟨sb, 1, none⟩ (.map (some (U.heap.size + 1)))).alloc (.map #[] 0)).alloc (.map #[] 0)) S N sb U.heap.size (U.heap.size + 1) (fun s => (sm [] s).1) (Has []) (fun _ => none) B (gA []) ∧
    Kp (fun k => k = sb) U ((((U.setCell ⟨sb, 0, none⟩ (.map (some U.heap.size))).setCell ⟨sb, 1, none⟩ (.map (some (U.heap.size + 1)))).alloc (.map #[] 0)).alloc (.map #[] 0)) := by
  obtain ⟨a1, a2, a3⟩ := setCell_blk (k := 0) (v := .map (some U.heap.size)) h
  obtain ⟨b1, b2, b3⟩ := setCell_blk (k := 1) (v := .map (some (U.heap.size + 1))) a1
  generalize (U.setCell ⟨sb, 0, none⟩ (.map (some U.heap.size))).setCell ⟨sb, 1, none⟩ (.map (some (U.heap.size + 1))) = V at b1 b2 b3 ⊢
  have hz : V.heap.size = U.heap.size := b3.trans a3
  have hlt : sb < V.heap.size := (Array.getElem?_eq_some_iff.1 b1).1
  have hm := Mw.made (Z := ZX) (e := 30) V
  have hp := Mp.made (Z := ZT) (V.alloc (.map #[] 0))
  rw [hz] at hm
  rw [World.size_alloc, hz] at hp
  refine ⟨⟨?_, hs, hn _ (Nat.le_refl _), hn _ (Nat.le_succ _), by omega, ?_, hp.mono (Nat.zero_le _), fun t q e => (by cases e), fun t q e => (by cases e), fun t u q r e => (by cases e)⟩, ?_⟩
  · rw [Below.heap_alloc _ _ _ (by simp; omega), Below.heap_alloc _ _ _ hlt, b1]
    rfl
  · refine ((hm.kept (Below.heap_alloc _ _ _ (by simp; omega))).mono (Nat.zero_le _)).re (fun s => rfl) (fun s => ⟨False.elim, fun ⟨c, hc, _⟩ => by cases hc⟩)
  · exact (a2.trans b2 (fun _ _ h => h)).trans (Kp.of_gr (S := fun _ => False) (((Gr.refl V).alloc _).alloc _)) (fun _ _ h => h.elim)
/-- What hold leaves. -/
def Hd (w : World) (S : Nat → Prop) (N sb : Nat) (A : List Ct) (x : Tm) (w' : World) : Prop := ∃ mb kb T B, Fu w' (nw S w) (N + 1) sb mb kb (fun s => (sm A s).1) (Has A) T B (gA A) ∧ (∀ u, (T u).isSome = true ↔ (Hld A u ∨ u = x)) ∧ Kp S w w'
theorem ga_none {A : List Ct} {x : Tm} (h : ¬ Hld A x) : gA A x = fun _ => 0 := by
  funext k
  unfold gA
  exact if_neg fun hh => h hh.hld
set_option maxHeartbeats 4000000 in
set_option maxRecDepth 100000 in
theorem hold_any {S : Nat → Prop} {N sb : Nat} {A : List Ct} (x : Tm) (w : World) (h : Su w S N sb A) (hN : N < 1000000000) :
    Calls Try.prog 32 #[.pointer (some ⟨sb, 0, none⟩), tv x] w fun e w' => e = .returned (.bool (!decide (Hld A x))) ∧ Hid (Hd w S N sb A x w') := by
  have hmx : Try.prog.follows .mixedOrders = true := by kernel_rfl
  obtain ⟨W1, hW1⟩ : ∃ W1, W1 = w.alloc (.cells #[.int .u64 x.1.1, .int .u64 x.1.2.1, .int .u64 x.1.2.2] 32) := ⟨_, rfl⟩
  obtain ⟨b1, hb1⟩ : ∃ b1, b1 = w.heap.size := ⟨_, rfl⟩
  have G1 : Gr w W1 := by rw [hW1]; exact (Gr.refl _).alloc _
  have hx1 : W1.heap[b1]? = some (.cells #[.int .u64 x.1.1, .int .u64 x.1.2.1, .int .u64 x.1.2.2] 32 (0, 0)) := by rw [hW1, hb1]; exact heap_new' _ _
  have HX1 := hid hx1
  obtain ⟨q0, q1, q2, q3⟩ := bx_cell hx1
  have HG := hid G1
  have hsb := Nat.lt_of_lt_of_le h.lt G1.size
  rcases h with ⟨rfl, o, hE1, hE2, hE3⟩ | ⟨mb, kb, T, B, hF, hT⟩
  · have hnh : ¬ Hld ([] : List Ct) x := fun ⟨c, hc, _⟩ => by cases hc
    have HDC : Hid ((!decide (Hld ([] : List Ct) x)) = true) := by rw [decide_eq_false hnh]; rfl
    have HGa : Hid (gA [] x = fun _ => 0) := ga_none hnh
    clear hnh
    have hE1lt := (Array.getElem?_eq_some_iff.1 hE1).1
    have hblk1 := (G1.below.block sb hE1lt).trans hE1
    have c0 : W1.cell? ⟨sb, 0, none⟩ = some (.map none) := by simp [World.cell?, hblk1]
    have c1 : W1.cell? ⟨sb, 1, none⟩ = some (.map o) := by simp [World.cell?, hblk1]
    have fz0 : W1.frozen? ⟨sb, 0, none⟩ = false := by simp [World.frozen?, hblk1]
    have fz1 : W1.frozen? ⟨sb, 1, none⟩ = false := by simp [World.frozen?, hblk1]
    have hlk : ∀ m, (Instr.lookup 63 (.map o) (tv x) false).run Try.prog (W1.drewN m) = .ok (.pointer none) (W1.drewN m) := fun m => by
      cases o with
      | none => exact Maps.look_nil false ZT.law Try.underlying63 (zeroP _) (ZT.key x)
      | some kb => exact ((hE3 kb rfl).2.kept (((G1.drewN m).below).block kb (hE3 kb rfl).2.lt)).look (t := 63) Try.underlying63 zeroP x
    have hq := fun w => run_eql_map_nil_sl (P := Try.prog) w 65 _ _ none Try.underlying65
    have hmm := @run_makeMap Try.prog
    have HE2 := hid hE2
    have HB := hid hblk1
    have hn1 : sb ≠ b1 := by rw [hb1]; exact Nat.ne_of_lt hE1lt
    clear hE1 hE3 hblk1 hx1
    go_enter Try.func32, Try.ntmps32
    go_wp2_with fail
    rw [← hW1, ← hb1]
    clear hW1 hb1
    go_quiet (fail)
    obtain ⟨U, hU⟩ : ∃ U, U = W1.drewN nq := ⟨_, rfl⟩
    rw [← hU]
    have GU : Gr w U := by rw [hU]; exact HG.out.drewN nq
    have HBU : Hid (U.heap[sb]? = some (.cells #[.map none, .map o] 67 (0, 0))) := by rw [hU]; exact HB.out
    have HXU : Hid (U.heap[b1]? = some (.cells #[.int .u64 x.1.1, .int .u64 x.1.2.1, .int .u64 x.1.2.2] 32 (0, 0))) := by rw [hU]; exact HX1.out
    have hsU : sb < U.heap.size := by rw [hU]; exact hsb
    have c0 : U.cell? ⟨sb, 0, none⟩ = some (.map none) := by rw [hU]; exact c0
    have c1 : U.cell? ⟨sb, 1, none⟩ = some (.map o) := by rw [hU]; exact c1
    have fz0 : U.frozen? ⟨sb, 0, none⟩ = false := by rw [hU]; exact fz0
    have fz1 : U.frozen? ⟨sb, 1, none⟩ = false := by rw [hU]; exact fz1
    clear hU hlk q0 q1 q2 q3 hsb
    go_upto_region 5 with fail
    have hWs0 := GU.size
    obtain ⟨hFV, hKV⟩ := em_full (S := nw S w) (N := N) HBU.out (.inl ⟨HE2.out, hE1lt⟩) (fun k hk => .inr (Nat.le_trans hWs0 hk)) (fun _ => 0)
    obtain ⟨V, hV⟩ : ∃ V, V = ((((U.setCell ⟨sb, 0, none⟩ (.map (some U.heap.size))).setCell ⟨sb, 1, none⟩ (.map (some (U.heap.size + 1)))).alloc (.map #[] 0)).alloc (.map #[] 0)) := ⟨_, rfl⟩
    rw [← hV] at hFV hKV ⊢
    obtain ⟨mb, hmb⟩ : ∃ mb, mb = U.heap.size := ⟨_, rfl⟩
    obtain ⟨kb, hkb⟩ : ∃ kb, kb = U.heap.size + 1 := ⟨_, rfl⟩
    rw [← hkb, ← hmb] at hFV
    rw [← hkb, ← hmb]
    have HF := hid hFV
    have HXW : Hid (V.heap[b1]? = some (.cells #[.int .u64 x.1.1, .int .u64 x.1.2.1, .int .u64 x.1.2.2] 32 (0, 0))) := (hKV.block b1 (Array.getElem?_eq_some_iff.1 HXU.out).1 (Ne.symm hn1)).trans HXU.out
    have HKU : Hid (Kp S w V) := (Kp.of_gr GU).trans hKV (fun k _ e => e ▸ HE2.out)
    have hWs : w.heap.size ≤ V.heap.size := HKU.out.size
    have HT : Hid (∀ u : Tm, ((fun _ => none : Tm → Option Nat) u).isSome = true ↔ Hld ([] : List Ct) u) := fun u => ⟨fun h => (by cases h), fun ⟨c, hc, _⟩ => (by cases hc)⟩
    obtain ⟨T, hT⟩ : ∃ T : Tm → Option Nat, T = fun _ => none := ⟨_, rfl⟩
    obtain ⟨B, hB⟩ : ∃ B : Tm → Nat, B = fun _ => 0 := ⟨_, rfl⟩
    rw [← hT] at HF HT
    rw [← hB] at HF
    clear hV hmb hkb hT hB c0 c1 fz0 fz1 hsU hFV hKV HBU HXU hq hmm GU HB
    have hxw := HXW.out
    obtain ⟨y0, y1, y2, y3⟩ := bx_cell hxw
    have hsW := HF.out.lt
    have hS0 : (fun X : World => X.cell? ⟨sb, 1, none⟩ = some (.map (some kb)) ∧ sb < X.heap.size ∧ X.cell? ⟨b1, 0, none⟩ = some (.int .u64 x.1.1) ∧ X.cell? ⟨b1, 1, none⟩ = some (.int .u64 x.1.2.1) ∧ X.cell? ⟨b1, 2, none⟩ = some (.int .u64 x.1.2.2)) V.drew := ⟨HF.out.c1, hsW, y0, y1, y2⟩
    have HFD : Hid (Fu V.drew (nw S w) N sb mb kb _ _ T B (gA _)) := HF.out.below ((Gr.refl _).drew).below
    clear hxw
    go_wp2_with fail
    refine wp_regionD (S := fun X : World => X.cell? ⟨sb, 1, none⟩ = some (.map (some kb)) ∧ sb < X.heap.size ∧ X.cell? ⟨b1, 0, none⟩ = some (.int .u64 x.1.1) ∧ X.cell? ⟨b1, 1, none⟩ = some (.int .u64 x.1.2.1) ∧ X.cell? ⟨b1, 2, none⟩ = some (.int .u64 x.1.2.2)) (D := []) hmx ?_
    refine' wpAnyD_take (i := 0) (oi := { dst := some 25, op := Go.Op.move (Go.Operand.tmp 0), type := 24, pos := "sums.go:93", after := #[], guard := none }) (v := _) rfl (by kernel_rfl) (by kernel_rfl) (by kernel_rfl) (fun _ _ _ h => h) (by kernel_rfl) (Or.inl ⟨by rfl, ?hy1⟩) hS0 ?rest1
    case hy1 => (intro W hSw; go_simp; try (with_reducible rfl))
    try simp only [Act.put, List.setIfInBounds_toArray, List.set_cons_zero, List.set_cons_succ]
    refine' wpAnyD_take (i := 1) (oi := { dst := some 26, op := Go.Op.nilCheck (Go.Operand.tmp 25), type := 0, pos := "sums.go:93", after := #[{ on := 0, ground := Go.Ground.data }], guard := none }) (v := _) rfl (by kernel_rfl) (by kernel_rfl) (by kernel_rfl) (fun _ _ _ h => h) (by kernel_rfl) (Or.inl ⟨by rfl, ?hy2⟩) hS0 ?rest2
    case hy2 => (intro W hSw; obtain ⟨s1, s2, s3, s4, s5⟩ := hSw; go_simp; try (with_reducible rfl))
    try simp only [Act.put, List.setIfInBounds_toArray, List.set_cons_zero, List.set_cons_succ]
    refine' wpAnyD_take (i := 2) (oi := { dst := some 27, op := Go.Op.fieldAddr 67 (Go.Operand.tmp 26) 1, type := 0, pos := "sums.go:93", after := #[{ on := 1, ground := Go.Ground.data }], guard := none }) (v := _) rfl (by kernel_rfl) (by kernel_rfl) (by kernel_rfl) (fun _ _ _ h => h) (by kernel_rfl) (Or.inl ⟨by rfl, ?hy3⟩) hS0 ?rest3
    case hy3 => (intro W hSw; go_simp; try (with_reducible rfl))
    try simp only [Act.put, List.setIfInBounds_toArray, List.set_cons_zero, List.set_cons_succ]
    refine' wpAnyD_take (i := 3) (oi := { dst := some 28, op := Go.Op.load 63 (Go.Operand.tmp 27), type := 63, pos := "sums.go:93", after := #[{ on := 2, ground := Go.Ground.data }], guard := none }) (v := _) rfl (by kernel_rfl) (by kernel_rfl) (by kernel_rfl) (fun _ _ _ h => h) (by kernel_rfl) (Or.inl ⟨by rfl, ?hy4⟩) hS0 ?rest4
    case hy4 => (intro W hSw; obtain ⟨s1, s2, s3, s4, s5⟩ := hSw; go_simp; try (with_reducible rfl))
    try simp only [Act.put, List.setIfInBounds_toArray, List.set_cons_zero, List.set_cons_succ]
    refine' wpAnyD_take (i := 4) (oi := { dst := some 29, op := Go.Op.load 32 (Go.Operand.tmp 3), type := 32, pos := "sums.go:93", after := #[], guard := none }) (v := _) rfl (by kernel_rfl) (by kernel_rfl) (by kernel_rfl) (fun _ _ _ h => h) (by kernel_rfl) (Or.inl ⟨by rfl, ?hy5⟩) hS0 ?rest5
    case hy5 => (intro W hSw; obtain ⟨s1, s2, s3, s4, s5⟩ := hSw; go_simp; try (with_reducible rfl))
    try simp only [Act.put, List.setIfInBounds_toArray, List.set_cons_zero, List.set_cons_succ]
    refine wpAnyD_one (i := 5) (o := { dst := some 30, op := Go.Op.call { callee := Go.Callee.value (Go.Operand.func 51), args := #[Go.Operand.func 42], argTypes := #[88] }, type := 64, pos := "sums.go:93", after := #[], guard := none }) (by kernel_rfl) rfl (fun K hK => ?_)
    rw [if_pos (by kernel_rfl)]
    go_simp
    refine (Tt.new_any 42 V.drew).mono ?_
    rintro e W5 ⟨rfl, ht5, hg5⟩
    have HF5 : Hid (Fu W5 (nw S w) N sb mb kb _ _ T B (gA _)) := HFD.out.below hg5.below
    have hx5 := (hg5.below.block b1 (show b1 < V.drew.heap.size from y3)).trans HXW.out
    have hS5 : (fun X : World => X.cell? ⟨sb, 1, none⟩ = some (.map (some kb)) ∧ sb < X.heap.size ∧ X.cell? ⟨b1, 0, none⟩ = some (.int .u64 x.1.1) ∧ X.cell? ⟨b1, 1, none⟩ = some (.int .u64 x.1.2.1) ∧ X.cell? ⟨b1, 2, none⟩ = some (.int .u64 x.1.2.2)) W5 := ⟨HF5.out.c1, HF5.out.lt, (bx_cell hx5).1, (bx_cell hx5).2.1, (bx_cell hx5).2.2.1⟩
    have HT5 := hid ht5
    have HG5 := hid hg5
    have HX5 := hid hx5
    clear ht5 hg5 hx5
    go_wp2_with fail
    refine hK.out _ _ (fun hD => hS5) ?_
    clear hK K
    try simp only [Act.put, List.setIfInBounds_toArray, List.set_cons_zero, List.set_cons_succ]
    refine wpAnyD_one (i := 6) (o := { dst := none, op := Go.Op.mapUpdate 63 (Go.Operand.tmp 28) (Go.Operand.tmp 29) (Go.Operand.tmp 30), type := 0, pos := "sums.go:93", after := #[{ on := 3, ground := Go.Ground.data }, { on := 4, ground := Go.Ground.data }, { on := 5, ground := Go.Ground.data }, { on := 5, ground := Go.Ground.chain }, { on := 0, ground := Go.Ground.phase }, { on := 1, ground := Go.Ground.phase }, { on := 2, ground := Go.Ground.phase }, { on := 3, ground := Go.Ground.phase }, { on := 4, ground := Go.Ground.phase }, { on := 5, ground := Go.Ground.phase }], guard := none }) (by kernel_rfl) rfl (fun K hK => ?_)
    rw [if_pos (by kernel_rfl)]
    obtain ⟨W6, hrun, hM6, hgb⟩ := HF5.out.mp.store (t := 63) Try.underlying63 (by unfold maxLen; omega) x (V.drew.heap.size + 1)
    have hrun : (Instr.mapUpdate 63 (.map (some kb)) (tv x) (.pointer (some ⟨V.heap.size + 1, 0, none⟩))).run Try.prog W5 = .ok () W6 := hrun
    have k6 : Kp (fun k => k = kb) W5 W6 := Kp.grownBy hgb (fun k hk => by simpa using hk.symm)
    have nkb : b1 ≠ kb := by
      obtain ⟨es, cl, hk⟩ := HF5.out.mp.blk
      exact blk_ne HX5.out hk (by simp)
    have hx6 := (k6.block b1 (Array.getElem?_eq_some_iff.1 HX5.out).1 nkb).trans HX5.out
    have hS6 : (fun X : World => X.cell? ⟨sb, 1, none⟩ = some (.map (some kb)) ∧ sb < X.heap.size ∧ X.cell? ⟨b1, 0, none⟩ = some (.int .u64 x.1.1) ∧ X.cell? ⟨b1, 1, none⟩ = some (.int .u64 x.1.2.1) ∧ X.cell? ⟨b1, 2, none⟩ = some (.int .u64 x.1.2.2)) W6 := ⟨(k6.cell HF5.out.lt HF5.out.nk).trans HF5.out.c1, Nat.lt_of_lt_of_le HF5.out.lt k6.size, (bx_cell hx6).1, (bx_cell hx6).2.1, (bx_cell hx6).2.2.1⟩
    go_simp
    refine hK.out _ _ (fun hD => hS6) ?_
    clear hK K
    try simp only [Act.put, List.setIfInBounds_toArray, List.set_cons_zero, List.set_cons_succ]
    refine wpAnyD_done (by kernel_rfl) ?_ _
    have HFin : Hid (Hd w S N sb [] x W6) := by
      have hb5 : V.drew.heap.size = V.heap.size := rfl
      have hFe := HFD.out.cut
      have hnB : ∀ t r, T t = some r → B t ≠ V.heap.size := fun t r hr e => by
        have := (hFe.ok t r hr).2.1.2
        omega
      have hF6 := (HF5.out.mono (Nat.le_succ N)).putK (x := x) (q := V.heap.size + 1) (b := V.heap.size) k6 hM6 (by rw [HGa.out]; exact HT5.out.mono (Nat.zero_le _)) (.inr (by have := hWs; omega)) (.inr (by have := hWs; omega)) (fun e => by have := HFD.out.mw.lt; omega) (fun e => by have := HFD.out.mp.lt; omega) hnB
      refine ⟨mb, kb, _, _, hF6, fun u => ?_, ?_⟩
      · by_cases e : u = x
        · rw [e, updP_same]; simp
        · rw [updP_other _ _ e, HT.out u]; simp [e]
      · exact (HKU.out.trans ((Kp.of_gr ((Gr.refl V).drew.trans HG5.out)).trans (T := fun k => k = kb) k6 (fun k _ e => e)) (fun k hk e => nw_in (e ▸ HFD.out.ik) hk))
    clear hrun hM6 hgb k6 HF5 HT5 HG5 HX5 hS5 hS6 hx6 HFD HF HXW
    go_wp2
    go_ret
    exact ⟨by rw [HDC.out]; rfl, HFin.out⟩
  · have hF1 := hF.below G1.below
    have HFT := hid hF1
    have hT0 := hT x
    have HT := hid hT
    have c0 := hF1.c0
    have c1 := hF1.c1
    by_cases hx : Hld A x
    · have HDC : Hid ((!decide (Hld A x)) = false) := by rw [decide_eq_true hx]; rfl
      obtain ⟨q, hq⟩ : ∃ q, T x = some q := Option.isSome_iff_exists.1 (hT0.2 hx)
      have HHX := hid hx
      have hlk : ∀ m, (Instr.lookup 63 (.map (some kb)) (tv x) false).run Try.prog (W1.drewN m) = .ok (.pointer (some ⟨q, 0, none⟩)) (W1.drewN m) := fun m => by
        have := (HFT.out.below (drewN_below W1 m)).mp.look (t := 63) Try.underlying63 zeroP x
        rw [hq] at this
        exact this
      have HFin : Hid (∀ m, Hd w S N sb A x (W1.drewN m)) := fun m => ⟨mb, kb, T, B, (((HFT.out.below (drewN_below W1 m)).mono (Nat.le_succ N)).cut.wide fun k hk => by
          unfold nw
          by_cases e : k < w.heap.size
          · exact .inl ⟨hk.1, e⟩
          · exact .inr (Nat.le_of_not_lt e)), fun u => (hT u).trans ⟨.inl, fun h => h.elim id fun e => e ▸ HHX.out⟩, Kp.of_gr (HG.out.drewN m)⟩
      clear hF hT hT0 hx hq hF1 hx1
      go_enter Try.func32, Try.ntmps32
      go_wp2_with fail
      rw [← hW1, ← hb1]
      clear hW1 hb1
      go_quiet (fail)
      go_wp2
      go_ret
      exact ⟨by rw [HDC.out]; rfl, HFin.out _⟩
    · have HDC : Hid ((!decide (Hld A x)) = true) := by rw [decide_eq_false hx]; rfl
      have hTx : T x = none := by
        cases hq : T x with
        | none => rfl
        | some q => exact absurd (hT0.1 (by rw [hq]; rfl)) hx
      have HGa : Hid (gA A x = fun _ => 0) := ga_none hx
      have hlk : ∀ m, (Instr.lookup 63 (.map (some kb)) (tv x) false).run Try.prog (W1.drewN m) = .ok (.pointer none) (W1.drewN m) := fun m => by
        have := (HFT.out.below (drewN_below W1 m)).mp.look (t := 63) Try.underlying63 zeroP x
        rw [hTx] at this
        exact this
      have hq := fun w => run_eql_map_nil_sl (P := Try.prog) w 65 _ _ (some mb) Try.underlying65
      clear hF hT hT0 hx hF1 hx1 hTx
      go_enter Try.func32, Try.ntmps32
      go_wp2_with fail
      rw [← hW1, ← hb1]
      clear hW1 hb1
      go_quiet (fail)
      go_upto_region 5 with fail
      obtain ⟨U, hU⟩ : ∃ U, U = W1.drewN nq := ⟨_, rfl⟩
      rw [← hU]
      have GU : Gr w U := by rw [hU]; exact HG.out.drewN nq
      have hWs := GU.size
      have HF : Hid (Fu U (nw S w) N sb mb kb (fun s => (sm A s).1) (Has A) T B (gA A)) := by
        rw [hU]
        exact (HFT.out.below (drewN_below W1 nq)).cut.wide fun k hk => by
          unfold nw
          by_cases e : k < w.heap.size
          · exact .inl ⟨hk.1, e⟩
          · exact .inr (Nat.le_of_not_lt e)
      have HXW : Hid (U.heap[b1]? = some (.cells #[.int .u64 x.1.1, .int .u64 x.1.2.1, .int .u64 x.1.2.2] 32 (0, 0))) := by rw [hU]; exact HX1.out
      have HKU : Hid (Kp S w U) := Kp.of_gr GU
      clear hU q0 q1 q2 q3 hsb c0 c1 hlk hq HFT HX1 GU
      have hxw := HXW.out
      obtain ⟨y0, y1, y2, y3⟩ := bx_cell hxw
      have hsW := HF.out.lt
      have hS0 : (fun X : World => X.cell? ⟨sb, 1, none⟩ = some (.map (some kb)) ∧ sb < X.heap.size ∧ X.cell? ⟨b1, 0, none⟩ = some (.int .u64 x.1.1) ∧ X.cell? ⟨b1, 1, none⟩ = some (.int .u64 x.1.2.1) ∧ X.cell? ⟨b1, 2, none⟩ = some (.int .u64 x.1.2.2)) U.drew := ⟨HF.out.c1, hsW, y0, y1, y2⟩
      have HFD : Hid (Fu U.drew (nw S w) N sb mb kb _ _ T B (gA _)) := HF.out.below ((Gr.refl _).drew).below
      clear hxw
      go_wp2_with fail
      refine wp_regionD (S := fun X : World => X.cell? ⟨sb, 1, none⟩ = some (.map (some kb)) ∧ sb < X.heap.size ∧ X.cell? ⟨b1, 0, none⟩ = some (.int .u64 x.1.1) ∧ X.cell? ⟨b1, 1, none⟩ = some (.int .u64 x.1.2.1) ∧ X.cell? ⟨b1, 2, none⟩ = some (.int .u64 x.1.2.2)) (D := []) hmx ?_
      refine' wpAnyD_take (i := 0) (oi := { dst := some 25, op := Go.Op.move (Go.Operand.tmp 0), type := 24, pos := "sums.go:93", after := #[], guard := none }) (v := _) rfl (by kernel_rfl) (by kernel_rfl) (by kernel_rfl) (fun _ _ _ h => h) (by kernel_rfl) (Or.inl ⟨by rfl, ?hy8⟩) hS0 ?rest8
      case hy8 => (intro W hSw; go_simp; try (with_reducible rfl))
      try simp only [Act.put, List.setIfInBounds_toArray, List.set_cons_zero, List.set_cons_succ]
      refine' wpAnyD_take (i := 1) (oi := { dst := some 26, op := Go.Op.nilCheck (Go.Operand.tmp 25), type := 0, pos := "sums.go:93", after := #[{ on := 0, ground := Go.Ground.data }], guard := none }) (v := _) rfl (by kernel_rfl) (by kernel_rfl) (by kernel_rfl) (fun _ _ _ h => h) (by kernel_rfl) (Or.inl ⟨by rfl, ?hy9⟩) hS0 ?rest9
      case hy9 => (intro W hSw; obtain ⟨s1, s2, s3, s4, s5⟩ := hSw; go_simp; try (with_reducible rfl))
      try simp only [Act.put, List.setIfInBounds_toArray, List.set_cons_zero, List.set_cons_succ]
      refine' wpAnyD_take (i := 2) (oi := { dst := some 27, op := Go.Op.fieldAddr 67 (Go.Operand.tmp 26) 1, type := 0, pos := "sums.go:93", after := #[{ on := 1, ground := Go.Ground.data }], guard := none }) (v := _) rfl (by kernel_rfl) (by kernel_rfl) (by kernel_rfl) (fun _ _ _ h => h) (by kernel_rfl) (Or.inl ⟨by rfl, ?hy10⟩) hS0 ?rest10
      case hy10 => (intro W hSw; go_simp; try (with_reducible rfl))
      try simp only [Act.put, List.setIfInBounds_toArray, List.set_cons_zero, List.set_cons_succ]
      refine' wpAnyD_take (i := 3) (oi := { dst := some 28, op := Go.Op.load 63 (Go.Operand.tmp 27), type := 63, pos := "sums.go:93", after := #[{ on := 2, ground := Go.Ground.data }], guard := none }) (v := _) rfl (by kernel_rfl) (by kernel_rfl) (by kernel_rfl) (fun _ _ _ h => h) (by kernel_rfl) (Or.inl ⟨by rfl, ?hy11⟩) hS0 ?rest11
      case hy11 => (intro W hSw; obtain ⟨s1, s2, s3, s4, s5⟩ := hSw; go_simp; try (with_reducible rfl))
      try simp only [Act.put, List.setIfInBounds_toArray, List.set_cons_zero, List.set_cons_succ]
      refine' wpAnyD_take (i := 4) (oi := { dst := some 29, op := Go.Op.load 32 (Go.Operand.tmp 3), type := 32, pos := "sums.go:93", after := #[], guard := none }) (v := _) rfl (by kernel_rfl) (by kernel_rfl) (by kernel_rfl) (fun _ _ _ h => h) (by kernel_rfl) (Or.inl ⟨by rfl, ?hy12⟩) hS0 ?rest12
      case hy12 => (intro W hSw; obtain ⟨s1, s2, s3, s4, s5⟩ := hSw; go_simp; try (with_reducible rfl))
      try simp only [Act.put, List.setIfInBounds_toArray, List.set_cons_zero, List.set_cons_succ]
      refine wpAnyD_one (i := 5) (o := { dst := some 30, op := Go.Op.call { callee := Go.Callee.value (Go.Operand.func 51), args := #[Go.Operand.func 42], argTypes := #[88] }, type := 64, pos := "sums.go:93", after := #[], guard := none }) (by kernel_rfl) rfl (fun K hK => ?_)
      rw [if_pos (by kernel_rfl)]
      go_simp
      refine (Tt.new_any 42 U.drew).mono ?_
      rintro e W5 ⟨rfl, ht5, hg5⟩
      have HF5 : Hid (Fu W5 (nw S w) N sb mb kb _ _ T B (gA _)) := HFD.out.below hg5.below
      have hx5 := (hg5.below.block b1 (show b1 < U.drew.heap.size from y3)).trans HXW.out
      have hS5 : (fun X : World => X.cell? ⟨sb, 1, none⟩ = some (.map (some kb)) ∧ sb < X.heap.size ∧ X.cell? ⟨b1, 0, none⟩ = some (.int .u64 x.1.1) ∧ X.cell? ⟨b1, 1, none⟩ = some (.int .u64 x.1.2.1) ∧ X.cell? ⟨b1, 2, none⟩ = some (.int .u64 x.1.2.2)) W5 := ⟨HF5.out.c1, HF5.out.lt, (bx_cell hx5).1, (bx_cell hx5).2.1, (bx_cell hx5).2.2.1⟩
      have HT5 := hid ht5
      have HG5 := hid hg5
      have HX5 := hid hx5
      clear ht5 hg5 hx5
      go_wp2_with fail
      refine hK.out _ _ (fun hD => hS5) ?_
      clear hK K
      try simp only [Act.put, List.setIfInBounds_toArray, List.set_cons_zero, List.set_cons_succ]
      refine wpAnyD_one (i := 6) (o := { dst := none, op := Go.Op.mapUpdate 63 (Go.Operand.tmp 28) (Go.Operand.tmp 29) (Go.Operand.tmp 30), type := 0, pos := "sums.go:93", after := #[{ on := 3, ground := Go.Ground.data }, { on := 4, ground := Go.Ground.data }, { on := 5, ground := Go.Ground.data }, { on := 5, ground := Go.Ground.chain }, { on := 0, ground := Go.Ground.phase }, { on := 1, ground := Go.Ground.phase }, { on := 2, ground := Go.Ground.phase }, { on := 3, ground := Go.Ground.phase }, { on := 4, ground := Go.Ground.phase }, { on := 5, ground := Go.Ground.phase }], guard := none }) (by kernel_rfl) rfl (fun K hK => ?_)
      rw [if_pos (by kernel_rfl)]
      obtain ⟨W6, hrun, hM6, hgb⟩ := HF5.out.mp.store (t := 63) Try.underlying63 (by unfold maxLen; omega) x (U.drew.heap.size + 1)
      have hrun : (Instr.mapUpdate 63 (.map (some kb)) (tv x) (.pointer (some ⟨U.heap.size + 1, 0, none⟩))).run Try.prog W5 = .ok () W6 := hrun
      have k6 : Kp (fun k => k = kb) W5 W6 := Kp.grownBy hgb (fun k hk => by simpa using hk.symm)
      have nkb : b1 ≠ kb := by
        obtain ⟨es, cl, hk⟩ := HF5.out.mp.blk
        exact blk_ne HX5.out hk (by simp)
      have hx6 := (k6.block b1 (Array.getElem?_eq_some_iff.1 HX5.out).1 nkb).trans HX5.out
      have hS6 : (fun X : World => X.cell? ⟨sb, 1, none⟩ = some (.map (some kb)) ∧ sb < X.heap.size ∧ X.cell? ⟨b1, 0, none⟩ = some (.int .u64 x.1.1) ∧ X.cell? ⟨b1, 1, none⟩ = some (.int .u64 x.1.2.1) ∧ X.cell? ⟨b1, 2, none⟩ = some (.int .u64 x.1.2.2)) W6 := ⟨(k6.cell HF5.out.lt HF5.out.nk).trans HF5.out.c1, Nat.lt_of_lt_of_le HF5.out.lt k6.size, (bx_cell hx6).1, (bx_cell hx6).2.1, (bx_cell hx6).2.2.1⟩
      go_simp
      refine hK.out _ _ (fun hD => hS6) ?_
      clear hK K
      try simp only [Act.put, List.setIfInBounds_toArray, List.set_cons_zero, List.set_cons_succ]
      refine wpAnyD_done (by kernel_rfl) ?_ _
      have HFin : Hid (Hd w S N sb A x W6) := by
        have hb5 : U.drew.heap.size = U.heap.size := rfl
        have hFe := HFD.out.cut
        have hnB : ∀ t r, T t = some r → B t ≠ U.heap.size := fun t r hr e => by
          have := (hFe.ok t r hr).2.1.2
          omega
        have hF6 := (HF5.out.mono (Nat.le_succ N)).putK (x := x) (q := U.heap.size + 1) (b := U.heap.size) k6 hM6 (by rw [HGa.out]; exact HT5.out.mono (Nat.zero_le _)) (.inr (by have := hWs; omega)) (.inr (by have := hWs; omega)) (fun e => by have := HFD.out.mw.lt; omega) (fun e => by have := HFD.out.mp.lt; omega) hnB
        refine ⟨mb, kb, _, _, hF6, fun u => ?_, ?_⟩
        · by_cases e : u = x
          · rw [e, updP_same]; simp
          · rw [updP_other _ _ e, HT.out u]; simp [e]
        · exact (HKU.out.trans ((Kp.of_gr ((Gr.refl U).drew.trans HG5.out)).trans (T := fun k => k = kb) k6 (fun k _ e => e)) (fun k hk e => nw_in (e ▸ HFD.out.ik) hk))
      clear hrun hM6 hgb k6 HF5 HT5 HG5 HX5 hS5 hS6 hx6 HFD HF HXW
      go_wp2
      go_ret
      exact ⟨by rw [HDC.out]; rfl, HFin.out⟩
end Go.Proofs.Ytijbmchgajhkeaa
