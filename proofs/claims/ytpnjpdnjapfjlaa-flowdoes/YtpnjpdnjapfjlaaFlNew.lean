import Derived.Test.YtpnjpdnjapfjlaaFlDo2
namespace Go.Proofs.Ytpnjpdnjapfjlaa.Cd
open Go.RowKit Go.Sort
attribute [local go_sem ↓] Go.wp_at_zero Go.wp_at_succ

set_option maxHeartbeats 2000000 in
set_option maxRecDepth 100000 in
theorem clone_any {v : Value} {l : List Op2} (w : World) (hv : Ls EO w v l) (hl : l.length ≤ 16) : Calls Try.prog 16 #[v] w fun e w' => ∃ p n c, e = .returned (.slice p n c) ∧ Hid (Ls EO w' (.slice p n c) l ∧ Below w.heap.size w w' ∧ ∀ g, (Value.slice p n c).ownBlock = some g → w.heap.size ≤ g) := by
  rcases id hv with ⟨rfl, rfl⟩ | ⟨b, off, c, rfl, hbs, -⟩
  · clear hl hv
    have hnil : ∀ W : World, Sem.run Try.prog (binOp BinOp.eql 22 (.slice none 0 0) (.slice none 0 0)) W = .ok (.bool true) W := fun W => by first | rfl | kernel_rfl
    go_enter Try.func16, Try.ntmps16
    go_wp2_with fail
    go_ret
    exact ⟨none, 0, 0, rfl, Ls.nil w, (Gr.refl w).below, fun g hg => by cases hg⟩
  · obtain ⟨n, hn⟩ : ∃ n, n = l.length := ⟨_, rfl⟩
    rw [← hn] at hv ⊢
    have HV := hid hv
    have HN := hid hn
    have HLL := hid hl
    clear hv hl
    have hnil : ∀ W : World, Sem.run Try.prog (binOp BinOp.eql 22 (.slice (some ⟨b, off, none⟩) n c) (.slice none 0 0)) W = .ok (.bool false) W := fun W => by first | rfl | kernel_rfl
    clear hn hbs
    go_enter Try.func16, Try.ntmps16
    go_wp2_with (at_builtin; refine wpAppL EO Try.underlying22 infoO rfl (by decide) rfl _ _ rfl w.heap.size _ 0 [] rfl (World.ownsRow_lit w _ 0 (Nat.le_refl _) (Nat.zero_le _) rfl) _ l rfl (HV.out.below ((Gr.refl w).alloc _).below) (by have := HLL.out; omega) (by have := HLL.out; unfold maxLen; omega) (by simp) ?_)
    intro v2 w2 ho2 hg2
    have HB2 : Hid (Below w.heap.size w w2) := by
      have h1 : Below w.heap.size w (w.alloc (.cells #[] 46)) := ((Gr.refl w).alloc _).below
      exact h1.trans ((Kp.grownBy (S := fun k => w.heap.size ≤ k) hg2 (fun k hk => by simp [Value.ownBlock] at hk; omega)).below h1.size (fun _ h => h))
    have HO2 : Hid (w2.ownsRow w.heap.size 46 2 v2 l.length (fl EO l)) := owns_re ho2 (by simp) (by simp)
    clear ho2 hg2
    obtain ⟨p2, n2, c2, rfl⟩ : ∃ p n c, v2 = .slice p n c := by
      obtain ⟨_, ⟨h0, _⟩ | ⟨g', cap', cur, hv, _⟩⟩ := HO2.out
      · exact ⟨_, _, _, h0⟩
      · exact ⟨_, _, _, hv⟩
    go_wp2_with fail
    go_ret
    exact ⟨p2, n2, c2, rfl, owns_ls HO2.out, HB2.out, fun g hg => (HO2.out.lt g hg).1⟩
/-- An operator of a node, none of whose blocks lies below lo. -/
def Flw (lo : Nat) (w : World) (v : Value) (x : Nd) (l : List Op2) : Prop :=
  (x.kind = 2 ∧ ∃ b p n c, v = .iface 64 (.pointer (some ⟨b, 0, none⟩)) ∧ lo ≤ b ∧ w.heap[b]? = some (.cells #[.bool true, .slice p n c] 66 (0, 0)) ∧ Ls EO w (.slice p n c) l ∧ ∀ g, (Value.slice p n c).ownBlock = some g → lo ≤ g) ∨
  (x.kind = 3 ∧ ∃ b p n c, v = .iface 67 (.pointer (some ⟨b, 0, none⟩)) ∧ lo ≤ b ∧ w.heap[b]? = some (.cells #[.bool true, .slice p n c] 68 (0, 0)) ∧ Ls EO w (.slice p n c) l ∧ ∀ g, (Value.slice p n c).ownBlock = some g → lo ≤ g) ∨
  (x.kind = 4 ∧ ∃ b, v = .iface 53 (.pointer (some ⟨b, 0, none⟩)) ∧ lo ≤ b ∧ w.heap[b]? = some (.cells #[.bool true] 55 (0, 0))) ∨
  (x.kind = 5 ∧ ∃ b, v = .iface 56 (.pointer (some ⟨b, 0, none⟩)) ∧ lo ≤ b ∧ w.heap[b]? = some (.cells #[.bool true, .int .u64 x.y.a, .int .u64 x.y.b, .int .u64 x.y.c, .int .u64 (most x.y.a x.bd : Nat), .int .u64 (most x.y.b x.bd : Nat), .int .u64 (most x.y.c x.bd : Nat)] 59 (0, 0)))
theorem Flw.kp {S : Nat → Prop} {lo : Nat} {w w' : World} {v : Value} {x : Nd} {l : List Op2} (h : Flw lo w v x l) (k : Kp S w w') (hS : ∀ j, lo ≤ j → j < w.heap.size → ¬ S j) : Flw lo w' v x l := by
  rcases h with ⟨e, b, p, n, c, hv, hb, hh, hl, hg⟩ | ⟨e, b, p, n, c, hv, hb, hh, hl, hg⟩ | ⟨e, b, hv, hb, hh⟩ | ⟨e, b, hv, hb, hh⟩
  · exact Or.inl ⟨e, b, p, n, c, hv, hb, (k.block b (tk_lt hh) (hS b hb (tk_lt hh))).trans hh, k.ls hl (fun j hj => hS j (hg j hj) (hl.blk j hj)), hg⟩
  · exact Or.inr (Or.inl ⟨e, b, p, n, c, hv, hb, (k.block b (tk_lt hh) (hS b hb (tk_lt hh))).trans hh, k.ls hl (fun j hj => hS j (hg j hj) (hl.blk j hj)), hg⟩)
  · exact Or.inr (Or.inr (Or.inl ⟨e, b, hv, hb, (k.block b (tk_lt hh) (hS b hb (tk_lt hh))).trans hh⟩))
  · exact Or.inr (Or.inr (Or.inr ⟨e, b, hv, hb, (k.block b (tk_lt hh) (hS b hb (tk_lt hh))).trans hh⟩))
theorem Flw.below {lo : Nat} {w w' : World} {v : Value} {x : Nd} {l : List Op2} (h : Flw lo w v x l) (k : Below w.heap.size w w') : Flw lo w' v x l := h.kp (S := fun _ => False) (Kp.of_below k) (fun _ _ _ h => h)
theorem Flw.low {lo lo' : Nat} {w : World} {v : Value} {x : Nd} {l : List Op2} (h : Flw lo w v x l) (hl : lo' ≤ lo) : Flw lo' w v x l := by
  rcases h with ⟨e, b, p, n, c, hv, hb, hh, h1, hg⟩ | ⟨e, b, p, n, c, hv, hb, hh, h1, hg⟩ | ⟨e, b, hv, hb, hh⟩ | ⟨e, b, hv, hb, hh⟩
  · exact Or.inl ⟨e, b, p, n, c, hv, Nat.le_trans hl hb, hh, h1, fun g h => Nat.le_trans hl (hg g h)⟩
  · exact Or.inr (Or.inl ⟨e, b, p, n, c, hv, Nat.le_trans hl hb, hh, h1, fun g h => Nat.le_trans hl (hg g h)⟩)
  · exact Or.inr (Or.inr (Or.inl ⟨e, b, hv, Nat.le_trans hl hb, hh⟩))
  · exact Or.inr (Or.inr (Or.inr ⟨e, b, hv, Nat.le_trans hl hb, hh⟩))
/-- What New answers. -/
def Nw (w w' : World) (v : Value) (x : Nd) (l : List Op2) : Prop := Below w.heap.size w w' ∧ ((newE x.kind l = 0 ∧ Flw w.heap.size w' v x l) ∨ (newE x.kind l ≠ 0 ∧ v = .nilIface))

set_option maxHeartbeats 2000000 in
theorem coded2_any {x : Nd} (hx : x.kind = 2) {p : Option Addr} {n c : Nat} {l : List Op2} (w : World) (hv : Ls EO w (.slice p n c) l) : Calls Try.prog 10 #[.int .i64 2, .slice p n c] w fun e w' => ∃ v, e = .returned (.tuple #[v, .int .i64 (newE x.kind l)]) ∧ Hid (Nw w w' v x l) := by
  have he : newE x.kind l = chk 2 l := by rw [hx]; rfl
  rw [he]
  have hc := fun W (h : Ls EO W (.slice p n c) l) => check_any 2 W h
  by_cases h0 : chk 2 l = 0
  · obtain ⟨-, hl, -⟩ := chk_ok h0
    rw [h0] at hc ⊢
    have HC := hid hc
    have HV := hid hv
    have HLL := hid hl
    have HE : Hid (newE x.kind l = 0) := he.trans h0
    clear hc hv hl he h0
    go_enter Try.func10, Try.ntmps10
    go_wp2_with fail
    refine (HC.out _ HV.out).mono ?_
    rintro e w1 ⟨rfl, B1⟩
    have HB1 := hid B1
    clear B1
    go_wp2_with fail
    refine (clone_any _ (HV.out.below HB1.out) HLL.out).mono ?_
    rintro e w2 ⟨p2, n2, c2, rfl, H2⟩
    go_wp2_with fail
    refine bodyPost_ret (v := .tuple #[.iface 64 (.pointer (some ⟨w2.heap.size, 0, none⟩)), .int .i64 0]) (by simp [results, Try.results10, go_sem, *]) rfl ⟨_, rfl, ?_⟩
    obtain ⟨h1, h2, h3⟩ := H2.out
    have hG := ((Gr.refl w2).alloc (.cells #[.bool true, .slice p2 n2 c2] 66)).below
    have hB : Below w.heap.size w w2 := HB1.out.trans (h2.mono HB1.out.size)
    refine ⟨hB.trans (hG.mono hB.size), Or.inl ⟨HE.out, Or.inl ⟨hx, w2.heap.size, p2, n2, c2, rfl, hB.size, heap_new' _ _, h1.below hG, fun g hg => Nat.le_trans HB1.out.size (h3 g hg)⟩⟩⟩
  · have hq : (chk 2 l == 0) = false := by simpa using h0
    have HE : Hid (newE x.kind l ≠ 0) := by show _ ≠ _; rw [he]; exact h0
    obtain ⟨q, hqq⟩ : ∃ q, q = chk 2 l := ⟨_, rfl⟩
    rw [← hqq] at hc hq ⊢
    have HC := hid hc
    have HV := hid hv
    clear hc hv he h0 hqq
    go_enter Try.func10, Try.ntmps10
    go_wp2_with fail
    refine (HC.out _ HV.out).mono ?_
    rintro e w1 ⟨rfl, B1⟩
    go_wp2_with fail
    refine bodyPost_ret (v := .tuple #[.nilIface, .int .i64 q]) (by simp [results, Try.results10, go_sem, *]) rfl ⟨_, rfl, ?_⟩
    exact ⟨B1, Or.inr ⟨HE.out, rfl⟩⟩
set_option maxHeartbeats 2000000 in
theorem coded3_any {x : Nd} (hx : x.kind = 3) {p : Option Addr} {n c : Nat} {l : List Op2} (w : World) (hv : Ls EO w (.slice p n c) l) : Calls Try.prog 10 #[.int .i64 3, .slice p n c] w fun e w' => ∃ v, e = .returned (.tuple #[v, .int .i64 (newE x.kind l)]) ∧ Hid (Nw w w' v x l) := by
  have he : newE x.kind l = chk 3 l := by rw [hx]; rfl
  rw [he]
  have hc := fun W (h : Ls EO W (.slice p n c) l) => check_any 3 W h
  by_cases h0 : chk 3 l = 0
  · obtain ⟨-, hl, -⟩ := chk_ok h0
    rw [h0] at hc ⊢
    have HC := hid hc
    have HV := hid hv
    have HLL := hid hl
    have HE : Hid (newE x.kind l = 0) := he.trans h0
    clear hc hv hl he h0
    go_enter Try.func10, Try.ntmps10
    go_wp2_with fail
    refine (HC.out _ HV.out).mono ?_
    rintro e w1 ⟨rfl, B1⟩
    have HB1 := hid B1
    clear B1
    go_wp2_with fail
    refine (clone_any _ (HV.out.below HB1.out) HLL.out).mono ?_
    rintro e w2 ⟨p2, n2, c2, rfl, H2⟩
    go_wp2_with fail
    refine bodyPost_ret (v := .tuple #[.iface 67 (.pointer (some ⟨w2.heap.size, 0, none⟩)), .int .i64 0]) (by simp [results, Try.results10, go_sem, *]) rfl ⟨_, rfl, ?_⟩
    obtain ⟨h1, h2, h3⟩ := H2.out
    have hG := ((Gr.refl w2).alloc (.cells #[.bool true, .slice p2 n2 c2] 68)).below
    have hB : Below w.heap.size w w2 := HB1.out.trans (h2.mono HB1.out.size)
    refine ⟨hB.trans (hG.mono hB.size), Or.inl ⟨HE.out, Or.inr (Or.inl ⟨hx, w2.heap.size, p2, n2, c2, rfl, hB.size, heap_new' _ _, h1.below hG, fun g hg => Nat.le_trans HB1.out.size (h3 g hg)⟩)⟩⟩
  · have hq : (chk 3 l == 0) = false := by simpa using h0
    have HE : Hid (newE x.kind l ≠ 0) := by show _ ≠ _; rw [he]; exact h0
    obtain ⟨q, hqq⟩ : ∃ q, q = chk 3 l := ⟨_, rfl⟩
    rw [← hqq] at hc hq ⊢
    have HC := hid hc
    have HV := hid hv
    clear hc hv he h0 hqq
    go_enter Try.func10, Try.ntmps10
    go_wp2_with fail
    refine (HC.out _ HV.out).mono ?_
    rintro e w1 ⟨rfl, B1⟩
    go_wp2_with fail
    refine bodyPost_ret (v := .tuple #[.nilIface, .int .i64 q]) (by simp [results, Try.results10, go_sem, *]) rfl ⟨_, rfl, ?_⟩
    exact ⟨B1, Or.inr ⟨HE.out, rfl⟩⟩
end Go.Proofs.Ytpnjpdnjapfjlaa.Cd
