import Derived.Test.YtijbmchgajhkeaaSuTim
import Derived.Test.YtijbmchgajhkeaaLStep
namespace Go.Proofs.Ytijbmchgajhkeaa
open Go.RowKit Go.Sort Go.Maps Go.Shelf
open Tt (Tl)
attribute [local go_sem ↓] Go.wp_at_zero Go.wp_at_succ

theorem flU (l : List Ku) : fl EU l = l.map uv := by
  induction l with
  | nil => rfl
  | cons x l ih => rw [fl_cons, ih]; rfl
/-- The keys of a tally of a held time. -/
theorem tkeys_any {A : List Ct} {t : Tm} {q b N : Nat} (w : World) (h : Tl w q b 42 N (gA A t)) (hN : N ≤ 1000000000) :
    Calls Try.prog 29 #[.pointer (some ⟨q, 0, none⟩)] w fun e w' => ∃ gb cap, e = .returned (.slice (some ⟨gb, 0, none⟩) (kys A t).length cap) ∧ w'.ownsRow w.heap.size 30 1 (.slice (some ⟨gb, 0, none⟩) (kys A t).length cap) (kys A t).length (fl EU (kys A t)) ∧ Below w.heap.size w w' := by
  refine (keys_any w h ucm_ok (by omega)).mono ?_
  rintro e w' ⟨gb, cap, ks, hS, rfl, ho, hB⟩
  have hk : srtBy ucm ks = kys A t := by
    refine kys_eq ?_ fun k => ?_
    · have h1 := srtBy_sorted ucm_ok.swo ks
      have h2 : (srtBy ucm ks).Nodup := (srtBy_perm ucm ks).nodup_iff.2 hS.1
      refine List.Pairwise.imp₂ (R := fun x y => (!(ltOf ucm) y x) = true) (S := fun x y => x ≠ y) (fun {a b} ha hb => ?_) h1 h2
      have ha' : ltOf ucm b a = false := by simpa using ha
      rw [ltOf_ucm, decide_eq_false_iff_not] at ha'
      exact ltK_tot (a := b) (b := a) ha' (fun e => hb e.symm)
    · rw [srtBy_mem, hS.2 k]
      unfold gA
      by_cases hh : Has A (t, k)
      · rw [if_pos hh]; simp [hh]
      · rw [if_neg hh]; simp [hh]
  rw [hk] at ho ⊢
  rw [flU]
  exact ⟨gb, cap, rfl, ho, hB⟩
/-- The sums when the first k keys of a time are gone. -/
def fk (A : List Ct) (t : Tm) (k : Nat) (s : Sx) : Int := if s.1 = t ∧ s.2 ∈ (kys A t).take k then 0 else (sm A s).1
def hk (A : List Ct) (t : Tm) (k : Nat) (s : Sx) : Prop := Has A s ∧ ¬ (s.1 = t ∧ s.2 ∈ (kys A t).take k)
theorem kys_nodup (A : List Ct) (t : Tm) : (kys A t).Nodup := (kys_rise A t).imp fun {a b} (h : ltK a b) (e : a = b) => ltK_irr a (by rw [← e] at h; exact h)
theorem not_take {α : Type} {l : List α} (h : l.Nodup) {k : Nat} {x : α} (hx : l[k]? = some x) : x ∉ l.take k := fun hm => by
  obtain ⟨j, hj⟩ := List.mem_iff_getElem?.1 hm
  have hjk : j < k := by
    have := (List.getElem?_eq_some_iff.1 hj).1
    rw [List.length_take] at this
    omega
  rw [List.getElem?_take_of_lt hjk] at hj
  have := List.getElem_inj (i := j) (j := k) (h₀ := (List.getElem?_eq_some_iff.1 hj).1) (h₁ := (List.getElem?_eq_some_iff.1 hx).1) h
  rw [(List.getElem?_eq_some_iff.1 hj).2, (List.getElem?_eq_some_iff.1 hx).2] at this
  have := this.1 rfl
  omega
theorem fk_at {A : List Ct} {t : Tm} {k : Nat} {x : Ku} (hx : (kys A t)[k]? = some x) : fk A t k (t, x) = (sm A (t, x)).1 := if_neg fun h => not_take (kys_nodup A t) hx h.2
theorem fk_next {A : List Ct} {t : Tm} {k : Nat} {x : Ku} (hx : (kys A t)[k]? = some x) (s : Sx) : upd (fk A t k) (t, x) 0 s = fk A t (k + 1) s := by
  unfold fk
  rw [List.take_add_one, hx]
  by_cases e : s = (t, x)
  · subst e
    rw [upd_same, if_pos ⟨rfl, by simp⟩]
  · rw [upd_other _ _ e]
    by_cases h1 : s.1 = t ∧ s.2 ∈ (kys A t).take k
    · rw [if_pos h1, if_pos ⟨h1.1, List.mem_append_left _ h1.2⟩]
    · rw [if_neg h1, if_neg fun h2 => ?_]
      rcases List.mem_append.1 h2.2 with h3 | h3
      · exact h1 ⟨h2.1, h3⟩
      · exact e (Prod.ext h2.1 (by simpa using h3))
theorem hk_next {A : List Ct} {t : Tm} {k : Nat} {x : Ku} (hx : (kys A t)[k]? = some x) (s : Sx) : (hk A t k s ∧ s ≠ (t, x)) ↔ hk A t (k + 1) s := by
  unfold hk
  rw [List.take_add_one, hx]
  constructor
  · rintro ⟨⟨h1, h2⟩, h3⟩
    refine ⟨h1, fun h4 => ?_⟩
    rcases List.mem_append.1 h4.2 with h5 | h5
    · exact h2 ⟨h4.1, h5⟩
    · exact h3 (Prod.ext h4.1 (by simpa using h5))
  · rintro ⟨h1, h2⟩
    exact ⟨⟨h1, fun h3 => h2 ⟨h3.1, List.mem_append_left _ h3.2⟩⟩, fun e => h2 (by rw [e]; exact ⟨rfl, by simp⟩)⟩
theorem fk_end (A : List Ct) (t : Tm) (s : Sx) : fk A t (kys A t).length s = (sm (lft A t) s).1 := by
  unfold fk
  rw [List.take_length]
  by_cases e : s.1 = t
  · have h2 : sm (lft A t) s = ⟨0, by decide⟩ := sm_none fun h => ((has_lft A t s).1 h).2 e
    rw [h2]
    by_cases h1 : s.2 ∈ kys A t
    · rw [if_pos ⟨e, h1⟩]
    · rw [if_neg fun h => h1 h.2, sm_none fun h => h1 ((mem_kys A t s.2).2 (by rw [← e]; exact h))]
  · rw [if_neg fun h => e h.1, sm_lft A t s e]
theorem hk_end (A : List Ct) (t : Tm) (s : Sx) : hk A t (kys A t).length s ↔ Has (lft A t) s := by
  unfold hk
  rw [List.take_length, has_lft]
  exact ⟨fun h => ⟨h.1, fun e => h.2 ⟨e, (mem_kys A t s.2).2 (by rw [← e]; exact h.1)⟩⟩, fun h => ⟨h.1, fun h2 => h.2 h2.1⟩⟩
theorem ga_lft {A : List Ct} {t u : Tm} (h : u ≠ t) (k : Ku) : gA A u k = gA (lft A t) u k := by
  unfold gA
  by_cases e : Has A (u, k)
  · rw [if_pos e, if_pos ((has_lft A t _).2 ⟨e, h⟩)]
  · rw [if_neg e, if_neg fun h2 => e ((has_lft A t _).1 h2).1]
theorem rcs_take {A : List Ct} {t : Tm} {k : Nat} {x : Ku} (hx : (kys A t)[k]? = some x) : (rcs A t).take (k + 1) = (rcs A t).take k ++ [(x, sm A (t, x))] := by
  rw [List.take_add_one]
  unfold rcs
  rw [List.getElem?_map, hx]
  rfl
/-- While a time is told. -/
structure Tv (w : World) (S : Nat → Prop) (N sb mb kb : Nat) (A : List Ct) (t : Tm) (T : Tm → Option Nat) (B : Tm → Nat) (b1 gk ck k : Nat) (u : Value) (wr : World) : Prop where
  fu : Fu wr (fun k => S k ∧ k < w.heap.size) N sb mb kb (fk A t k) (hk A t k) T B (gA A)
  bx : wr.heap[b1]? = some (.cells #[.int .u64 t.1.1, .int .u64 t.1.2.1, .int .u64 t.1.2.2] 32 (0, 0))
  lo : w.heap.size ≤ b1
  ls : Ls EU wr (.slice (some ⟨gk, 0, none⟩) (kys A t).length ck) (kys A t)
  lk : w.heap.size ≤ gk
  of : u.ownBlock ≠ some gk ∧ u.ownBlock ≠ some b1
  row : wr.ownsRow w.heap.size 37 2 u k (fl ER ((rcs A t).take k))
  kp : Kp (fun k => S k ∧ k < w.heap.size) w wr
/-- What Tell leaves. -/
def Td (w : World) (S : Nat → Prop) (N sb : Nat) (A : List Ct) (t : Tm) (v : Value) (w' : World) : Prop := w'.ownsRow w.heap.size 37 2 v (rcs A t).length (fl ER (rcs A t)) ∧ Su w' (fun k => S k ∧ k < w.heap.size) N sb (lft A t) ∧ Kp (fun k => S k ∧ k < w.heap.size) w w'
set_option maxHeartbeats 4000000 in
set_option maxRecDepth 100000 in
theorem tell_held {S : Nat → Prop} {N sb mb kb : Nat} {A : List Ct} {T : Tm → Option Nat} {B : Tm → Nat} (t : Tm) (w : World) (h : Fu w S N sb mb kb (fun s => (sm A s).1) (Has A) T B (gA A)) (hT : ∀ u, (T u).isSome = true ↔ Hld A u) (hx : Hld A t) (hN : N ≤ 100000000) (hA : (kys A t).length ≤ 100000000) :
    Calls Try.prog 12 #[.pointer (some ⟨sb, 0, none⟩), tv t] w fun e w' => ∃ v, e = .returned v ∧ Hid (Td w S N sb A t v w') := by
  have hmx : Try.prog.follows .mixedOrders = true := by kernel_rfl
  obtain ⟨W1, hW1⟩ : ∃ W1, W1 = w.alloc (.cells #[.int .u64 t.1.1, .int .u64 t.1.2.1, .int .u64 t.1.2.2] 32) := ⟨_, rfl⟩
  obtain ⟨b1, hb1⟩ : ∃ b1, b1 = w.heap.size := ⟨_, rfl⟩
  have G1 : Gr w W1 := by rw [hW1]; exact (Gr.refl _).alloc _
  have x1 : W1.heap[b1]? = some (.cells #[.int .u64 t.1.1, .int .u64 t.1.2.1, .int .u64 t.1.2.2] 32 (0, 0)) := by rw [hW1, hb1]; exact heap_new' _ _
  have HX1 := hid x1
  have HB1 : Hid (w.heap.size ≤ b1 ∧ b1 < W1.heap.size) := ⟨by omega, (Array.getElem?_eq_some_iff.1 x1).1⟩
  obtain ⟨q, hq⟩ : ∃ q, T t = some q := Option.isSome_iff_exists.1 ((hT t).2 hx)
  have HF1 : Hid (Fu W1 (fun k => S k ∧ k < w.heap.size) N sb mb kb (fun s => (sm A s).1) (Has A) T B (gA A)) := h.cut.below G1.below
  have HFD : Hid (Fu W1.drew (fun k => S k ∧ k < w.heap.size) N sb mb kb (fun s => (sm A s).1) (Has A) T B (gA A)) := HF1.out.below ((Gr.refl W1).drew).below
  have hkey := tkeys_any W1.drew (HFD.out.each t q hq) (by omega)
  have hlkt : ∀ X, Mp ZT X kb N T → (Instr.lookup 63 (.map (some kb)) (tv t) false).run Try.prog X = .ok (.pointer (some ⟨q, 0, none⟩)) X := fun X hX => by
    have := hX.look (t := 63) Try.underlying63 zeroP t
    rw [hq] at this
    exact this
  have HLK := hid hlkt
  have HT := hid hT
  have HQ := hid hq
  have HG1 := hid G1
  obtain ⟨n, hn⟩ : ∃ n, n = (kys A t).length := ⟨_, rfl⟩
  have HN := hid hn
  rw [← hn] at hkey hA
  clear h hT hx hq hlkt hn x1
  go_enter Try.func12, Try.ntmps12
  go_upto_region 4 with fail
  rw [← hW1, ← hb1]
  clear hW1 hb1
  have hS0 : (fun X : World => X.cell? ⟨sb, 1, none⟩ = some (.map (some kb)) ∧ sb < X.heap.size ∧ Hid (X.heap[b1]? = some (.cells #[.int .u64 t.1.1, .int .u64 t.1.2.1, .int .u64 t.1.2.2] 32 (0, 0))) ∧ Hid (Mp ZT X kb N T)) W1.drew := ⟨HFD.out.c1, HFD.out.lt, HX1, HFD.out.mp⟩
  refine wp_regionD (S := fun X : World => X.cell? ⟨sb, 1, none⟩ = some (.map (some kb)) ∧ sb < X.heap.size ∧ Hid (X.heap[b1]? = some (.cells #[.int .u64 t.1.1, .int .u64 t.1.2.1, .int .u64 t.1.2.2] 32 (0, 0))) ∧ Hid (Mp ZT X kb N T)) (D := []) hmx ?_
  refine' wpAnyD_take (i := 0) (oi := { dst := some 11, op := Go.Op.move (Go.Operand.tmp 0), type := 24, pos := "sums.go:64", after := #[], guard := none }) (v := _) rfl (by kernel_rfl) (by kernel_rfl) (by kernel_rfl) (fun _ _ _ h => h) (by kernel_rfl) (Or.inl ⟨by rfl, ?hy1⟩) hS0 ?rest1
  case hy1 => (intro W hSw; go_simp; try (with_reducible rfl))
  try simp only [Act.put, List.setIfInBounds_toArray, List.set_cons_zero, List.set_cons_succ]
  refine' wpAnyD_take (i := 1) (oi := { dst := some 12, op := Go.Op.nilCheck (Go.Operand.tmp 11), type := 0, pos := "sums.go:64", after := #[{ on := 0, ground := Go.Ground.data }], guard := none }) (v := _) rfl (by kernel_rfl) (by kernel_rfl) (by kernel_rfl) (fun _ _ _ h => h) (by kernel_rfl) (Or.inl ⟨by rfl, ?hy2⟩) hS0 ?rest2
  case hy2 => (intro W hSw; obtain ⟨s1, s2, s3, s4⟩ := hSw; obtain ⟨m0, m1, m2, m3⟩ := bx_cell s3.out; have hl := HLK.out W s4.out; go_simp; try (with_reducible rfl))
  try simp only [Act.put, List.setIfInBounds_toArray, List.set_cons_zero, List.set_cons_succ]
  refine' wpAnyD_take (i := 2) (oi := { dst := some 13, op := Go.Op.fieldAddr 67 (Go.Operand.tmp 12) 1, type := 0, pos := "sums.go:64", after := #[{ on := 1, ground := Go.Ground.data }], guard := none }) (v := _) rfl (by kernel_rfl) (by kernel_rfl) (by kernel_rfl) (fun _ _ _ h => h) (by kernel_rfl) (Or.inl ⟨by rfl, ?hy3⟩) hS0 ?rest3
  case hy3 => (intro W hSw; go_simp; try (with_reducible rfl))
  try simp only [Act.put, List.setIfInBounds_toArray, List.set_cons_zero, List.set_cons_succ]
  refine' wpAnyD_take (i := 3) (oi := { dst := some 14, op := Go.Op.load 63 (Go.Operand.tmp 13), type := 63, pos := "sums.go:64", after := #[{ on := 2, ground := Go.Ground.data }], guard := none }) (v := _) rfl (by kernel_rfl) (by kernel_rfl) (by kernel_rfl) (fun _ _ _ h => h) (by kernel_rfl) (Or.inl ⟨by rfl, ?hy4⟩) hS0 ?rest4
  case hy4 => (intro W hSw; obtain ⟨s1, s2, s3, s4⟩ := hSw; obtain ⟨m0, m1, m2, m3⟩ := bx_cell s3.out; have hl := HLK.out W s4.out; go_simp; try (with_reducible rfl))
  try simp only [Act.put, List.setIfInBounds_toArray, List.set_cons_zero, List.set_cons_succ]
  refine' wpAnyD_take (i := 4) (oi := { dst := some 15, op := Go.Op.load 32 (Go.Operand.tmp 3), type := 32, pos := "sums.go:64", after := #[], guard := none }) (v := _) rfl (by kernel_rfl) (by kernel_rfl) (by kernel_rfl) (fun _ _ _ h => h) (by kernel_rfl) (Or.inl ⟨by rfl, ?hy5⟩) hS0 ?rest5
  case hy5 => (intro W hSw; obtain ⟨s1, s2, s3, s4⟩ := hSw; obtain ⟨m0, m1, m2, m3⟩ := bx_cell s3.out; have hl := HLK.out W s4.out; go_simp; try (with_reducible rfl))
  try simp only [Act.put, List.setIfInBounds_toArray, List.set_cons_zero, List.set_cons_succ]
  refine' wpAnyD_take (i := 5) (oi := { dst := some 16, op := Go.Op.lookup 63 (Go.Operand.tmp 14) (Go.Operand.tmp 15) false, type := 64, pos := "sums.go:64", after := #[{ on := 3, ground := Go.Ground.data }, { on := 4, ground := Go.Ground.data }], guard := none }) (v := _) rfl (by kernel_rfl) (by kernel_rfl) (by kernel_rfl) (fun _ _ _ h => h) (by kernel_rfl) (Or.inl ⟨by rfl, ?hy6⟩) hS0 ?rest6
  case hy6 => (intro W hSw; obtain ⟨s1, s2, s3, s4⟩ := hSw; obtain ⟨m0, m1, m2, m3⟩ := bx_cell s3.out; have hl := HLK.out W s4.out; go_simp; try (with_reducible rfl))
  try simp only [Act.put, List.setIfInBounds_toArray, List.set_cons_zero, List.set_cons_succ]
  refine' wpAnyD_take (i := 8) (oi := { dst := some 19, op := Go.Op.move (Go.Operand.const (Go.Value.int Go.IntKind.i64 0)), type := 3, pos := "sums.go:64", after := #[], guard := none }) (v := _) rfl (by kernel_rfl) (by kernel_rfl) (by kernel_rfl) (fun _ _ _ h => h) (by kernel_rfl) (Or.inl ⟨by rfl, ?hy7⟩) hS0 ?rest7
  case hy7 => (intro W hSw; go_simp; try (with_reducible rfl))
  try simp only [Act.put, List.setIfInBounds_toArray, List.set_cons_zero, List.set_cons_succ]
  refine wpAnyD_one (i := 6) (o := { dst := some 17, op := Go.Op.call { callee := Go.Callee.value (Go.Operand.func 29), args := #[Go.Operand.tmp 16], argTypes := #[64] }, type := 72, pos := "sums.go:64", after := #[{ on := 5, ground := Go.Ground.data }], guard := none }) (by kernel_rfl) rfl (fun K hK => ?_)
  rw [if_pos (by kernel_rfl)]
  go_simp
  refine hkey.mono ?_
  rintro e U ⟨gk, ck, rfl, hrow, hB⟩
  have HFU : Hid (Fu U (fun k => S k ∧ k < w.heap.size) N sb mb kb (fun s => (sm A s).1) (Has A) T B (gA A)) := HFD.out.below hB
  have HXU : Hid (U.heap[b1]? = some (.cells #[.int .u64 t.1.1, .int .u64 t.1.2.1, .int .u64 t.1.2.2] 32 (0, 0))) := (hB.block b1 HB1.out.2).trans HX1.out
  have hS4 : (fun X : World => X.cell? ⟨sb, 1, none⟩ = some (.map (some kb)) ∧ sb < X.heap.size ∧ Hid (X.heap[b1]? = some (.cells #[.int .u64 t.1.1, .int .u64 t.1.2.1, .int .u64 t.1.2.2] 32 (0, 0))) ∧ Hid (Mp ZT X kb N T)) U := ⟨HFU.out.c1, HFU.out.lt, HXU, HFU.out.mp⟩
  have HRU := hid hrow
  have HBU := hid hB
  clear hrow hB
  go_wp2_with fail
  refine hK.out _ _ (fun hD => hS4) ?_
  clear hK K
  try simp only [Act.put, List.setIfInBounds_toArray, List.set_cons_zero, List.set_cons_succ]
  refine' wpAnyD_take (i := 7) (oi := { dst := some 18, op := Go.Op.call { callee := Go.Callee.builtin Go.Builtin.len, args := #[Go.Operand.tmp 17], argTypes := #[72] }, type := 3, pos := "sums.go:64", after := #[{ on := 6, ground := Go.Ground.data }], guard := none }) (v := _) rfl (by kernel_rfl) (by kernel_rfl) (by kernel_rfl) (fun _ _ _ h => h) (by kernel_rfl) (Or.inl ⟨by rfl, ?hy9⟩) hS4 ?rest9
  case hy9 => (intro W hSw; go_simp; try (with_reducible rfl))
  try simp only [Act.put, List.setIfInBounds_toArray, List.set_cons_zero, List.set_cons_succ]
  refine wpAnyD_done (by kernel_rfl) ?_ _
  have HTv : Hid (Tv w S N sb mb kb A t T B b1 gk ck 0 (.slice none 0 0) U) := by
    refine ⟨HFU.out.re (fun s => ?_) (fun s => ?_) (fun _ _ _ _ => rfl), HXU.out, HB1.out.1, ?_, ?_, by simp [Value.ownBlock], World.ownsRow_nil _ _ _ _, ?_⟩
    · unfold fk; rw [if_neg (by simp)]
    · unfold hk; simp
    · have h1 := owns_ls (E := EU) (ts := kys A t) (owns_re HRU.out HN.out rfl)
      rw [HN.out] at h1
      exact h1
    · have := (HRU.out.lt gk rfl).1
      exact Nat.le_trans (Nat.le_trans HG1.out.size ((Gr.refl W1).drew).size) this
    · exact (Kp.of_gr HG1.out).trans (Kp.of_below (S := fun _ => False) ((Gr.refl W1).drew.below.trans HBU.out)) (fun _ _ h => h.elim)
  clear hS0 hS4 hkey HRU HBU HFU HXU HFD HF1 HLK HX1 HG1
  go_wp2_with fail
  go_loopw [5, 7, 8, 19] (fun s5 _ _ s19 wr => ∃ (k : Nat) (up : Option Addr) (uc : Nat), k ≤ n ∧ s19 = .int .i64 k ∧ s5 = .slice up k uc ∧ Hid (Tv w S N sb mb kb A t T B b1 gk ck k (.slice up k uc) wr)) (fun _ _ _ s19 _ => n - (RowKit.intOf s19).toNat)
  case atStart => exact ⟨0, none, 0, Nat.zero_le _, rfl, rfl, HTv.out⟩
  case round =>
    obtain ⟨k, up, uc, hk0, rfl, rfl, HI⟩ := hrel
    by_cases hlt : k < n
    · have hltz : (k : Int) < (n : Int) := by omega
      obtain ⟨x, hx⟩ : ∃ x, (kys A t)[k]? = some x := ⟨(kys A t)[k]'(by rw [← HN.out]; exact hlt), by simp⟩
      have hls := HI.out.ls
      rw [← HN.out] at hls
      obtain ⟨bb, oo, cc, ee, zz, x0⟩ := HI.out.ls.atU hx
      simp only [Value.slice.injEq, Option.some.injEq, Addr.mk.injEq, and_true] at ee
      obtain ⟨⟨rfl, rfl⟩, -, rfl⟩ := ee
      rw [Nat.zero_add] at x0
      have HX := hid hx
      obtain ⟨k0, k1, k2, k3⟩ := bx_cell HI.out.bx
      obtain ⟨W2, hW2⟩ : ∃ W2, W2 = wr.alloc (.cells #[.int .u64 t.1.1, .int .u64 t.1.2.1, .int .u64 t.1.2.2, .int .u64 x.1] 75) := ⟨_, rfl⟩
      obtain ⟨b3, hb3⟩ : ∃ b3, b3 = wr.heap.size := ⟨_, rfl⟩
      have G2 : Gr wr W2 := by rw [hW2]; exact (Gr.refl _).alloc _
      have HSP : Hid (W2.heap[b3]? = some (.cells #[.int .u64 t.1.1, .int .u64 t.1.2.1, .int .u64 t.1.2.2, .int .u64 x.1] 75 (0, 0))) := by rw [hW2, hb3]; exact heap_new' _ _
      have HB3 : Hid (b3 = wr.heap.size) := hb3
      have HF2 : Hid (Fu W2 (fun k => S k ∧ k < w.heap.size) N sb mb kb (fk A t k) (hk A t k) T B (gA A)) := HI.out.fu.below G2.below
      have HR2 : Hid (W2.drew.ownsRow w.heap.size 37 2 (.slice up k uc) k (fl ER ((rcs A t).take k))) := owns_below HI.out.row (G2.drew).below
      have HLK : Hid (∀ X : World, X.heap[mb]? = W2.heap[mb]? → (Instr.lookup 65 (.map (some mb)) (xv (t, x)) false).run Try.prog X = .ok (.int .u64 (sm A (t, x)).1) X) := fun X hX => by
        have := (HF2.out.mw.kept hX).look (t := 65) Try.underlying65 Try.underlying30 zeroU (t, x)
        rw [fk_at HX.out] at this
        exact this
      have HG2 := hid G2
      have hwsz : Hid (w.heap.size ≤ W2.drew.heap.size) := Nat.le_trans HI.out.kp.size G2.size
      clear hx hls G2
      go_upto_region 8 with fail
      rw [← hW2, ← hb3]
      clear hW2 hb3 k0 k1 k2 k3 x0 zz
      have hS0 : (fun X : World => X.cell? ⟨sb, 0, none⟩ = some (.map (some mb)) ∧ sb < X.heap.size ∧ Hid (X.heap[b3]? = some (.cells #[.int .u64 t.1.1, .int .u64 t.1.2.1, .int .u64 t.1.2.2, .int .u64 x.1] 75 (0, 0))) ∧ Hid (X.heap[mb]? = W2.heap[mb]?)) W2.drew := ⟨HF2.out.c0, HF2.out.lt, HSP, rfl⟩
      have HKE : Hid (∀ X : World, Kp (fun j => (Value.slice up k uc).ownBlock = some j) W2.drew X → (fun X : World => X.cell? ⟨sb, 0, none⟩ = some (.map (some mb)) ∧ sb < X.heap.size ∧ Hid (X.heap[b3]? = some (.cells #[.int .u64 t.1.1, .int .u64 t.1.2.1, .int .u64 t.1.2.2, .int .u64 x.1] 75 (0, 0))) ∧ Hid (X.heap[mb]? = W2.heap[mb]?)) X) := fun X hX => by
        have hrd := owns_ls (E := ER) (ts := (rcs A t).take k) (owns_re HR2.out (by unfold rcs; simp; have := HN.out; omega) rfl)
        have hno : ∀ j o, W2.drew.heap[j]? = some o → (∀ cur fz, o ≠ .cells cur 37 fz) → (Value.slice up k uc).ownBlock ≠ some j := fun j o hj ho e => by
          obtain ⟨_, ⟨h0, _⟩ | ⟨g', cap', cur, hv, _, hgg, _⟩⟩ := HR2.out
          · rw [h0] at e; cases e
          · rw [hv] at e
            obtain rfl : g' = j := by simpa [Value.ownBlock] using e
            rw [hgg] at hj
            exact ho cur (0, 0) (Option.some.inj hj).symm
        obtain ⟨es, cl, hmk⟩ := HF2.out.mw.blk
        have n1 := hno sb _ HF2.out.blk (by simp)
        have n2 := hno b3 _ HSP.out (by simp)
        have n3 := hno mb _ hmk (by simp)
        exact ⟨(hX.cell HF2.out.lt n1).trans HF2.out.c0, Nat.lt_of_lt_of_le HF2.out.lt hX.size, (hX.block b3 (Array.getElem?_eq_some_iff.1 HSP.out).1 n2).trans HSP.out, hX.block mb HF2.out.mw.lt n3⟩
      refine wp_regionD (S := fun X : World => X.cell? ⟨sb, 0, none⟩ = some (.map (some mb)) ∧ sb < X.heap.size ∧ Hid (X.heap[b3]? = some (.cells #[.int .u64 t.1.1, .int .u64 t.1.2.1, .int .u64 t.1.2.2, .int .u64 x.1] 75 (0, 0))) ∧ Hid (X.heap[mb]? = W2.heap[mb]?)) (D := []) hmx ?_
      refine' wpAnyD_take (i := 0) (oi := { dst := some 26, op := Go.Op.move (Go.Operand.tmp 5), type := 33, pos := "sums.go:66", after := #[], guard := none }) (v := _) rfl (by kernel_rfl) (by kernel_rfl) (by kernel_rfl) (fun _ _ _ h => h) (by kernel_rfl) (Or.inl ⟨by rfl, ?hy10⟩) hS0 ?rest10
      case hy10 => (intro W hSw; go_simp; try (with_reducible rfl))
      try simp only [Act.put, List.setIfInBounds_toArray, List.set_cons_zero, List.set_cons_succ]
      refine' wpAnyD_take (i := 1) (oi := { dst := some 27, op := Go.Op.move (Go.Operand.tmp 7), type := 30, pos := "sums.go:66", after := #[], guard := none }) (v := _) rfl (by kernel_rfl) (by kernel_rfl) (by kernel_rfl) (fun _ _ _ h => h) (by kernel_rfl) (Or.inl ⟨by rfl, ?hy11⟩) hS0 ?rest11
      case hy11 => (intro W hSw; go_simp; try (with_reducible rfl))
      try simp only [Act.put, List.setIfInBounds_toArray, List.set_cons_zero, List.set_cons_succ]
      refine' wpAnyD_take (i := 2) (oi := { dst := some 28, op := Go.Op.move (Go.Operand.tmp 0), type := 24, pos := "sums.go:66", after := #[], guard := none }) (v := _) rfl (by kernel_rfl) (by kernel_rfl) (by kernel_rfl) (fun _ _ _ h => h) (by kernel_rfl) (Or.inl ⟨by rfl, ?hy12⟩) hS0 ?rest12
      case hy12 => (intro W hSw; go_simp; try (with_reducible rfl))
      try simp only [Act.put, List.setIfInBounds_toArray, List.set_cons_zero, List.set_cons_succ]
      refine' wpAnyD_take (i := 3) (oi := { dst := some 29, op := Go.Op.nilCheck (Go.Operand.tmp 28), type := 0, pos := "sums.go:66", after := #[{ on := 2, ground := Go.Ground.data }], guard := none }) (v := _) rfl (by kernel_rfl) (by kernel_rfl) (by kernel_rfl) (fun _ _ _ h => h) (by kernel_rfl) (Or.inl ⟨by rfl, ?hy13⟩) hS0 ?rest13
      case hy13 => (intro W hSw; obtain ⟨s1, s2, s3, s4⟩ := hSw; obtain ⟨m0, m1, m2, m3, m4⟩ := sp_cell (s := (t, x)) s3.out; have hl := HLK.out W s4.out; go_simp; try (with_reducible rfl))
      try simp only [Act.put, List.setIfInBounds_toArray, List.set_cons_zero, List.set_cons_succ]
      refine' wpAnyD_take (i := 4) (oi := { dst := some 30, op := Go.Op.fieldAddr 67 (Go.Operand.tmp 29) 0, type := 0, pos := "sums.go:66", after := #[{ on := 3, ground := Go.Ground.data }], guard := none }) (v := _) rfl (by kernel_rfl) (by kernel_rfl) (by kernel_rfl) (fun _ _ _ h => h) (by kernel_rfl) (Or.inl ⟨by rfl, ?hy14⟩) hS0 ?rest14
      case hy14 => (intro W hSw; go_simp; try (with_reducible rfl))
      try simp only [Act.put, List.setIfInBounds_toArray, List.set_cons_zero, List.set_cons_succ]
      refine' wpAnyD_take (i := 5) (oi := { dst := some 31, op := Go.Op.load 65 (Go.Operand.tmp 30), type := 65, pos := "sums.go:66", after := #[{ on := 4, ground := Go.Ground.data }], guard := none }) (v := _) rfl (by kernel_rfl) (by kernel_rfl) (by kernel_rfl) (fun _ _ _ h => h) (by kernel_rfl) (Or.inl ⟨by rfl, ?hy15⟩) hS0 ?rest15
      case hy15 => (intro W hSw; obtain ⟨s1, s2, s3, s4⟩ := hSw; obtain ⟨m0, m1, m2, m3, m4⟩ := sp_cell (s := (t, x)) s3.out; have hl := HLK.out W s4.out; go_simp; try (with_reducible rfl))
      try simp only [Act.put, List.setIfInBounds_toArray, List.set_cons_zero, List.set_cons_succ]
      refine' wpAnyD_take (i := 6) (oi := { dst := some 32, op := Go.Op.load 75 (Go.Operand.tmp 8), type := 75, pos := "sums.go:66", after := #[], guard := none }) (v := _) rfl (by kernel_rfl) (by kernel_rfl) (by kernel_rfl) (fun _ _ _ h => h) (by kernel_rfl) (Or.inl ⟨by rfl, ?hy16⟩) hS0 ?rest16
      case hy16 => (intro W hSw; obtain ⟨s1, s2, s3, s4⟩ := hSw; obtain ⟨m0, m1, m2, m3, m4⟩ := sp_cell (s := (t, x)) s3.out; have hl := HLK.out W s4.out; go_simp; try (with_reducible rfl))
      try simp only [Act.put, List.setIfInBounds_toArray, List.set_cons_zero, List.set_cons_succ]
      refine' wpAnyD_take (i := 7) (oi := { dst := some 33, op := Go.Op.lookup 65 (Go.Operand.tmp 31) (Go.Operand.tmp 32) false, type := 30, pos := "sums.go:66", after := #[{ on := 5, ground := Go.Ground.data }, { on := 6, ground := Go.Ground.data }], guard := none }) (v := _) rfl (by kernel_rfl) (by kernel_rfl) (by kernel_rfl) (fun _ _ _ h => h) (by kernel_rfl) (Or.inl ⟨by rfl, ?hy17⟩) hS0 ?rest17
      case hy17 => (intro W hSw; obtain ⟨s1, s2, s3, s4⟩ := hSw; obtain ⟨m0, m1, m2, m3, m4⟩ := sp_cell (s := (t, x)) s3.out; have hl := HLK.out W s4.out; go_simp; try (with_reducible rfl))
      try simp only [Act.put, List.setIfInBounds_toArray, List.set_cons_zero, List.set_cons_succ]
      refine' wpAnyD_take (i := 8) (oi := { dst := some 34, op := Go.Op.build 37 #[(0, Go.Operand.tmp 27), (1, Go.Operand.tmp 33)], type := 37, pos := "sums.go:66", after := #[{ on := 1, ground := Go.Ground.data }, { on := 7, ground := Go.Ground.data }], guard := none }) (v := _) rfl (by kernel_rfl) (by kernel_rfl) (by kernel_rfl) (fun _ _ _ h => h) (by kernel_rfl) (Or.inl ⟨by rfl, ?hy18⟩) hS0 ?rest18
      case hy18 => (intro W hSw; go_simp; try (with_reducible rfl))
      try simp only [Act.put, List.setIfInBounds_toArray, List.set_cons_zero, List.set_cons_succ]
      refine wpAnyD_one (i := 9) (o := { dst := some 35, op := Go.Op.buildSlice 33 1 #[(0, Go.Operand.tmp 34)], type := 33, pos := "sums.go:66", after := #[{ on := 8, ground := Go.Ground.data }], guard := none }) (by kernel_rfl) rfl (fun K hK => ?_)
      rw [if_pos (by kernel_rfl)]
      go_simp
      have hS7 : (fun X : World => X.cell? ⟨sb, 0, none⟩ = some (.map (some mb)) ∧ sb < X.heap.size ∧ Hid (X.heap[b3]? = some (.cells #[.int .u64 t.1.1, .int .u64 t.1.2.1, .int .u64 t.1.2.2, .int .u64 x.1] 75 (0, 0))) ∧ Hid (X.heap[mb]? = W2.heap[mb]?)) (W2.drew.alloc (.cells #[.int .u64 x.1, .int .u64 (sm A (t, x)).1] 37)) := HKE.out _ (Kp.of_gr ((Gr.refl _).alloc _))
      refine hK.out _ _ (fun hD => hS7) ?_
      clear hK K
      try simp only [Act.put, List.setIfInBounds_toArray, List.set_cons_zero, List.set_cons_succ]
      refine wpAnyD_one (i := 10) (o := { dst := some 36, op := Go.Op.call { callee := Go.Callee.builtin Go.Builtin.append, args := #[Go.Operand.tmp 26, Go.Operand.tmp 35], argTypes := #[33, 33] }, type := 33, pos := "sums.go:66", after := #[{ on := 0, ground := Go.Ground.data }, { on := 9, ground := Go.Ground.data }], guard := none }) (by kernel_rfl) rfl (fun K hK => ?_)
      refine step_app1 ER Try.underlying33 infoR rfl (by decide) rfl _ _ rfl w.heap.size (.slice up k uc) k _ rfl HR2.out (x, sm A (t, x)) (by first | rfl | simp) (by omega) (by unfold maxLen; omega) hwsz.out _ rfl _ ?_
      intro g8 cap8 w8 HO8 HG8 HB8
      have K8 := hid (Kp.grownBy (S := fun j => (Value.slice up k uc).ownBlock = some j) HG8.out (fun _ h => h))
      have hS8 : (fun X : World => X.cell? ⟨sb, 0, none⟩ = some (.map (some mb)) ∧ sb < X.heap.size ∧ Hid (X.heap[b3]? = some (.cells #[.int .u64 t.1.1, .int .u64 t.1.2.1, .int .u64 t.1.2.2, .int .u64 x.1] 75 (0, 0))) ∧ Hid (X.heap[mb]? = W2.heap[mb]?)) w8 := HKE.out w8 K8.out
      refine hK.out _ _ (fun hD => hS8) ?_
      clear hK K
      try simp only [Act.put, List.setIfInBounds_toArray, List.set_cons_zero, List.set_cons_succ]
      refine' wpAnyD_take (i := 11) (oi := { dst := some 5, op := Go.Op.assign (Go.Operand.tmp 36), type := 33, pos := "sums.go:66", after := #[{ on := 10, ground := Go.Ground.data }, { on := 10, ground := Go.Ground.chain }, { on := 0, ground := Go.Ground.phase }, { on := 1, ground := Go.Ground.phase }, { on := 2, ground := Go.Ground.phase }, { on := 3, ground := Go.Ground.phase }, { on := 4, ground := Go.Ground.phase }, { on := 5, ground := Go.Ground.phase }, { on := 6, ground := Go.Ground.phase }, { on := 7, ground := Go.Ground.phase }, { on := 8, ground := Go.Ground.phase }, { on := 9, ground := Go.Ground.phase }, { on := 10, ground := Go.Ground.phase }], guard := none }) (v := _) rfl (by kernel_rfl) (by kernel_rfl) (by kernel_rfl) (fun _ _ _ h => h) (by kernel_rfl) (Or.inl ⟨by rfl, ?hy21⟩) hS8 ?rest21
      case hy21 => (intro W hSw; go_simp; try (with_reducible rfl))
      try simp only [Act.put, List.setIfInBounds_toArray, List.set_cons_zero, List.set_cons_succ]
      refine wpAnyD_done (by kernel_rfl) ?_ _
      obtain ⟨es, cl, hmk⟩ := HF2.out.mw.blk
      have HF8 : Hid (Fu w8 (fun k => S k ∧ k < w.heap.size) N sb mb kb (fk A t k) (hk A t k) T B (gA A)) := (HF2.out.below ((Gr.refl W2).drew).below).kp K8.out fun j hj e => by
        have := (HR2.out.lt j e).1
        omega
      have HSP8 : Hid (w8.heap[b3]? = some (.cells #[.int .u64 t.1.1, .int .u64 t.1.2.1, .int .u64 t.1.2.2, .int .u64 x.1] 75 (0, 0))) := hS8.2.2.1
      have hHI : Hid (Hid (Ls EU w8 (.slice (some ⟨gk, 0, none⟩) (kys A t).length ck) (kys A t)) ∧ w8.heap[b1]? = some (.cells #[.int .u64 t.1.1, .int .u64 t.1.2.1, .int .u64 t.1.2.2] 32 (0, 0)) ∧ Kp (fun k => S k ∧ k < w.heap.size) w w8) := by
        refine ⟨K8.out.ls (HI.out.ls.below (HG2.out.drew).below) (fun j hj e => HI.out.of.1 (by rw [e]; exact hj.symm)), ?_, ?_⟩
        · have hb := (HG2.out.drew).below
          have hl := (Array.getElem?_eq_some_iff.1 HI.out.bx).1
          exact (K8.out.block b1 (Nat.lt_of_lt_of_le hl hb.size) (fun e => HI.out.of.2 e)).trans ((hb.block b1 hl).trans HI.out.bx)
        · exact (HI.out.kp.trans (Kp.of_gr (S := fun _ => False) HG2.out.drew) (fun _ _ h => h.elim)).trans K8.out (fun j hj e => by have := (HR2.out.lt j e).1; omega)
      have hG8 : Hid (g8 ≠ gk ∧ g8 ≠ b1 ∧ w.heap.size ≤ g8) := by
        have h0 := (HO8.out.lt g8 rfl).1
        have hz := (HG2.out.drew).size
        rcases HB8.out with e | e
        · exact ⟨fun h => HI.out.of.1 (by rw [e, h]), fun h => HI.out.of.2 (by rw [e, h]), h0⟩
        · refine ⟨fun h => ?_, fun h => ?_, h0⟩
          · have := HI.out.ls.blk gk rfl
            omega
          · have := (Array.getElem?_eq_some_iff.1 HI.out.bx).1
            omega
      clear hS0 hS7 hS8 HKE HB8 hmk HF2 HR2 HSP HLK K8
      go_upto_region 9 with fail
      have HFD : Hid (Fu w8.drew (fun k => S k ∧ k < w.heap.size) N sb mb kb (fk A t k) (hk A t k) T B (gA A)) := HF8.out.below ((Gr.refl w8).drew).below
      obtain ⟨w9, hrun, hM9, hg9⟩ := HFD.out.mw.drop (t := 65) Try.underlying65 (t, x) 0
      have hrun : Sem.run Try.prog (Builtin.delete_ #[65, 75] 0 #[.map (some mb), xv (t, x)]) w8.drew = .ok (.tuple #[]) w9 := hrun
      have k9 : Kp (fun k => k = mb) w8.drew w9 := Kp.grownBy hg9 (fun k hk => by simpa using hk.symm)
      have HM9 := hid hM9
      obtain ⟨es, cl, hmk⟩ := HFD.out.mw.blk
      have hS0 : (fun X : World => X.cell? ⟨sb, 0, none⟩ = some (.map (some mb)) ∧ sb < X.heap.size ∧ Hid (X.heap[b3]? = some (.cells #[.int .u64 t.1.1, .int .u64 t.1.2.1, .int .u64 t.1.2.2, .int .u64 x.1] 75 (0, 0)))) w8.drew := ⟨HFD.out.c0, HFD.out.lt, HSP8⟩
      have hS9 : (fun X : World => X.cell? ⟨sb, 0, none⟩ = some (.map (some mb)) ∧ sb < X.heap.size ∧ Hid (X.heap[b3]? = some (.cells #[.int .u64 t.1.1, .int .u64 t.1.2.1, .int .u64 t.1.2.2, .int .u64 x.1] 75 (0, 0)))) w9 := ⟨(k9.cell HFD.out.lt HFD.out.nm).trans HFD.out.c0, Nat.lt_of_lt_of_le HFD.out.lt k9.size, (k9.block b3 (Array.getElem?_eq_some_iff.1 HSP8.out).1 (blk_ne HSP8.out hmk (by simp))).trans HSP8.out⟩
      have HTv9 : Hid (Tv w S N sb mb kb A t T B b1 gk ck (k + 1) (.slice (some ⟨g8, 0, none⟩) (k + 1) cap8) w9) := by
        have hmb : w.heap.size ≤ gk := HI.out.lk
        have him := HFD.out.im
        have him2 : mb < w.heap.size := him.2
        refine ⟨(HFD.out.setS k9 HM9.out).re (fk_next HX.out) (hk_next HX.out) (fun _ _ _ _ => rfl), ?_, HI.out.lo, ?_, HI.out.lk, ⟨?_, ?_⟩, ?_, ?_⟩
        · exact (k9.block b1 (Array.getElem?_eq_some_iff.1 hHI.out.2.1).1 (blk_ne hHI.out.2.1 hmk (by simp))).trans hHI.out.2.1
        · exact k9.ls (hHI.out.1.out.below ((Gr.refl w8).drew).below) (fun j hj e => by have h8 : gk = j := (by simpa [Value.ownBlock] using hj); omega)
        · simpa [Value.ownBlock] using hG8.out.1
        · simpa [Value.ownBlock] using hG8.out.2.1
        · rw [rcs_take HX.out, fl_append, fl_one]
          exact owns_kp k9 (owns_below HO8.out ((Gr.refl w8).drew).below) (fun j hj e => by have h8 : g8 = j := (by simpa [Value.ownBlock] using hj); have := hG8.out.2.2; omega)
        · exact (hHI.out.2.2.trans (Kp.of_gr (S := fun _ => False) (Gr.refl w8).drew) (fun _ _ h => h.elim)).trans k9 (fun j hj e => e ▸ him)
      clear hmk hM9 hg9 HFD HF8 HSP8 hHI hG8 HO8 HG8 HI HM9 k9
      refine wp_regionD (S := fun X : World => X.cell? ⟨sb, 0, none⟩ = some (.map (some mb)) ∧ sb < X.heap.size ∧ Hid (X.heap[b3]? = some (.cells #[.int .u64 t.1.1, .int .u64 t.1.2.1, .int .u64 t.1.2.2, .int .u64 x.1] 75 (0, 0)))) (D := []) hmx ?_
      refine' wpAnyD_take (i := 0) (oi := { dst := some 37, op := Go.Op.move (Go.Operand.tmp 0), type := 24, pos := "sums.go:67", after := #[], guard := none }) (v := _) rfl (by kernel_rfl) (by kernel_rfl) (by kernel_rfl) (fun _ _ _ h => h) (by kernel_rfl) (Or.inl ⟨by rfl, ?hy22⟩) hS0 ?rest22
      case hy22 => (intro W hSw; go_simp; try (with_reducible rfl))
      try simp only [Act.put, List.setIfInBounds_toArray, List.set_cons_zero, List.set_cons_succ]
      refine' wpAnyD_take (i := 1) (oi := { dst := some 38, op := Go.Op.nilCheck (Go.Operand.tmp 37), type := 0, pos := "sums.go:67", after := #[{ on := 0, ground := Go.Ground.data }], guard := none }) (v := _) rfl (by kernel_rfl) (by kernel_rfl) (by kernel_rfl) (fun _ _ _ h => h) (by kernel_rfl) (Or.inl ⟨by rfl, ?hy23⟩) hS0 ?rest23
      case hy23 => (intro W hSw; obtain ⟨s1, s2, s3⟩ := hSw; obtain ⟨m0, m1, m2, m3, m4⟩ := sp_cell (s := (t, x)) s3.out; go_simp; try (with_reducible rfl))
      try simp only [Act.put, List.setIfInBounds_toArray, List.set_cons_zero, List.set_cons_succ]
      refine' wpAnyD_take (i := 2) (oi := { dst := some 39, op := Go.Op.fieldAddr 67 (Go.Operand.tmp 38) 0, type := 0, pos := "sums.go:67", after := #[{ on := 1, ground := Go.Ground.data }], guard := none }) (v := _) rfl (by kernel_rfl) (by kernel_rfl) (by kernel_rfl) (fun _ _ _ h => h) (by kernel_rfl) (Or.inl ⟨by rfl, ?hy24⟩) hS0 ?rest24
      case hy24 => (intro W hSw; go_simp; try (with_reducible rfl))
      try simp only [Act.put, List.setIfInBounds_toArray, List.set_cons_zero, List.set_cons_succ]
      refine' wpAnyD_take (i := 3) (oi := { dst := some 40, op := Go.Op.load 65 (Go.Operand.tmp 39), type := 65, pos := "sums.go:67", after := #[{ on := 2, ground := Go.Ground.data }], guard := none }) (v := _) rfl (by kernel_rfl) (by kernel_rfl) (by kernel_rfl) (fun _ _ _ h => h) (by kernel_rfl) (Or.inl ⟨by rfl, ?hy25⟩) hS0 ?rest25
      case hy25 => (intro W hSw; obtain ⟨s1, s2, s3⟩ := hSw; obtain ⟨m0, m1, m2, m3, m4⟩ := sp_cell (s := (t, x)) s3.out; go_simp; try (with_reducible rfl))
      try simp only [Act.put, List.setIfInBounds_toArray, List.set_cons_zero, List.set_cons_succ]
      refine' wpAnyD_take (i := 4) (oi := { dst := some 41, op := Go.Op.load 75 (Go.Operand.tmp 8), type := 75, pos := "sums.go:67", after := #[], guard := none }) (v := _) rfl (by kernel_rfl) (by kernel_rfl) (by kernel_rfl) (fun _ _ _ h => h) (by kernel_rfl) (Or.inl ⟨by rfl, ?hy26⟩) hS0 ?rest26
      case hy26 => (intro W hSw; obtain ⟨s1, s2, s3⟩ := hSw; obtain ⟨m0, m1, m2, m3, m4⟩ := sp_cell (s := (t, x)) s3.out; go_simp; try (with_reducible rfl))
      try simp only [Act.put, List.setIfInBounds_toArray, List.set_cons_zero, List.set_cons_succ]
      refine wpAnyD_one (i := 5) (o := { dst := none, op := Go.Op.call { callee := Go.Callee.builtin Go.Builtin.delete, args := #[Go.Operand.tmp 40, Go.Operand.tmp 41], argTypes := #[65, 75] }, type := 0, pos := "sums.go:67", after := #[{ on := 3, ground := Go.Ground.data }, { on := 4, ground := Go.Ground.data }], guard := none }) (by kernel_rfl) rfl (fun K hK => ?_)
      rw [if_pos (by kernel_rfl)]
      go_simp
      refine hK.out _ _ (fun hD => hS9) ?_
      clear hK K
      try simp only [Act.put, List.setIfInBounds_toArray, List.set_cons_zero, List.set_cons_succ]
      refine wpAnyD_done (by kernel_rfl) ?_ _
      clear hS0 hS9 hrun
      go_wp2_with fail
      go_roundw
      case rel => exact ⟨k + 1, _, _, by omega, by go_num, rfl, HTv9.out⟩
      case measure => simp [RowKit.intOf]; omega
    · have hltz : ¬ (k : Int) < (n : Int) := by omega
      obtain rfl : k = n := by omega
      have HFD : Hid (Fu wr.drew (fun k => S k ∧ k < w.heap.size) N sb mb kb (fk A t k) (hk A t k) T B (gA A)) := HI.out.fu.below ((Gr.refl wr).drew).below
      obtain ⟨w9, hrun, hM9, hg9⟩ := HFD.out.mp.drop (t := 63) Try.underlying63 t 0
      have hrun : Sem.run Try.prog (Builtin.delete_ #[63, 32] 0 #[.map (some kb), tv t]) wr.drew = .ok (.tuple #[]) w9 := hrun
      have k9 : Kp (fun k => k = kb) wr.drew w9 := Kp.grownBy hg9 (fun k hk => by simpa using hk.symm)
      obtain ⟨es, cl, hmk⟩ := HFD.out.mp.blk
      have hS0 : (fun X : World => X.cell? ⟨sb, 1, none⟩ = some (.map (some kb)) ∧ sb < X.heap.size ∧ Hid (X.heap[b1]? = some (.cells #[.int .u64 t.1.1, .int .u64 t.1.2.1, .int .u64 t.1.2.2] 32 (0, 0)))) wr.drew := ⟨HFD.out.c1, HFD.out.lt, HI.out.bx⟩
      have hS9 : (fun X : World => X.cell? ⟨sb, 1, none⟩ = some (.map (some kb)) ∧ sb < X.heap.size ∧ Hid (X.heap[b1]? = some (.cells #[.int .u64 t.1.1, .int .u64 t.1.2.1, .int .u64 t.1.2.2] 32 (0, 0)))) w9 := ⟨(k9.cell HFD.out.lt HFD.out.nk).trans HFD.out.c1, Nat.lt_of_lt_of_le HFD.out.lt k9.size, (k9.block b1 (Array.getElem?_eq_some_iff.1 HI.out.bx).1 (blk_ne HI.out.bx hmk (by simp))).trans HI.out.bx⟩
      have HFin : Hid (Td w S N sb A t (.slice up k uc) w9) := by
        have him := HFD.out.ik
        have hrk : (rcs A t).length = k := by rw [rcs_len]; exact HN.out.symm
        have hw : (rcs A t).take k = rcs A t := by rw [← hrk, List.take_length]
        refine ⟨?_, .inr ⟨mb, kb, updP T t none, B, ?_, fun u => ?_⟩, ?_⟩
        · rw [hrk]
          have := HI.out.row
          rw [hw] at this
          exact owns_kp k9 (owns_below this ((Gr.refl wr).drew).below) (fun j hj e => by have := (HI.out.row.lt j hj).1; have := him.2; omega)
        · refine (HFD.out.dropK k9 hM9 fun u r hu => ?_).re (fun s => ?_) (fun s => ?_) (fun u r hu kk => ?_)
          · by_cases e : u = t
            · rw [e, updP_same] at hu; cases hu
            · rw [updP_other _ _ e] at hu; exact hu
          · rw [HN.out]; exact fk_end A t s
          · rw [HN.out]; exact hk_end A t s
          · by_cases e : u = t
            · rw [e, updP_same] at hu; cases hu
            · exact ga_lft e kk
        · rw [hld_lft]
          by_cases e : u = t
          · rw [e, updP_same]; simp
          · rw [updP_other _ _ e, HT.out u]; simp [e]
        · exact (HI.out.kp.trans (Kp.of_gr (S := fun _ => False) (Gr.refl wr).drew) (fun _ _ h => h.elim)).trans k9 (fun j hj e => e ▸ him)
      clear hmk hM9 hg9 HFD k9 HI
      go_upto_region 11 with fail
      refine wp_regionD (S := fun X : World => X.cell? ⟨sb, 1, none⟩ = some (.map (some kb)) ∧ sb < X.heap.size ∧ Hid (X.heap[b1]? = some (.cells #[.int .u64 t.1.1, .int .u64 t.1.2.1, .int .u64 t.1.2.2] 32 (0, 0)))) (D := []) hmx ?_
      refine' wpAnyD_take (i := 0) (oi := { dst := some 43, op := Go.Op.move (Go.Operand.tmp 0), type := 24, pos := "sums.go:69", after := #[], guard := none }) (v := _) rfl (by kernel_rfl) (by kernel_rfl) (by kernel_rfl) (fun _ _ _ h => h) (by kernel_rfl) (Or.inl ⟨by rfl, ?hy28⟩) hS0 ?rest28
      case hy28 => (intro W hSw; go_simp; try (with_reducible rfl))
      try simp only [Act.put, List.setIfInBounds_toArray, List.set_cons_zero, List.set_cons_succ]
      refine' wpAnyD_take (i := 1) (oi := { dst := some 44, op := Go.Op.nilCheck (Go.Operand.tmp 43), type := 0, pos := "sums.go:69", after := #[{ on := 0, ground := Go.Ground.data }], guard := none }) (v := _) rfl (by kernel_rfl) (by kernel_rfl) (by kernel_rfl) (fun _ _ _ h => h) (by kernel_rfl) (Or.inl ⟨by rfl, ?hy29⟩) hS0 ?rest29
      case hy29 => (intro W hSw; obtain ⟨s1, s2, s3⟩ := hSw; obtain ⟨m0, m1, m2, m3⟩ := bx_cell s3.out; go_simp; try (with_reducible rfl))
      try simp only [Act.put, List.setIfInBounds_toArray, List.set_cons_zero, List.set_cons_succ]
      refine' wpAnyD_take (i := 2) (oi := { dst := some 45, op := Go.Op.fieldAddr 67 (Go.Operand.tmp 44) 1, type := 0, pos := "sums.go:69", after := #[{ on := 1, ground := Go.Ground.data }], guard := none }) (v := _) rfl (by kernel_rfl) (by kernel_rfl) (by kernel_rfl) (fun _ _ _ h => h) (by kernel_rfl) (Or.inl ⟨by rfl, ?hy30⟩) hS0 ?rest30
      case hy30 => (intro W hSw; go_simp; try (with_reducible rfl))
      try simp only [Act.put, List.setIfInBounds_toArray, List.set_cons_zero, List.set_cons_succ]
      refine' wpAnyD_take (i := 3) (oi := { dst := some 46, op := Go.Op.load 63 (Go.Operand.tmp 45), type := 63, pos := "sums.go:69", after := #[{ on := 2, ground := Go.Ground.data }], guard := none }) (v := _) rfl (by kernel_rfl) (by kernel_rfl) (by kernel_rfl) (fun _ _ _ h => h) (by kernel_rfl) (Or.inl ⟨by rfl, ?hy31⟩) hS0 ?rest31
      case hy31 => (intro W hSw; obtain ⟨s1, s2, s3⟩ := hSw; obtain ⟨m0, m1, m2, m3⟩ := bx_cell s3.out; go_simp; try (with_reducible rfl))
      try simp only [Act.put, List.setIfInBounds_toArray, List.set_cons_zero, List.set_cons_succ]
      refine' wpAnyD_take (i := 4) (oi := { dst := some 47, op := Go.Op.load 32 (Go.Operand.tmp 3), type := 32, pos := "sums.go:69", after := #[], guard := none }) (v := _) rfl (by kernel_rfl) (by kernel_rfl) (by kernel_rfl) (fun _ _ _ h => h) (by kernel_rfl) (Or.inl ⟨by rfl, ?hy32⟩) hS0 ?rest32
      case hy32 => (intro W hSw; obtain ⟨s1, s2, s3⟩ := hSw; obtain ⟨m0, m1, m2, m3⟩ := bx_cell s3.out; go_simp; try (with_reducible rfl))
      try simp only [Act.put, List.setIfInBounds_toArray, List.set_cons_zero, List.set_cons_succ]
      refine wpAnyD_one (i := 5) (o := { dst := none, op := Go.Op.call { callee := Go.Callee.builtin Go.Builtin.delete, args := #[Go.Operand.tmp 46, Go.Operand.tmp 47], argTypes := #[63, 32] }, type := 0, pos := "sums.go:69", after := #[{ on := 3, ground := Go.Ground.data }, { on := 4, ground := Go.Ground.data }], guard := none }) (by kernel_rfl) rfl (fun K hK => ?_)
      rw [if_pos (by kernel_rfl)]
      go_simp
      refine hK.out _ _ (fun hD => hS9) ?_
      clear hK K
      try simp only [Act.put, List.setIfInBounds_toArray, List.set_cons_zero, List.set_cons_succ]
      refine wpAnyD_done (by kernel_rfl) ?_ _
      clear hS0 hS9 hrun
      go_wp2_with fail
      go_ret
      exact ⟨_, rfl, HFin.out⟩
set_option maxHeartbeats 1000000 in
/-- A time that is not held: nothing is looked up, nothing goes out. -/
theorem Su.miss {w : World} {S : Nat → Prop} {N sb : Nat} {A : List Ct} {t : Tm} {o : Option Nat} (h : Su w S N sb A) (hx : ¬ Hld A t) (ho : w.cell? ⟨sb, 1, none⟩ = some (.map o)) :
    (Instr.lookup 63 (.map o) (tv t) false).run Try.prog w = .ok (.pointer none) w ∧ ∃ w9, Sem.run Try.prog (Builtin.delete_ #[63, 32] 0 #[.map o, tv t]) w = .ok (.tuple #[]) w9 ∧ Su w9 S N sb A ∧ Kp S w w9 ∧ w9.cell? ⟨sb, 1, none⟩ = some (.map o) ∧ ∀ (j : Nat) (cs : Array Value) (ty : TypeId), w.heap[j]? = some (Obj.cells cs ty (0, 0)) → w9.heap[j]? = some (Obj.cells cs ty (0, 0)) := by
  rcases h with ⟨rfl, o', h2, h3, h4⟩ | ⟨mb, kb, T, B, h1, h2⟩
  · have e : o = o' := by
      have : w.cell? ⟨sb, 1, none⟩ = some (.map o') := by simp [World.cell?, h2]
      rw [ho] at this
      simpa using this
    subst e
    cases o with
    | none => exact ⟨Maps.look_nil false ZT.law Try.underlying63 (zeroP _) (ZT.key t), w, Maps.drop_nil ZT.law Try.underlying63 (ZT.key t) 0, .inl ⟨rfl, none, h2, h3, h4⟩, Kp.refl _ _, ho, fun _ _ _ h => h⟩
    | some kb =>
      obtain ⟨hk, hm⟩ := h4 kb rfl
      obtain ⟨w9, hrun, hM9, hg9⟩ := hm.drop (t := 63) Try.underlying63 t 0
      have k9 : Kp (fun k => k = kb) w w9 := Kp.grownBy hg9 (fun k hk => by simpa using hk.symm)
      obtain ⟨es, cl, hmk⟩ := hm.blk
      have hcl : ∀ (j : Nat) (cs : Array Value) (ty : TypeId), w.heap[j]? = some (Obj.cells cs ty (0, 0)) → w9.heap[j]? = some (Obj.cells cs ty (0, 0)) := fun j cs ty hj => (k9.block j (Array.getElem?_eq_some_iff.1 hj).1 (blk_ne hj hmk (by simp))).trans hj
      refine ⟨hm.look (t := 63) Try.underlying63 zeroP t, w9, hrun, .inl ⟨rfl, some kb, hcl sb _ _ h2, h3, fun kb' e => ?_⟩, k9.mono (fun k e => e ▸ hk), ?_, hcl⟩
      · cases e
        exact ⟨hk, hM9.re fun s => by unfold updP; split <;> rfl⟩
      · simp [World.cell?, hcl sb _ _ h2]
  · have e : o = some kb := by
      rw [h1.c1] at ho
      simpa using ho.symm
    subst e
    have hTx : T t = none := by
      cases hq : T t with
      | none => rfl
      | some q => exact absurd ((h2 t).1 (by rw [hq]; rfl)) hx
    obtain ⟨w9, hrun, hM9, hg9⟩ := h1.mp.drop (t := 63) Try.underlying63 t 0
    have k9 : Kp (fun k => k = kb) w w9 := Kp.grownBy hg9 (fun k hk => by simpa using hk.symm)
    obtain ⟨es, cl, hmk⟩ := h1.mp.blk
    have hl := h1.mp.look (t := 63) Try.underlying63 zeroP t
    rw [hTx] at hl
    have hF9 := h1.dropK k9 (hM9.re (g := T) fun s => by
      by_cases e : s = t
      · rw [e, updP_same, hTx]
      · rw [updP_other _ _ e]) (fun _ _ h => h)
    exact ⟨hl, w9, hrun, .inr ⟨mb, kb, T, B, hF9, h2⟩, k9.mono (fun k e => e ▸ h1.ik), hF9.c1, fun j cs ty hj => (k9.block j (Array.getElem?_eq_some_iff.1 hj).1 (blk_ne hj hmk (by simp))).trans hj⟩
set_option maxHeartbeats 4000000 in
set_option maxRecDepth 100000 in
theorem tell_none {S : Nat → Prop} {N sb : Nat} {A : List Ct} (t : Tm) (w : World) (h : Su w S N sb A) (hx : ¬ Hld A t) :
    Calls Try.prog 12 #[.pointer (some ⟨sb, 0, none⟩), tv t] w fun e w' => ∃ v, e = .returned v ∧ Hid (Td w S N sb A t v w') := by
  have hmx : Try.prog.follows .mixedOrders = true := by kernel_rfl
  obtain ⟨W1, hW1⟩ : ∃ W1, W1 = w.alloc (.cells #[.int .u64 t.1.1, .int .u64 t.1.2.1, .int .u64 t.1.2.2] 32) := ⟨_, rfl⟩
  obtain ⟨b1, hb1⟩ : ∃ b1, b1 = w.heap.size := ⟨_, rfl⟩
  have G1 : Gr w W1 := by rw [hW1]; exact (Gr.refl _).alloc _
  have HX1 : Hid (W1.heap[b1]? = some (.cells #[.int .u64 t.1.1, .int .u64 t.1.2.1, .int .u64 t.1.2.2] 32 (0, 0))) := by rw [hW1, hb1]; exact heap_new' _ _
  obtain ⟨o, D, hc, -, -, -⟩ := h.keys
  have hlt := h.lt
  have HS1 : Hid (∀ X, Below W1.heap.size W1 X → Su X (fun k => S k ∧ k < w.heap.size) N sb A ∧ X.cell? ⟨sb, 1, none⟩ = some (.map o)) := fun X hX => ⟨(h.cut.below G1.below).below hX, (hX.cell (p := ⟨sb, 1, none⟩) (Nat.lt_of_lt_of_le hlt G1.size)).trans ((G1.cell hlt).trans hc)⟩
  have HLK : Hid (∀ X, Below W1.heap.size W1 X → (Instr.lookup 63 (.map o) (tv t) false).run Try.prog X = .ok (.pointer none) X) := fun X hX => ((HS1.out X hX).1.miss hx (HS1.out X hX).2).1
  have HNX := hid hx
  have HG1 := hid G1
  have hsW : sb < W1.heap.size := Nat.lt_of_lt_of_le hlt G1.size
  have hbW : b1 < W1.heap.size := (Array.getElem?_eq_some_iff.1 HX1.out).1
  clear h hc hx hlt G1
  go_enter Try.func12, Try.ntmps12
  go_upto_region 4 with fail
  rw [← hW1, ← hb1]
  clear hW1 hb1
  have hS0 : (fun X : World => Hid (Below W1.heap.size W1 X)) W1.drew := ((Gr.refl W1).drew).below
  refine wp_regionD (S := fun X : World => Hid (Below W1.heap.size W1 X)) (D := []) hmx ?_
  refine' wpAnyD_take (i := 0) (oi := { dst := some 11, op := Go.Op.move (Go.Operand.tmp 0), type := 24, pos := "sums.go:64", after := #[], guard := none }) (v := _) rfl (by kernel_rfl) (by kernel_rfl) (by kernel_rfl) (fun _ _ _ h => h) (by kernel_rfl) (Or.inl ⟨by rfl, ?hy34⟩) hS0 ?rest34
  case hy34 => (intro W hSw; go_simp; try (with_reducible rfl))
  try simp only [Act.put, List.setIfInBounds_toArray, List.set_cons_zero, List.set_cons_succ]
  refine' wpAnyD_take (i := 1) (oi := { dst := some 12, op := Go.Op.nilCheck (Go.Operand.tmp 11), type := 0, pos := "sums.go:64", after := #[{ on := 0, ground := Go.Ground.data }], guard := none }) (v := _) rfl (by kernel_rfl) (by kernel_rfl) (by kernel_rfl) (fun _ _ _ h => h) (by kernel_rfl) (Or.inl ⟨by rfl, ?hy35⟩) hS0 ?rest35
  case hy35 => (intro W hSw; obtain ⟨m0, m1, m2, m3⟩ := bx_cell ((hSw.out.block b1 hbW).trans HX1.out); have s1 := (HS1.out W hSw.out).2; have s2 := Nat.lt_of_lt_of_le hsW hSw.out.size; have hl := HLK.out W hSw.out; go_simp; try (with_reducible rfl))
  try simp only [Act.put, List.setIfInBounds_toArray, List.set_cons_zero, List.set_cons_succ]
  refine' wpAnyD_take (i := 2) (oi := { dst := some 13, op := Go.Op.fieldAddr 67 (Go.Operand.tmp 12) 1, type := 0, pos := "sums.go:64", after := #[{ on := 1, ground := Go.Ground.data }], guard := none }) (v := _) rfl (by kernel_rfl) (by kernel_rfl) (by kernel_rfl) (fun _ _ _ h => h) (by kernel_rfl) (Or.inl ⟨by rfl, ?hy36⟩) hS0 ?rest36
  case hy36 => (intro W hSw; go_simp; try (with_reducible rfl))
  try simp only [Act.put, List.setIfInBounds_toArray, List.set_cons_zero, List.set_cons_succ]
  refine' wpAnyD_take (i := 3) (oi := { dst := some 14, op := Go.Op.load 63 (Go.Operand.tmp 13), type := 63, pos := "sums.go:64", after := #[{ on := 2, ground := Go.Ground.data }], guard := none }) (v := _) rfl (by kernel_rfl) (by kernel_rfl) (by kernel_rfl) (fun _ _ _ h => h) (by kernel_rfl) (Or.inl ⟨by rfl, ?hy37⟩) hS0 ?rest37
  case hy37 => (intro W hSw; obtain ⟨m0, m1, m2, m3⟩ := bx_cell ((hSw.out.block b1 hbW).trans HX1.out); have s1 := (HS1.out W hSw.out).2; have s2 := Nat.lt_of_lt_of_le hsW hSw.out.size; have hl := HLK.out W hSw.out; go_simp; try (with_reducible rfl))
  try simp only [Act.put, List.setIfInBounds_toArray, List.set_cons_zero, List.set_cons_succ]
  refine' wpAnyD_take (i := 4) (oi := { dst := some 15, op := Go.Op.load 32 (Go.Operand.tmp 3), type := 32, pos := "sums.go:64", after := #[], guard := none }) (v := _) rfl (by kernel_rfl) (by kernel_rfl) (by kernel_rfl) (fun _ _ _ h => h) (by kernel_rfl) (Or.inl ⟨by rfl, ?hy38⟩) hS0 ?rest38
  case hy38 => (intro W hSw; obtain ⟨m0, m1, m2, m3⟩ := bx_cell ((hSw.out.block b1 hbW).trans HX1.out); have s1 := (HS1.out W hSw.out).2; have s2 := Nat.lt_of_lt_of_le hsW hSw.out.size; have hl := HLK.out W hSw.out; go_simp; try (with_reducible rfl))
  try simp only [Act.put, List.setIfInBounds_toArray, List.set_cons_zero, List.set_cons_succ]
  refine' wpAnyD_take (i := 5) (oi := { dst := some 16, op := Go.Op.lookup 63 (Go.Operand.tmp 14) (Go.Operand.tmp 15) false, type := 64, pos := "sums.go:64", after := #[{ on := 3, ground := Go.Ground.data }, { on := 4, ground := Go.Ground.data }], guard := none }) (v := _) rfl (by kernel_rfl) (by kernel_rfl) (by kernel_rfl) (fun _ _ _ h => h) (by kernel_rfl) (Or.inl ⟨by rfl, ?hy39⟩) hS0 ?rest39
  case hy39 => (intro W hSw; obtain ⟨m0, m1, m2, m3⟩ := bx_cell ((hSw.out.block b1 hbW).trans HX1.out); have s1 := (HS1.out W hSw.out).2; have s2 := Nat.lt_of_lt_of_le hsW hSw.out.size; have hl := HLK.out W hSw.out; go_simp; try (with_reducible rfl))
  try simp only [Act.put, List.setIfInBounds_toArray, List.set_cons_zero, List.set_cons_succ]
  refine' wpAnyD_take (i := 8) (oi := { dst := some 19, op := Go.Op.move (Go.Operand.const (Go.Value.int Go.IntKind.i64 0)), type := 3, pos := "sums.go:64", after := #[], guard := none }) (v := _) rfl (by kernel_rfl) (by kernel_rfl) (by kernel_rfl) (fun _ _ _ h => h) (by kernel_rfl) (Or.inl ⟨by rfl, ?hy40⟩) hS0 ?rest40
  case hy40 => (intro W hSw; go_simp; try (with_reducible rfl))
  try simp only [Act.put, List.setIfInBounds_toArray, List.set_cons_zero, List.set_cons_succ]
  refine wpAnyD_one (i := 6) (o := { dst := some 17, op := Go.Op.call { callee := Go.Callee.value (Go.Operand.func 29), args := #[Go.Operand.tmp 16], argTypes := #[64] }, type := 72, pos := "sums.go:64", after := #[{ on := 5, ground := Go.Ground.data }], guard := none }) (by kernel_rfl) rfl (fun K hK => ?_)
  rw [if_pos (by kernel_rfl)]
  go_simp
  refine (Tt.keys_nil _).mono ?_
  rintro e U ⟨rfl, rfl⟩
  go_wp2_with fail
  refine hK.out _ _ (fun hD => hS0) ?_
  clear hK K
  try simp only [Act.put, List.setIfInBounds_toArray, List.set_cons_zero, List.set_cons_succ]
  refine' wpAnyD_take (i := 7) (oi := { dst := some 18, op := Go.Op.call { callee := Go.Callee.builtin Go.Builtin.len, args := #[Go.Operand.tmp 17], argTypes := #[72] }, type := 3, pos := "sums.go:64", after := #[{ on := 6, ground := Go.Ground.data }], guard := none }) (v := _) rfl (by kernel_rfl) (by kernel_rfl) (by kernel_rfl) (fun _ _ _ h => h) (by kernel_rfl) (Or.inl ⟨by rfl, ?hy42⟩) hS0 ?rest42
  case hy42 => (intro W hSw; go_simp; try (with_reducible rfl))
  try simp only [Act.put, List.setIfInBounds_toArray, List.set_cons_zero, List.set_cons_succ]
  refine wpAnyD_done (by kernel_rfl) ?_ _
  obtain ⟨U, hU⟩ : ∃ U, U = W1.drew := ⟨_, rfl⟩
  rw [← hU]
  have HU : Hid (Below W1.heap.size W1 U) := by rw [hU]; exact ((Gr.refl W1).drew).below
  clear hU hS0
  go_wp2_with fail
  go_loopw [5, 7, 8, 19] (fun s5 _ _ s19 wr => s19 = .int .i64 0 ∧ s5 = .slice none 0 0 ∧ wr = U) (fun _ _ _ _ _ => 0)
  case atStart => exact ⟨rfl, rfl, rfl⟩
  case round =>
    obtain ⟨rfl, rfl, rfl⟩ := hrel
    have hB := HU.out.trans (((Gr.refl wr).drew).below.mono HU.out.size)
    obtain ⟨hl, w9, hrun, hSu, hKp, hc9, hcl⟩ := (HS1.out _ hB).1.miss HNX.out (HS1.out _ hB).2
    have hx9 := hcl b1 _ _ ((hB.block b1 hbW).trans HX1.out)
    have HFin : Hid (Td w S N sb A t (.slice none 0 0) w9) := by
      refine ⟨by rw [rcs_none HNX.out]; exact World.ownsRow_nil _ _ _ _, by rw [lft_nil_of HNX.out]; exact hSu, ?_⟩
      exact ((Kp.of_gr HG1.out).trans (Kp.of_below (S := fun _ => False) hB) (fun _ _ h => h.elim)).trans hKp (fun _ _ h => h)
    have hl9 : sb < w9.heap.size := hSu.lt
    clear hl hSu hKp hcl
    go_upto_region 11 with fail
    have hS0 : (fun X : World => X.cell? ⟨sb, 1, none⟩ = some (.map o) ∧ sb < X.heap.size ∧ Hid (X.heap[b1]? = some (.cells #[.int .u64 t.1.1, .int .u64 t.1.2.1, .int .u64 t.1.2.2] 32 (0, 0)))) wr.drew := ⟨(HS1.out _ hB).2, (HS1.out _ hB).1.lt, (hB.block b1 hbW).trans HX1.out⟩
    have hS9 : (fun X : World => X.cell? ⟨sb, 1, none⟩ = some (.map o) ∧ sb < X.heap.size ∧ Hid (X.heap[b1]? = some (.cells #[.int .u64 t.1.1, .int .u64 t.1.2.1, .int .u64 t.1.2.2] 32 (0, 0)))) w9 := ⟨hc9, hl9, hx9⟩
    refine wp_regionD (S := fun X : World => X.cell? ⟨sb, 1, none⟩ = some (.map o) ∧ sb < X.heap.size ∧ Hid (X.heap[b1]? = some (.cells #[.int .u64 t.1.1, .int .u64 t.1.2.1, .int .u64 t.1.2.2] 32 (0, 0)))) (D := []) hmx ?_
    refine' wpAnyD_take (i := 0) (oi := { dst := some 43, op := Go.Op.move (Go.Operand.tmp 0), type := 24, pos := "sums.go:69", after := #[], guard := none }) (v := _) rfl (by kernel_rfl) (by kernel_rfl) (by kernel_rfl) (fun _ _ _ h => h) (by kernel_rfl) (Or.inl ⟨by rfl, ?hy43⟩) hS0 ?rest43
    case hy43 => (intro W hSw; go_simp; try (with_reducible rfl))
    try simp only [Act.put, List.setIfInBounds_toArray, List.set_cons_zero, List.set_cons_succ]
    refine' wpAnyD_take (i := 1) (oi := { dst := some 44, op := Go.Op.nilCheck (Go.Operand.tmp 43), type := 0, pos := "sums.go:69", after := #[{ on := 0, ground := Go.Ground.data }], guard := none }) (v := _) rfl (by kernel_rfl) (by kernel_rfl) (by kernel_rfl) (fun _ _ _ h => h) (by kernel_rfl) (Or.inl ⟨by rfl, ?hy44⟩) hS0 ?rest44
    case hy44 => (intro W hSw; obtain ⟨s1, s2, s3⟩ := hSw; obtain ⟨m0, m1, m2, m3⟩ := bx_cell s3.out; go_simp; try (with_reducible rfl))
    try simp only [Act.put, List.setIfInBounds_toArray, List.set_cons_zero, List.set_cons_succ]
    refine' wpAnyD_take (i := 2) (oi := { dst := some 45, op := Go.Op.fieldAddr 67 (Go.Operand.tmp 44) 1, type := 0, pos := "sums.go:69", after := #[{ on := 1, ground := Go.Ground.data }], guard := none }) (v := _) rfl (by kernel_rfl) (by kernel_rfl) (by kernel_rfl) (fun _ _ _ h => h) (by kernel_rfl) (Or.inl ⟨by rfl, ?hy45⟩) hS0 ?rest45
    case hy45 => (intro W hSw; go_simp; try (with_reducible rfl))
    try simp only [Act.put, List.setIfInBounds_toArray, List.set_cons_zero, List.set_cons_succ]
    refine' wpAnyD_take (i := 3) (oi := { dst := some 46, op := Go.Op.load 63 (Go.Operand.tmp 45), type := 63, pos := "sums.go:69", after := #[{ on := 2, ground := Go.Ground.data }], guard := none }) (v := _) rfl (by kernel_rfl) (by kernel_rfl) (by kernel_rfl) (fun _ _ _ h => h) (by kernel_rfl) (Or.inl ⟨by rfl, ?hy46⟩) hS0 ?rest46
    case hy46 => (intro W hSw; obtain ⟨s1, s2, s3⟩ := hSw; obtain ⟨m0, m1, m2, m3⟩ := bx_cell s3.out; go_simp; try (with_reducible rfl))
    try simp only [Act.put, List.setIfInBounds_toArray, List.set_cons_zero, List.set_cons_succ]
    refine' wpAnyD_take (i := 4) (oi := { dst := some 47, op := Go.Op.load 32 (Go.Operand.tmp 3), type := 32, pos := "sums.go:69", after := #[], guard := none }) (v := _) rfl (by kernel_rfl) (by kernel_rfl) (by kernel_rfl) (fun _ _ _ h => h) (by kernel_rfl) (Or.inl ⟨by rfl, ?hy47⟩) hS0 ?rest47
    case hy47 => (intro W hSw; obtain ⟨s1, s2, s3⟩ := hSw; obtain ⟨m0, m1, m2, m3⟩ := bx_cell s3.out; go_simp; try (with_reducible rfl))
    try simp only [Act.put, List.setIfInBounds_toArray, List.set_cons_zero, List.set_cons_succ]
    refine wpAnyD_one (i := 5) (o := { dst := none, op := Go.Op.call { callee := Go.Callee.builtin Go.Builtin.delete, args := #[Go.Operand.tmp 46, Go.Operand.tmp 47], argTypes := #[63, 32] }, type := 0, pos := "sums.go:69", after := #[{ on := 3, ground := Go.Ground.data }, { on := 4, ground := Go.Ground.data }], guard := none }) (by kernel_rfl) rfl (fun K hK => ?_)
    rw [if_pos (by kernel_rfl)]
    go_simp
    refine hK.out _ _ (fun hD => hS9) ?_
    clear hK K
    try simp only [Act.put, List.setIfInBounds_toArray, List.set_cons_zero, List.set_cons_succ]
    refine wpAnyD_done (by kernel_rfl) ?_ _
    clear hS0 hS9 hrun
    go_wp2_with fail
    go_ret
    exact ⟨_, rfl, HFin.out⟩
theorem gsum_len {A : List Ct} {t : Tm} {w : World} {q b g N : Nat} (h : Tl w q b g N (gA A t)) : (kys A t).length ≤ N := by
  obtain ⟨D, h1, h2, h3⟩ := h.ta
  obtain ⟨ks, hk, hl⟩ := owns_sup h1 h3
  have e : (kys A t).length ≤ ks.length := length_le_of_sub (kys_nodup A t) fun k hk2 => (hk.2 k).2 (by unfold gA; rw [if_pos ((mem_kys A t k).1 hk2)]; decide)
  have := h1.size_le
  omega
theorem tell_any {S : Nat → Prop} {N sb : Nat} {A : List Ct} (t : Tm) (w : World) (h : Su w S N sb A) (hN : N ≤ 100000000) :
    Calls Try.prog 12 #[.pointer (some ⟨sb, 0, none⟩), tv t] w fun e w' => ∃ v, e = .returned v ∧ Hid (Td w S N sb A t v w') := by
  by_cases hx : Hld A t
  · rcases h with ⟨rfl, _⟩ | ⟨mb, kb, T, B, h1, h2⟩
    · obtain ⟨c, hc, _⟩ := hx
      cases hc
    · obtain ⟨q, hq⟩ : ∃ q, T t = some q := Option.isSome_iff_exists.1 ((h2 t).2 hx)
      exact tell_held t w h1 h2 hx hN (Nat.le_trans (gsum_len (h1.each t q hq)) hN)
  · exact tell_none t w h hx
theorem Su.len {w : World} {S : Nat → Prop} {N sb : Nat} {A : List Ct} (h : Su w S N sb A) (t : Tm) : (rcs A t).length ≤ N := by
  rw [rcs_len]
  by_cases hx : Hld A t
  · rcases h with ⟨rfl, _⟩ | ⟨mb, kb, T, B, h1, h2⟩
    · obtain ⟨c, hc, _⟩ := hx
      cases hc
    · obtain ⟨q, hq⟩ : ∃ q, T t = some q := Option.isSome_iff_exists.1 ((h2 t).2 hx)
      exact gsum_len (h1.each t q hq)
  · have := rcs_none hx
    rw [← rcs_len, this]
    exact Nat.zero_le _
end Go.Proofs.Ytijbmchgajhkeaa
