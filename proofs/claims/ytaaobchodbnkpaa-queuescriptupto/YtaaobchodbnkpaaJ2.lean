import Derived.Test.YtaaobchodbnkpaaJ1
namespace Go.Proofs.Ytaaobchodbnkpaa.Qe
open Go.RowKit Go.Sort
attribute [local go_sem ↓] Go.wp_at_zero Go.wp_at_succ

/-- Its blocks, all of them old. -/
theorem Rd.mono {w : World} {S S' : Nat → Prop} {rb N : Nat} {v : Value} {L : List Ms} (h : Rd w S rb N v L) (hS : ∀ k, k < w.heap.size → S k → S' k) : Rd w S' rb N v L := ⟨h.blk, h.own, hS rb h.lt h.sb, fun g hg => hS g (h.own.lt g hg).2 (h.sv g hg)⟩
/-- What Take answers of the document's list, and leaves. -/
def rtk (N : Nat) (L : List Ms) (p : Int) : Ms × Nat := if Plc N p then (match atp L p with | x :: _ => (x, 0) | [] => (mz, 43)) else (mz, 42)
def rtn (N : Nat) (L : List Ms) (p : Int) : List Ms := if Plc N p then (match atp L p with | _ :: _ => wo p 1 L | [] => L) else L
def Rt (w : World) (S : Nat → Prop) (rb N : Nat) (L : List Ms) (w' : World) : Prop := ∃ v, Rd w' (nx S w w') rb N v L ∧ Kp S w w'
/-- A new box is written, and the queue behind it stays. -/
theorem Rt.box {w W W' : World} {S : Nat → Prop} {rb N b : Nat} {v : Value} {L : List Ms} (h : Rd W (nx (fun k => S k ∧ k < b) w W) rb N v L) (hk : Kp (fun k => S k ∧ k < b) w W) (hb : w.heap.size ≤ b) (hlo : ∀ k, nx (fun k => S k ∧ k < b) w W k → k ≠ b) (hkb : Kp (fun k => k = b) W W') : Rt w S rb N L W' := by
  have h1 := h.kp hkb (fun k _ hs e => hlo k hs e)
  refine ⟨v, h1.mono (fun k hk hs => ?_), (hk.mono (fun _ h => h.1)).trans hkb (fun k hk e => by omega)⟩
  rcases hs with hs | hs
  · exact Or.inl hs.1
  · exact Or.inr ⟨hs.1, hk⟩
def rdn (N : Nat) (L : List Ms) (p : Int) : List Ms := if Plc N p then wo p (atp L p).length L else L
def rls (N : Nat) (L : List Ms) (p : Int) : List Ms := if Plc N p then atp L p else []
/-- What Drain answers and leaves: the list lies ahead of mid, what is new of the queue behind it. -/
def Rdr (w : World) (S : Nat → Prop) (rb N : Nat) (L : List Ms) (p : Int) (e : Ending) (w' : World) : Prop :=
  ∃ u, e = .returned (.tuple #[u, .int .i64 (pe N p : Nat)]) ∧ (∃ q c, u = .slice q (rls N L p).length c) ∧ Hid (∃ v mid, w.heap.size ≤ mid ∧ (∀ g, u.ownBlock = some g → g < mid) ∧ w'.ownsRow w.heap.size 36 6 u (rls N L p).length (fl EM (rls N L p)) ∧ Rd w' (fun k => S k ∨ (mid ≤ k ∧ k < w'.heap.size)) rb N v (rdn N L p) ∧ Kp S w w')
set_option maxHeartbeats 4000000 in
theorem rdrain_any {S : Nat → Prop} {rb N : Nat} {v : Value} {L : List Ms} (p : Int) (w : World) (h : Rd w S rb N v L) (hb : L.length * 48 ≤ 140737488355328) : Calls Try.prog 32 #[.pointer (some ⟨rb, 0, none⟩), .int .i64 p] w (Rdr w S rb N L p) := by
  have hli := rlist_any p w h hb
  have HR := hid h
  have HB := hid hb
  have c0 := h.c0
  have hl := h.lt
  unfold Rdr pe rls rdn
  clear h hb
  by_cases hP : Plc N p
  · simp only [if_pos hP]
    have a1 : ¬ (p < 0) := by have := hP.1; omega
    have a2 : ¬ ((N : Int) ≤ p) := by have := hP.2; omega
    clear hP
    obtain ⟨A, hA⟩ : ∃ A, A = atp L p := ⟨_, rfl⟩
    rw [← hA] at hli ⊢
    have HAL : Hid (A.length ≤ L.length) := by rw [hA]; exact List.length_filter_le _ _
    have HW := hid (fun (W : World) (hB : Below w.heap.size w W) => rwithout_any p A.length W (HR.out.below hB) HB.out (by have h1 := HAL.out; have h2 := HB.out; omega))
    clear hA
    go_enter Try.func32, Try.ntmps32
    go_wp2_with fail
    refine hli.mono ?_
    rintro e w1 ⟨u, rfl, ⟨q, c, rfl⟩, ho, hB⟩
    have HO := hid ho
    have HB1 := hid hB
    have hwo := HW.out w1 hB
    clear ho hB hli
    go_wp2_with fail
    refine hwo.mono ?_
    rintro e w2 ⟨rfl, h2⟩
    go_wp2_with fail
    refine bodyPost_ret (v := .tuple #[.slice q A.length c, .int .i64 0]) (by simp [results, Try.results32, go_sem]) rfl ?_
    obtain ⟨v2, hR2, hK2⟩ := h2.out
    refine ⟨_, rfl, ⟨_, _, rfl⟩, v2, w1.heap.size, HB1.out.size, fun g hg => (HO.out.lt g hg).2, owns_kp hK2 HO.out (fun k hk e => ?_), hR2.mono (fun k _ hs => hs), (Kp.of_below HB1.out).trans (hK2.mono (fun k e => by rw [e]; exact HR.out.sb)) (fun _ _ h => h)⟩
    have h1 := (HO.out.lt k hk).1
    have h3 := HR.out.lt
    omega
  · simp only [if_neg hP]
    have hcase : p < 0 ∨ (¬ (p < 0) ∧ (N : Int) ≤ p) := by
      by_cases e : p < 0
      · exact Or.inl e
      · refine Or.inr ⟨e, ?_⟩
        by_cases e2 : (N : Int) ≤ p
        · exact e2
        · exact absurd ⟨by omega, by omega⟩ hP
    clear hP
    rcases hcase with a1 | ⟨a1, a2⟩
    all_goals (
      go_enter Try.func32, Try.ntmps32
      go_wp2
      refine bodyPost_ret (v := .tuple #[.slice none 0 0, .int .i64 42]) (by simp [results, Try.results32, go_sem]) rfl ?_
      exact ⟨_, rfl, ⟨_, _, rfl⟩, v, w.heap.size, Nat.le_refl _, fun g hg => by simp [Value.ownBlock] at hg, World.ownsRow_nil _ _ _ _, HR.out.mono (fun k _ hs => Or.inl hs), Kp.refl _ _⟩)
set_option maxHeartbeats 2000000 in
theorem rcopy_any {S : Nat → Prop} {rb N : Nat} {v : Value} {L : List Ms} (w : World) (h : Rd w S rb N v L) (hb : L.length * 48 ≤ 140737488355328) : Calls Try.prog 19 #[.pointer (some ⟨rb, 0, none⟩)] w fun e w' => ∃ b, e = .returned (.pointer (some ⟨b, 0, none⟩)) ∧ Hid (w.heap.size ≤ b ∧ (∃ v', Rd w' (fun k => w.heap.size ≤ k) b N v' L) ∧ Below w.heap.size w w') := by
  have HR := hid h
  have c0 := h.c0
  have c1 := h.c1
  have hl := h.lt
  have HLS := hid (owns_ls (E := EM) h.own)
  have HBG : Hid ((0 + L.length) * 48 ≤ 140737488355328 ∧ 0 + L.length ≤ maxLen) := ⟨by omega, by unfold maxLen; omega⟩
  clear h hb
  go_enter Try.func19, Try.ntmps19
  go_wp2_with (at_builtin; refine wpAppL EM Try.underlying22 infoM rfl (by decide) rfl _ _ rfl w.heap.size _ 0 [] rfl (World.ownsRow_nil _ _ _ _) _ L rfl HLS.out HBG.out.1 HBG.out.2 (Nat.le_refl _) ?_)
  intro v2 w2 ho2 hg2
  have HB2 : Hid (Below w.heap.size w w2) := (Kp.grownBy (S := fun _ => False) hg2 (fun k hk => by simp [Value.ownBlock] at hk)).below (Nat.le_refl _) (fun _ h => h.elim)
  have HO2 := hid ho2
  have d0 := (HB2.out.cell (p := ⟨rb, 0, none⟩) hl).trans c0
  have hl2 := Nat.lt_of_lt_of_le hl HB2.out.size
  obtain ⟨q2, n2, c2, rfl⟩ : ∃ q2 n2 c2, v2 = .slice q2 n2 c2 := by
    rcases owns_form ho2 with ⟨rfl, _⟩ | ⟨g, cap, rfl, _⟩
    · exact ⟨_, _, _, rfl⟩
    · exact ⟨_, _, _, rfl⟩
  clear ho2 hg2
  go_wp2_with fail
  go_ret
  have hG : Gr w2 (w2.alloc (.cells #[.int .i64 (N : Nat), .slice q2 n2 c2] 71)) := (Gr.refl _).alloc _
  exact ⟨_, rfl, HB2.out.size, ⟨_, ⟨heap_new' _ _, owns_base (owns_below (owns_re HO2.out (by simp) (by simp)) hG.below) (Nat.zero_le _), HB2.out.size, fun g hg => (HO2.out.lt g hg).1⟩⟩, HB2.out.trans (hG.below.mono HB2.out.size)⟩
end Go.Proofs.Ytaaobchodbnkpaa.Qe

namespace Go.Proofs.Ytaaobchodbnkpaa.Qe
open Go.RowKit Go.Sort
attribute [local go_sem ↓] Go.wp_at_zero Go.wp_at_succ

set_option maxHeartbeats 4000000 in
set_option maxRecDepth 100000 in
theorem rtake_doc {S : Nat → Prop} {rb N : Nat} {v : Value} {L : List Ms} (p : Int) (w : World) (h : Rd w S rb N v L) (hb : L.length * 48 ≤ 140737488355328) : Calls Try.prog 31 #[.pointer (some ⟨rb, 0, none⟩), .int .i64 p] w fun e w' => e = .returned (tkv (rtk N L p)) ∧ Hid (Rt w S rb N (rtn N L p) w') := by
  obtain ⟨W1, hW1⟩ : ∃ W1, W1 = w.alloc (.cells #[.int .i64 0, .int .u64 0, .int .u64 0, .int .u64 0, .int .u64 0, .int .u64 0] 36) := ⟨_, rfl⟩
  obtain ⟨b1, hb1⟩ : ∃ b1, b1 = w.heap.size := ⟨_, rfl⟩
  have G1 : Gr w W1 := by rw [hW1]; exact (Gr.refl _).alloc _
  have HBX : Hid (W1.heap[b1]? = some (.cells #[.int .i64 0, .int .u64 0, .int .u64 0, .int .u64 0, .int .u64 0, .int .u64 0] 36 (0, 0))) := by rw [hW1, hb1]; exact heap_new' _ _
  have h := h.mono (S' := fun k => S k ∧ k < b1) (fun k hk hs => ⟨hs, by rw [hb1]; exact hk⟩)
  have h1 := h.below G1.below
  have HR := hid h1
  have hli := rlist_any p W1 h1 hb
  have HB := hid hb
  have c0 := h1.c0
  have hl := h1.lt
  have HG := hid G1
  have HBB : Hid (w.heap.size ≤ b1) := by show _ ≤ _; omega
  obtain ⟨q0, q1, q2, q3, q4, q5⟩ : Mc W1 b1 0 mz := by simp [Mc, World.cell?, HBX.out]
  have hbl : b1 < W1.heap.size := (Array.getElem?_eq_some_iff.1 HBX.out).1
  have fz : ∀ q, W1.frozen? ⟨b1, q, none⟩ = false := fun q => by simp [World.frozen?, HBX.out]
  have HZ0 := hid (set6_blk (y := mz) mz HBX.out)
  unfold rtk rtn
  clear h h1 hb G1
  by_cases hP : Plc N p
  · simp only [if_pos hP]
    have a1 : ¬ (p < 0) := by have := hP.1; omega
    have a2 : ¬ ((N : Int) ≤ p) := by have := hP.2; omega
    clear hP
    cases hq : atp L p with
    | nil =>
      rw [hq] at hli
      clear hq
      go_enter Try.func31, Try.ntmps31
      go_upto_region 1 with fail
      rw [← hW1, ← hb1]
      clear hW1 hb1
      go_wp2_with fail
      refine hli.mono ?_
      rintro e w2 ⟨u, rfl, ⟨q, c, rfl⟩, ho, hB⟩
      have HB2 := hid hB
      have hbx : w2.heap[b1]? = some (.cells #[.int .i64 0, .int .u64 0, .int .u64 0, .int .u64 0, .int .u64 0, .int .u64 0] 36 (0, 0)) := (hB.block b1 hbl).trans HBX.out
      obtain ⟨p0, p1, p2, p3, p4, p5⟩ : Mc w2 b1 0 mz := by simp [Mc, World.cell?, hbx]
      have fz2 : ∀ q, w2.frozen? ⟨b1, q, none⟩ = false := fun q => by simp [World.frozen?, hbx]
      have hl2 : b1 < w2.heap.size := (Array.getElem?_eq_some_iff.1 hbx).1
      have HZ2 := hid (set6_blk (y := mz) mz hbx)
      clear ho hB hbx hli
      go_wp2_with fail
      obtain ⟨⟨r0, r1, r2, r3, r4, r5⟩, hk7⟩ := HZ2.out
      have HK7 := hid hk7
      generalize ((((((w2.setCell ⟨b1, 0, none⟩ (.int .i64 0)).setCell ⟨b1, 1, none⟩ (.int .u64 0)).setCell ⟨b1, 2, none⟩ (.int .u64 0)).setCell ⟨b1, 3, none⟩ (.int .u64 0)).setCell ⟨b1, 4, none⟩ (.int .u64 0)).setCell ⟨b1, 5, none⟩ (.int .u64 0)) = W7 at *
      refine bodyPost_ret (v := tkv (mz, 43)) (by simp [results, Try.results31, go_sem, r0, r1, r2, r3, r4, r5]) rfl ?_
      have hR2 := (HR.out.below HB2.out).mono (S' := nx (fun k => S k ∧ k < b1) w w2) (fun k _ hs => Or.inl hs)
      refine ⟨rfl, ?_⟩
      have h3 := hR2.kp (R := fun k => k = b1 ∧ False) ⟨rfl, rfl, rfl, Nat.le_refl _, fun _ _ _ => rfl⟩ (fun _ _ _ e => e.2.elim)
      refine ⟨v, (HR.out.below HB2.out).kp HK7.out (fun k _ hs e => by have := hs.2; omega) |>.mono (fun k _ hs => Or.inl hs.1), ?_⟩
      exact ((Kp.of_gr HG.out).trans (T := fun _ => False) (Kp.of_below HB2.out) (fun _ _ h => h.elim)).trans HK7.out (fun k hk e => by have := HBB.out; omega)
    | cons x A =>
      rw [hq] at hli
      have HW := hid (fun (W : World) (hB : Below W1.heap.size W1 W) => rwithout_any p 1 W (HR.out.below hB) HB.out (by decide))
      have hln : (((A.length + 1 : Nat) : Int) == 0) = false := by simp; omega
      clear hq
      go_enter Try.func31, Try.ntmps31
      go_upto_region 1 with fail
      rw [← hW1, ← hb1]
      clear hW1 hb1
      go_wp2_with fail
      refine hli.mono ?_
      rintro e w2 ⟨u, rfl, ⟨q, c, rfl⟩, ho, hB⟩
      have HB2 := hid hB
      have HO2 := hid ho
      have hwo := HW.out w2 hB
      clear ho hB hli
      rw [List.length_cons]
      go_wp2_with fail
      refine hwo.mono ?_
      rintro e w3 ⟨rfl, h3⟩
      obtain ⟨v3, HR3, HK3⟩ : ∃ v3, Hid (Rd w3 (nx (fun k => S k ∧ k < b1) w2 w3) rb N v3 (wo p 1 L)) ∧ Hid (Kp (fun k => k = rb) w2 w3) := by
        obtain ⟨v3, e1, e2⟩ := h3.out
        exact ⟨v3, e1, e2⟩
      have hrb : rb < b1 := HR.out.sb.2
      have hbx : w3.heap[b1]? = some (.cells #[.int .i64 0, .int .u64 0, .int .u64 0, .int .u64 0, .int .u64 0, .int .u64 0] 36 (0, 0)) := (HK3.out.block b1 (Nat.lt_of_lt_of_le hbl HB2.out.size) (fun e => by omega)).trans ((HB2.out.block b1 hbl).trans HBX.out)
      obtain ⟨p0, p1, p2, p3, p4, p5⟩ : Mc w3 b1 0 mz := by simp [Mc, World.cell?, hbx]
      have fz2 : ∀ q, w3.frozen? ⟨b1, q, none⟩ = false := fun q => by simp [World.frozen?, hbx]
      have hl2 : b1 < w3.heap.size := (Array.getElem?_eq_some_iff.1 hbx).1
      have HZ2 := hid (set6_blk (y := mz) x hbx)
      have HL3 : Hid (Ls EM w3 (.slice q (x :: A).length c) (x :: A)) := owns_ls (E := EM) (owns_kp HK3.out HO2.out (fun k hk e => by have h1 := (HO2.out.lt k hk).1; have h2 := HR.out.lt; omega))
      obtain ⟨b8, o8, q8, e8, l8, y0, y1, y2, y3, y4, y5⟩ := ls_at HL3.out (j := 0) (x := x) rfl
      simp only [Value.slice.injEq] at e8
      obtain ⟨rfl, -, rfl⟩ := e8
      simp only [Nat.zero_mul, Nat.add_zero] at y0 y1 y2 y3 y4 y5
      have hA1 : (0 : Int) < (A.length : Int) + 1 := by omega
      clear h3 hbx hwo
      go_wp2_with fail
      obtain ⟨⟨r0, r1, r2, r3, r4, r5⟩, hk7⟩ := HZ2.out
      have HK7 := hid hk7
      generalize ((((((w3.setCell ⟨b1, 0, none⟩ (.int .i64 x.at_)).setCell ⟨b1, 1, none⟩ (.int .u64 x.a)).setCell ⟨b1, 2, none⟩ (.int .u64 x.b)).setCell ⟨b1, 3, none⟩ (.int .u64 x.c)).setCell ⟨b1, 4, none⟩ (.int .u64 x.k)).setCell ⟨b1, 5, none⟩ (.int .u64 x.v)) = W7 at *
      refine bodyPost_ret (v := tkv (x, 0)) (by simp [results, Try.results31, go_sem, r0, r1, r2, r3, r4, r5]) rfl ?_
      refine ⟨rfl, ?_⟩
      have hs1 := HG.out.size
      have hs2 := HB2.out.size
      have hs7 := HK7.out.size
      have hbb := HBB.out
      refine ⟨v3, (HR3.out.kp HK7.out (fun k _ hs e => ?_)).mono (fun k hk hs => ?_), ?_⟩
      · rcases hs with hs | hs
        · have := hs.2; omega
        · omega
      · rcases hs with hs | hs
        · exact Or.inl hs.1
        · exact Or.inr ⟨by omega, hk⟩
      · have k1 : Kp S w w2 := (Kp.of_gr HG.out).trans (T := fun _ => False) (Kp.of_below HB2.out) (fun _ _ h => h.elim)
        have k2 : Kp S w w3 := k1.trans HK3.out (fun _ _ e => by rw [e]; exact HR.out.sb.1)
        exact k2.trans HK7.out (fun k hk e => by omega)
  · simp only [if_neg hP]
    have hcase : p < 0 ∨ (¬ (p < 0) ∧ (N : Int) ≤ p) := by
      by_cases e : p < 0
      · exact Or.inl e
      · refine Or.inr ⟨e, ?_⟩
        by_cases e2 : (N : Int) ≤ p
        · exact e2
        · exact absurd ⟨by omega, by omega⟩ hP
    clear hP
    clear hli
    rcases hcase with a1 | ⟨a1, a2⟩
    all_goals (
      go_enter Try.func31, Try.ntmps31
      go_upto_region 1 with fail
      rw [← hW1, ← hb1]
      clear hW1 hb1
      go_wp2_with fail
      obtain ⟨⟨r0, r1, r2, r3, r4, r5⟩, hk7⟩ := HZ0.out
      have HK7 := hid hk7
      generalize ((((((W1.setCell ⟨b1, 0, none⟩ (.int .i64 0)).setCell ⟨b1, 1, none⟩ (.int .u64 0)).setCell ⟨b1, 2, none⟩ (.int .u64 0)).setCell ⟨b1, 3, none⟩ (.int .u64 0)).setCell ⟨b1, 4, none⟩ (.int .u64 0)).setCell ⟨b1, 5, none⟩ (.int .u64 0)) = W7 at *
      refine bodyPost_ret (v := tkv (mz, 42)) (by simp [results, Try.results31, go_sem, r0, r1, r2, r3, r4, r5]) rfl ?_
      exact ⟨rfl, v, (HR.out.kp HK7.out (fun k _ hs e => by have := hs.2; omega)).mono (fun k _ hs => Or.inl hs.1), (Kp.of_gr HG.out).trans HK7.out (fun k hk e => by have := HBB.out; omega)⟩)
end Go.Proofs.Ytaaobchodbnkpaa.Qe

namespace Go.Proofs.Ytaaobchodbnkpaa.Qe
open Go.RowKit Go.Sort
attribute [local go_sem ↓] Go.wp_at_zero Go.wp_at_succ

/-- A ring as an element of a list. -/
structure Rg where
  p : Option Addr
  n : Nat
  c : Nat
  f : Nat
  m : Nat
abbrev Rg.v (r : Rg) : Value := .slice r.p r.n r.c
def ER : El Rg where
  k := 3
  enc r := [.slice r.p r.n r.c, .int .i64 (r.f : Nat), .int .i64 (r.m : Nat)]
  len _ := rfl
  one x u hu := by
    simp at hu
    rcases hu with rfl | rfl | rfl <;> rfl
/-- The rings as a list. -/
theorem Pb.rings {w : World} {rb N C : Nat} {v : Nat → Value} {f m : Nat → Nat} {X Q : Nat → List Ms} (h : Pb w rb N C v f m X Q) : ∃ rs : List Rg, rs.length = N ∧ (∀ i, i < N → ∃ r, rs[i]? = some r ∧ v i = r.v ∧ f i = r.f ∧ m i = r.m) ∧ Ls ER w (.slice (some ⟨rb, 0, none⟩) N C) rs := by
  have hf : ∀ i, i < N → ∃ p n c, v i = .slice p n c := fun i hi => by
    rcases owns_form (h.own i hi) with ⟨e, _⟩ | ⟨g, cap, e, _⟩
    · exact ⟨_, _, _, e⟩
    · exact ⟨_, _, _, e⟩
  have hsl : ∀ x : Value, ∃ r : Option Addr × Nat × Nat, (∃ p n c, x = .slice p n c) → x = .slice r.1 r.2.1 r.2.2 := fun x => by
    by_cases hx : ∃ p n c, x = .slice p n c
    · obtain ⟨p, n, c, rfl⟩ := hx
      exact ⟨(p, n, c), fun _ => rfl⟩
    · exact ⟨(none, 0, 0), fun h => absurd h hx⟩
  obtain ⟨sl, hsl'⟩ := Classical.axiomOfChoice hsl
  let mk : Nat → Rg := fun i => ⟨(sl (v i)).1, (sl (v i)).2.1, (sl (v i)).2.2, f i, m i⟩
  have hmk : ∀ i, i < N → v i = (mk i).v := fun i hi => hsl' (v i) (hf i hi)
  refine ⟨(List.range N).map mk, by simp, fun i hi => ⟨mk i, by simp [hi], hmk i hi, rfl, rfl⟩, Or.inr ⟨rb, 0, C, by simp, h.blk.lt, fun j u hj => ?_⟩⟩
  have hjl : j < N * 3 := by
    have := (List.getElem?_eq_some_iff.1 hj).1
    rw [fl_length, List.length_map, List.length_range] at this
    exact this
  have hi : j / 3 < N := by omega
  have hg := fl_get ER ((List.range N).map mk) (j / 3) (j % 3) (mk (j / 3)) (by simp [hi]) (Nat.mod_lt _ (by decide))
  rw [show j / 3 * ER.k + j % 3 = j by show j / 3 * 3 + j % 3 = j; omega, hj] at hg
  rw [Nat.zero_add]
  have h3 : j % 3 < 3 := Nat.mod_lt _ (by decide)
  have e0 : j = j / 3 * 3 + j % 3 := by omega
  generalize hr : j % 3 = r at *
  generalize hq : j / 3 = q at *
  subst e0
  match r, h3 with
  | 0, _ => rw [Nat.add_zero, h.blk.cv hi, hmk q hi]; simpa [ER] using hg.symm
  | 1, _ => rw [h.blk.cf hi]; simpa [ER, mk] using hg.symm
  | 2, _ => rw [h.blk.cm hi]; simpa [ER, mk] using hg.symm
/-- A row of rings as their cells. -/
theorem Bk.of_row {w : World} {g N C base : Nat} {v : Nat → Value} {f m : Nat → Nat} {rs : List Rg} (ho : w.ownsRow base 80 3 (.slice (some ⟨g, 0, none⟩) N C) N (fl ER rs)) (hr : ∀ i, i < N → ∃ r, rs[i]? = some r ∧ v i = r.v ∧ f i = r.f ∧ m i = r.m) : Bk w g N C v f m := by
  obtain ⟨hlen, ⟨h0, _⟩ | ⟨g', cap', cur, hv, hbs, hgg, hn, hm, hcs, htk⟩⟩ := id ho
  · cases h0
  cases hv
  refine ⟨cur, hgg, hcs, hn, fun i hi => ?_⟩
  obtain ⟨r, h1, h2, h3, h4⟩ := hr i hi
  have hget : ∀ q, q < 3 → cur[i * 3 + q]? = (ER.enc r)[q]? := fun q hq => by
    have h5 := fl_get ER rs i q r h1 hq
    rw [← h5, ← htk, show i * ER.k + q = i * 3 + q from rfl, List.getElem?_take_of_lt (by omega), Array.getElem?_toList]
  refine ⟨?_, ?_, ?_⟩
  · have := hget 0 (by decide); rw [Nat.add_zero] at this; rw [this, h2]; rfl
  · rw [hget 1 (by decide), h3]; rfl
  · rw [hget 2 (by decide), h4]; rfl
set_option maxHeartbeats 2000000 in
set_option maxRecDepth 100000 in
theorem clone_any {rb N C : Nat} {v : Nat → Value} {f m : Nat → Nat} {X Q : Nat → List Ms} (w : World) (h : Pb w rb N C v f m X Q) (hN : N ≤ 192) : Calls Try.prog 33 #[.slice (some ⟨rb, 0, none⟩) N C] w fun e w' => ∃ g c, e = .returned (.slice (some ⟨g, 0, none⟩) N c) ∧ Hid (w.heap.size ≤ g ∧ Pb w' g N c v f m X Q ∧ Below w.heap.size w w') := by
  obtain ⟨rs, hrl, hrr, hls⟩ := h.rings
  have HP := hid h
  have HRR := hid hrr
  have HLS := hid hls
  have HRL := hid hrl
  have HBG : Hid ((0 + rs.length) * 40 ≤ 140737488355328 ∧ 0 + rs.length ≤ maxLen) := ⟨by omega, by unfold maxLen; omega⟩
  clear h hrr hls hrl
  have hnil : ∀ W : World, Sem.run Try.prog (binOp BinOp.eql 75 (.slice (some ⟨rb, 0, none⟩) N C) (.slice none 0 0)) W = .ok (.bool false) W := fun W => by first | rfl | kernel_rfl
  go_enter Try.func33, Try.ntmps33
  obtain ⟨i0, hi0, hz0, hz1, hz2⟩ := info_parts infoR
  have HLI : Hid (∀ j u, (fl ER rs)[j]? = some u → (w.alloc (.cells #[] 80)).cell? ((⟨rb, 0, none⟩ : Addr).add j) = some u) := by
    intro j u hj
    rw [addA]
    rcases HLS.out.below ((Gr.refl w).alloc (.cells #[] 80)).below with ⟨_, e⟩ | ⟨b, off, c, e, _, hlies⟩
    · cases e
    · simp only [Value.slice.injEq, Option.some.injEq, Addr.mk.injEq] at e
      obtain ⟨⟨rfl, rfl, -⟩, -, -⟩ := e
      exact hlies j u hj
  have HLN : Hid ((fl ER rs).length = N * 3) := by show _ = _; rw [fl_length, HRL.out]; rfl
  have HB0 : Hid ((0 + N) * 40 ≤ 140737488355328 ∧ 0 + N ≤ maxLen) := ⟨by omega, by unfold maxLen; omega⟩
  go_wp2_with (at_builtin; refine wpList_append_own_at _ rfl _ _ _ rfl w.heap.size 80 i0 _ 3 40 Try.underlying75 hi0 hz0 hz1 hz2 rfl (by decide) _ 0 [] rfl (World.ownsRow_lit w _ 0 (Nat.le_refl _) (Nat.zero_le _) rfl) ⟨rb, 0, none⟩ N C (fl ER rs) rfl HLN.out HLI.out (fl_oneCell ER rs) HB0.out.2 HB0.out.1 (by simp) ?_)
  intro v2 w2 ho2 hg2 hnl hat
  have HB2 : Hid (Below w.heap.size w w2) := by
    have h1 : Below w.heap.size w (w.alloc (.cells #[] 80)) := ((Gr.refl w).alloc _).below
    exact h1.trans ((Kp.grownBy (S := fun k => w.heap.size ≤ k) hg2 (fun k hk => by rw [← own_eq hk]; exact Nat.le_refl _)).below h1.size (fun _ h => h))
  obtain ⟨g, c2, rfl⟩ : ∃ g c2, v2 = .slice (some ⟨g, 0, none⟩) N c2 := by
    rcases owns_form ho2 with ⟨e, _⟩ | ⟨g, cap, e, _⟩
    · exact absurd e hnl
    · exact ⟨g, cap, e⟩
  have HO2 : Hid (w2.ownsRow w.heap.size 80 3 (.slice (some ⟨g, 0, none⟩) N c2) N (fl ER rs)) := owns_re ho2 rfl (by simp)
  clear ho2 hg2 hnl hat hi0 hz0 hz1 hz2
  go_wp2_with fail
  go_ret
  refine ⟨g, c2, rfl, (HO2.out.lt g rfl).1, ?_, HB2.out⟩
  have h2 := HP.out.below HB2.out
  exact ⟨Bk.of_row HO2.out HRR.out, h2.own, h2.rn, h2.cap, h2.dup⟩
end Go.Proofs.Ytaaobchodbnkpaa.Qe

namespace Go.Proofs.Ytaaobchodbnkpaa.Qe
open Go.RowKit Go.Sort
attribute [local go_sem ↓] Go.wp_at_zero Go.wp_at_succ

/-- How far the rings of a copy have been moved. -/
def Cp (w : World) (cb g N c K : Nat) (Q : Nat → List Ms) (j : Nat) (W : World) : Prop :=
  Qk W cb g N c ∧ w.heap.size ≤ g ∧ w.heap.size ≤ cb ∧ Below w.heap.size w W ∧ ∃ v f m X, Pb W g N c v f m X Q ∧ (∀ i, i < N → (X i).length ≤ 2 * K + 1) ∧ ∀ i k, i < j → (v i).ownBlock = some k → w.heap.size ≤ k
theorem Cp.ne {w W : World} {cb g N c K j : Nat} {Q : Nat → List Ms} (h : Cp w cb g N c K Q j W) : cb ≠ g := by
  obtain ⟨h1, _, _, _, v, f, m, X, h2, _⟩ := h
  intro e
  obtain ⟨cs, h3, _⟩ := h2.blk
  unfold Qk at h1
  rw [e, h3] at h1
  simp at h1
set_option maxHeartbeats 4000000 in
set_option maxRecDepth 100000 in
theorem copy_any {S : Nat → Prop} {qb N K : Nat} {Q : Nat → List Ms} (w : World) (h : Pq w S qb N K Q) (hbig : (2 * K + 1) * 48 ≤ 281474976710656) : Calls Try.prog 18 #[.pointer (some ⟨qb, 0, none⟩)] w fun e w' => ∃ b, e = .returned (.pointer (some ⟨b, 0, none⟩)) ∧ Hid (w.heap.size ≤ b ∧ Pq w' (fun k => w.heap.size ≤ k) b N K Q ∧ Below w.heap.size w w') := by
  have hmx : Try.prog.follows .mixedOrders = true := by kernel_rfl
  have HPQ := hid h
  have HBG := hid hbig
  have hN := h.n
  have HKB := hid h.k
  obtain ⟨rb, C, v0, f0, m0, X0, h⟩ := h
  have hcl := clone_any w h.p h.n
  have c0 := h.q.c0
  have hl := h.q.lt
  have HX0 := hid h.x
  clear h hbig
  go_enter Try.func18, Try.ntmps18
  go_wp2_with fail
  refine hcl.mono ?_
  rintro e w1 ⟨g, c, rfl, h1⟩
  have HC1 := hid h1.out
  clear h1 hcl
  go_upto_region 4 with fail
  obtain ⟨w2, hw2⟩ : ∃ w2, w2 = w1.alloc (.cells #[.slice (some ⟨g, 0, none⟩) N c] 77) := ⟨_, rfl⟩
  obtain ⟨cb, hcb⟩ : ∃ cb, cb = w1.heap.size := ⟨_, rfl⟩
  rw [← hw2, ← hcb]
  have HCP : Hid (Cp w cb g N c K Q 0 w2) := by
    have hG : Gr w1 w2 := by rw [hw2]; exact (Gr.refl _).alloc _
    refine ⟨by unfold Qk; rw [hw2, hcb]; exact heap_new' _ _, HC1.out.1, by rw [hcb]; exact HC1.out.2.2.size, HC1.out.2.2.trans (hG.below.mono HC1.out.2.2.size), v0, f0, m0, X0, HC1.out.2.1.gr hG, HX0.out, fun i k hi => absurd hi (Nat.not_lt_zero _)⟩
  clear hw2 hcb HC1 HX0
  have d0 := HCP.out.1.c0
  have dl := HCP.out.1.lt
  go_wp2_with fail
  go_loopw [19] (fun s19 wr => ∃ j : Nat, j ≤ N ∧ s19 = .int .i64 (j : Nat) ∧ Hid (Cp w cb g N c K Q j wr)) (fun s19 _ => N - (RowKit.intOf s19).toNat)
  case atStart => exact ⟨0, Nat.zero_le _, rfl, HCP.out⟩
  case round =>
    clear HCP d0 dl
    obtain ⟨j, hj, rfl, HC⟩ := hrel
    by_cases hlt : j < N
    · have hz : (j : Int) < (N : Int) := by omega
      have hj0 : (0 : Int) ≤ (j : Int) := by omega
      have k0 := HC.out.1.c0
      have kl := HC.out.1.lt
      have hne := HC.out.ne
      obtain ⟨v, f, m, X, HP, HX, HV⟩ : ∃ v f m X, Hid (Pb wr g N c v f m X Q) ∧ Hid (∀ i, i < N → (X i).length ≤ 2 * K + 1) ∧ Hid (∀ i k, i < j → (v i).ownBlock = some k → w.heap.size ≤ k) := by
        obtain ⟨_, _, _, _, v, f, m, X, e1, e2, e3⟩ := HC.out
        exact ⟨v, f, m, X, e1, e2, e3⟩
      have gl := HP.out.blk.lt
      have hlen : ∀ W : World, Gr wr W → Calls Try.prog 11 #[.pointer (some ⟨qb, 0, none⟩), .int .i64 (j : Nat)] W fun e w' => e = .returned (.int .i64 ((Q j).length : Nat)) ∧ w' = W := fun W hg => by
        have h1 := len_any (j : Int) W ((HPQ.out.below HC.out.2.2.2.1).gr hg)
        unfold lst at h1
        rw [if_pos (show Plc N (j : Int) from ⟨by omega, by omega⟩), Int.toNat_natCast] at h1
        exact h1
      have hmv : ∀ W : World, Gr wr W → Calls Try.prog 34 #[.pointer (some ⟨g, j * 3, none⟩), .int .i64 ((Q j).length : Nat)] W fun e w' => e = .returned (.tuple #[]) ∧ Hid (∃ u, Pb w' g N c (upd v j u) (upd f j 0) (upd m j (m j)) (upd X j (Q j ++ List.replicate ((Q j).length - m j) mz)) (upd Q j (Q j)) ∧ Kp (fun k => k = g) W w' ∧ ∀ b, u.ownBlock = some b → W.heap.size ≤ b) := fun W hg => by
        refine move_any (Q j).length W (HP.out.gr hg) hlt (by have h1 := HX.out j hlt; have h2 := HBG.out; omega) (by rw [(HP.out.rn j hlt).len]; exact Nat.le_refl _) (by have h1 := HKB.out j hlt; have h2 := HBG.out; omega)
      obtain ⟨nq, hnq⟩ : ∃ nq, nq = (Q j).length := ⟨_, rfl⟩
      rw [← hnq] at hlen hmv
      have HNQ := hid hnq
      clear hnq
      have hS0 : (fun W : World => W.cell? ⟨cb, 0, none⟩ = some (.slice (some ⟨g, 0, none⟩) N c) ∧ cb < W.heap.size ∧ g < W.heap.size) wr.drew := ⟨k0, kl, gl⟩
      go_wp2_with fail
      refine wp_regionD (S := (fun W : World => W.cell? ⟨cb, 0, none⟩ = some (.slice (some ⟨g, 0, none⟩) N c) ∧ cb < W.heap.size ∧ g < W.heap.size)) (D := []) hmx ?_
      refine' wpAnyD_take (i := 0) (oi := { dst := some 22, op := Go.Op.move (Go.Operand.tmp 3), type := 24, pos := "queue.go:105", after := #[], guard := none }) (v := _) rfl (by kernel_rfl) (by kernel_rfl) (by kernel_rfl) (fun _ _ _ h => h) (by kernel_rfl) (Or.inl ⟨by rfl, ?hy1⟩) hS0 ?rest1
      case hy1 => (intro W hSw; obtain ⟨z0, z1, z2⟩ := hSw; go_simp; try (with_reducible rfl))
      try simp only [Act.put, List.setIfInBounds_toArray, List.set_cons_zero, List.set_cons_succ]
      refine' wpAnyD_take (i := 1) (oi := { dst := some 23, op := Go.Op.nilCheck (Go.Operand.tmp 22), type := 0, pos := "queue.go:105", after := #[{ on := 0, ground := Go.Ground.data }], guard := none }) (v := _) rfl (by kernel_rfl) (by kernel_rfl) (by kernel_rfl) (fun _ _ _ h => h) (by kernel_rfl) (Or.inl ⟨by rfl, ?hy2⟩) hS0 ?rest2
      case hy2 => (intro W hSw; obtain ⟨z0, z1, z2⟩ := hSw; go_simp; try (with_reducible rfl))
      try simp only [Act.put, List.setIfInBounds_toArray, List.set_cons_zero, List.set_cons_succ]
      refine' wpAnyD_take (i := 2) (oi := { dst := some 24, op := Go.Op.fieldAddr 77 (Go.Operand.tmp 23) 0, type := 0, pos := "queue.go:105", after := #[{ on := 1, ground := Go.Ground.data }], guard := none }) (v := _) rfl (by kernel_rfl) (by kernel_rfl) (by kernel_rfl) (fun _ _ _ h => h) (by kernel_rfl) (Or.inl ⟨by rfl, ?hy3⟩) hS0 ?rest3
      case hy3 => (intro W hSw; obtain ⟨z0, z1, z2⟩ := hSw; go_simp; try (with_reducible rfl))
      try simp only [Act.put, List.setIfInBounds_toArray, List.set_cons_zero, List.set_cons_succ]
      refine' wpAnyD_take (i := 3) (oi := { dst := some 25, op := Go.Op.load 75 (Go.Operand.tmp 24), type := 75, pos := "queue.go:105", after := #[{ on := 2, ground := Go.Ground.data }], guard := none }) (v := _) rfl (by kernel_rfl) (by kernel_rfl) (by kernel_rfl) (fun _ _ _ h => h) (by kernel_rfl) (Or.inl ⟨by rfl, ?hy4⟩) hS0 ?rest4
      case hy4 => (intro W hSw; obtain ⟨z0, z1, z2⟩ := hSw; go_simp; try (with_reducible rfl))
      try simp only [Act.put, List.setIfInBounds_toArray, List.set_cons_zero, List.set_cons_succ]
      refine' wpAnyD_take (i := 4) (oi := { dst := some 26, op := Go.Op.move (Go.Operand.tmp 4), type := 3, pos := "queue.go:105", after := #[], guard := none }) (v := _) rfl (by kernel_rfl) (by kernel_rfl) (by kernel_rfl) (fun _ _ _ h => h) (by kernel_rfl) (Or.inl ⟨by rfl, ?hy5⟩) hS0 ?rest5
      case hy5 => (intro W hSw; obtain ⟨z0, z1, z2⟩ := hSw; go_simp; try (with_reducible rfl))
      try simp only [Act.put, List.setIfInBounds_toArray, List.set_cons_zero, List.set_cons_succ]
      refine' wpAnyD_take (i := 5) (oi := { dst := some 27, op := Go.Op.indexAddr 75 (Go.Operand.tmp 25) (Go.Operand.tmp 26), type := 0, pos := "queue.go:105", after := #[{ on := 3, ground := Go.Ground.data }, { on := 4, ground := Go.Ground.data }], guard := none }) (v := _) rfl (by kernel_rfl) (by kernel_rfl) (by kernel_rfl) (fun _ _ _ h => h) (by kernel_rfl) (Or.inl ⟨by rfl, ?hy6⟩) hS0 ?rest6
      case hy6 => (intro W hSw; obtain ⟨z0, z1, z2⟩ := hSw; go_simp; try (with_reducible rfl))
      try simp only [Act.put, List.setIfInBounds_toArray, List.set_cons_zero, List.set_cons_succ]
      refine' wpAnyD_take (i := 6) (oi := { dst := some 28, op := Go.Op.move (Go.Operand.tmp 0), type := 24, pos := "queue.go:105", after := #[], guard := none }) (v := _) rfl (by kernel_rfl) (by kernel_rfl) (by kernel_rfl) (fun _ _ _ h => h) (by kernel_rfl) (Or.inl ⟨by rfl, ?hy7⟩) hS0 ?rest7
      case hy7 => (intro W hSw; obtain ⟨z0, z1, z2⟩ := hSw; go_simp; try (with_reducible rfl))
      try simp only [Act.put, List.setIfInBounds_toArray, List.set_cons_zero, List.set_cons_succ]
      refine' wpAnyD_take (i := 7) (oi := { dst := some 29, op := Go.Op.move (Go.Operand.tmp 4), type := 3, pos := "queue.go:105", after := #[], guard := none }) (v := _) rfl (by kernel_rfl) (by kernel_rfl) (by kernel_rfl) (fun _ _ _ h => h) (by kernel_rfl) (Or.inl ⟨by rfl, ?hy8⟩) hS0 ?rest8
      case hy8 => (intro W hSw; obtain ⟨z0, z1, z2⟩ := hSw; go_simp; try (with_reducible rfl))
      try simp only [Act.put, List.setIfInBounds_toArray, List.set_cons_zero, List.set_cons_succ]
      refine wpAnyD_one (i := 8) (o := { dst := some 30, op := Go.Op.call { callee := Go.Callee.value (Go.Operand.func 11), args := #[Go.Operand.tmp 28, Go.Operand.tmp 29], argTypes := #[24, 3] }, type := 3, pos := "queue.go:105", after := #[{ on := 6, ground := Go.Ground.data }, { on := 7, ground := Go.Ground.data }], guard := none }) (by kernel_rfl) rfl (fun K hK => ?_)
      rw [if_pos (by kernel_rfl)]
      go_simp
      refine (hlen _ (Gr.refl _).drew).mono ?_
      rintro e W8 ⟨rfl, hW8⟩
      have hS8 : (fun W : World => W.cell? ⟨cb, 0, none⟩ = some (.slice (some ⟨g, 0, none⟩) N c) ∧ cb < W.heap.size ∧ g < W.heap.size) W8 := by rw [hW8]; exact hS0
      have hG8 : Gr wr W8 := by rw [hW8]; exact (Gr.refl _).drew
      clear hW8
      go_wp2_with fail
      refine hK.out _ _ (fun hD => hS8) ?_
      clear hK K
      try simp only [Act.put, List.setIfInBounds_toArray, List.set_cons_zero, List.set_cons_succ]
      refine wpAnyD_one (i := 9) (o := { dst := some 31, op := Go.Op.call { callee := Go.Callee.value (Go.Operand.func 34), args := #[Go.Operand.tmp 27, Go.Operand.tmp 30], argTypes := #[80, 3] }, type := 0, pos := "queue.go:105", after := #[{ on := 5, ground := Go.Ground.data }, { on := 8, ground := Go.Ground.data }, { on := 8, ground := Go.Ground.chain }], guard := none }) (by kernel_rfl) rfl (fun K hK => ?_)
      rw [if_pos (by kernel_rfl)]
      go_simp
      refine (hmv _ hG8).mono ?_
      rintro e W9 ⟨rfl, hR9⟩
      have hK9 : Kp (fun k => k = g) W8 W9 := by obtain ⟨u, _, h2, _⟩ := hR9.out; exact h2
      have hS9 : (fun W : World => W.cell? ⟨cb, 0, none⟩ = some (.slice (some ⟨g, 0, none⟩) N c) ∧ cb < W.heap.size ∧ g < W.heap.size) W9 := ⟨(hK9.cell hS8.2.1 hne).trans hS8.1, Nat.lt_of_lt_of_le hS8.2.1 hK9.size, Nat.lt_of_lt_of_le hS8.2.2 hK9.size⟩
      go_wp2_with fail
      refine hK.out _ _ (fun hD => hS9) ?_
      clear hK K
      try simp only [Act.put, List.setIfInBounds_toArray, List.set_cons_zero, List.set_cons_succ]
      refine wpAnyD_done (by kernel_rfl) ?_ _
      have HFN : Hid (Cp w cb g N c K Q (j + 1) W9) := by
        obtain ⟨u, e1, e2, e3⟩ := hR9.out
        obtain ⟨q1, q2, q3, q4, _⟩ := HC.out
        have hB8 := q4.trans (hG8.below.mono q4.size)
        rw [upd_id, upd_id] at e1
        refine ⟨(q1.kp (S := fun _ => False) (Kp.of_gr hG8) (fun h => h)).kp e2 hne, q2, q3, hB8.trans (e2.below hB8.size (fun k e => by rw [e]; exact q2)), _, _, _, _, e1, fun i hi => ?_, fun i k hi hk => ?_⟩
        · by_cases e : i = j
          · subst e
            rw [upd_self, List.length_append, List.length_replicate]
            have h1 := HKB.out i hi
            have h2 := HNQ.out
            have h3 := (HP.out.rn i hi).len
            omega
          · rw [upd_ne _ _ e]; exact HX.out i hi
        · by_cases e : i = j
          · subst e
            rw [upd_self] at hk
            exact Nat.le_trans hB8.size (e3 k hk)
          · rw [upd_ne _ _ e] at hk
            exact HV.out i k (by omega) hk
      clear hR9 hK9 hS9 hS8 hS0 hlen hmv k0 kl gl
      go_wp2_with fail
      go_roundw
      case rel => exact ⟨j + 1, hlt, by simp, HFN.out⟩
      case measure => simp [RowKit.intOf]; omega
    · have hz : ¬ ((j : Int) < (N : Int)) := by omega
      have hjN : j = N := by omega
      go_wp2
      go_ret
      obtain ⟨q1, q2, q3, q4, v, f, m, X, e1, e2, e3⟩ := HC.out
      exact ⟨cb, rfl, q3, ⟨g, c, v, f, m, X, q1, e1, e2, HKB.out, hN, q3, q2, fun i k hi hk => e3 i k (by omega) hk⟩, q4⟩
end Go.Proofs.Ytaaobchodbnkpaa.Qe
