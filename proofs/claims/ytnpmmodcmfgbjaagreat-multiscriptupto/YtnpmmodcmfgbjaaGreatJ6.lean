import Derived.Test.YtnpmmodcmfgbjaaGreatJ4
import Derived.Lib.SliceRun
import Derived.Test.YtnpmmodcmfgbjaaGreatCPure
import Derived.Test.YtnpmmodcmfgbjaaGreatJ5
import Derived.Deep.RegionHeld3
import Derived.Test.YtnpmmodcmfgbjaaGreatJ1
namespace Go.Proofs.YtnpmmodcmfgbjaaGreat
open Go.RowKit Go.Sort Go.Maps
attribute [local go_sem ↓] Go.wp_at_zero Go.wp_at_succ

set_option maxHeartbeats 1000000 in
theorem open1_any (x t : Tm) (B : Nat) (w : World) (hB : B < w.heap.size) (g0 : w.cell? ⟨B, 0, none⟩ = some (.int .u64 t.1.1)) (g1 : w.cell? ⟨B, 1, none⟩ = some (.int .u64 t.1.2.1)) (g2 : w.cell? ⟨B, 2, none⟩ = some (.int .u64 t.1.2.2)) :
    Calls Tryz.prog 77 #[tv x, .pointer (some ⟨B, 0, none⟩)] w fun e w' => e = .returned (.bool (bel x t)) ∧ Gr w w' := by
  have H := fun W => ahead_ok.calls x t W
  generalize bel x t = r at H ⊢
  have hne : B ≠ w.heap.size := by omega
  go_enter Tryz.func77, Tryz.ntmps77
  go_wp2_with (go_at_call 27; refine (H _).mono ?_; rintro e w1 ⟨rfl, hg⟩)
  go_ret
  exact ⟨rfl, ((Gr.refl _).alloc _).trans hg⟩
set_option maxHeartbeats 1000000 in
/-- Open at a list of times. -/
theorem sopen_any (v : Value) (l : List Tm) (x : Tm) (w : World) (hv : Lst w v l) (hl : l.length ≤ maxLen) :
    Calls Tryz.prog 67 #[v, tv x] w fun e w' => e = .returned (.bool (ccov bel l x)) ∧ Gr w w' := by
  obtain ⟨W2, hW2⟩ : ∃ W2, W2 = w.alloc (.cells #[.int .u64 x.1.1, .int .u64 x.1.2.1, .int .u64 x.1.2.2] 37) := ⟨_, rfl⟩
  have G2 : Gr w W2 := by rw [hW2]; exact (Gr.refl _).alloc _
  have hz : w.heap.size < W2.heap.size := by rw [hW2]; simp
  have b2 : W2.cell? ⟨w.heap.size, 0, none⟩ = some (.int .u64 x.1.1) := by rw [hW2]; simp
  have b3 : W2.cell? ⟨w.heap.size, 1, none⟩ = some (.int .u64 x.1.2.1) := by rw [hW2]; simp
  have b4 : W2.cell? ⟨w.heap.size, 2, none⟩ = some (.int .u64 x.1.2.2) := by rw [hW2]; simp
  have hP : Cn.PredG 77 #[.pointer (some ⟨w.heap.size, 0, none⟩)] (fun y => bel y x) W2 := fun W y hg =>
    open1_any y x w.heap.size W (Nat.lt_of_lt_of_le hz hg.size) ((hg.cell hz).trans b2) ((hg.cell hz).trans b3) ((hg.cell hz).trans b4)
  have h := Cn.containsFunc_any v l _ _ _ W2 (hv.below G2.below) hl (enters_of Tryz.func77 (by kernel_rfl) rfl) hP
  rw [show (l.any fun y => bel y x) = ccov bel l x from rfl] at h
  generalize ccov bel l x = r at h ⊢
  obtain ⟨pl, cl, rfl⟩ := hv.form
  clear hP b2 b3 b4 hv
  subst hW2
  go_enter Tryz.func67, Tryz.ntmps67
  go_wp2_with fail
  refine h.mono ?_
  rintro e w1 ⟨rfl, hg⟩
  go_wp2
  go_ret
  exact ⟨rfl, G2.trans hg⟩
end Go.Proofs.YtnpmmodcmfgbjaaGreat

namespace Go.Proofs.YtnpmmodcmfgbjaaGreat
open Go.RowKit

section
variable {α : Type} (bel fst : α → α → Bool)
/-- One change of a front: what does not count any more cuts; where it has cut, it is noted. -/
def cutS (s : List α × List α) (d : α × Int) : List α × List α :=
  if d.2 ≤ 0 then (ccut bel s.1 d.1, if (ccut bel s.1 d.1).length < s.1.length then s.2 ++ [d.1] else s.2) else s
/-- All changes. -/
def cutG (s : List α × List α) (us : List (α × Int)) : List α × List α := us.foldl (cutS bel) s
/-- What is put in again. -/
def cback (f : α → Int) (l F G : List α) (k : Nat) : List α := if 0 < G.length ∧ F.length < k then cjoin bel fst F (l.filter fun t => !(decide (f t ≤ 0) || !ccov bel G t)) else F
/-- The front, renewed. -/
def cren (f : α → Int) (l fr : List α) (us : List (α × Int)) (k : Nat) : List α :=
  cjoin bel fst (cback bel fst f l (cutG bel (fr, []) us).1 (cutG bel (fr, []) us).2 k) ((us.filter fun d => decide (0 < d.2)).map Prod.fst)
end
section
variable {α : Type} {bel fst : α → α → Bool}
theorem cutG_cons (s : List α × List α) (d : α × Int) (us : List (α × Int)) : cutG bel s (d :: us) = cutG bel (cutS bel s d) us := rfl
theorem cutG_take_succ {s : List α × List α} {us : List (α × Int)} {k : Nat} {d : α × Int} (h : us[k]? = some d) : cutG bel s (us.take (k + 1)) = cutS bel (cutG bel s (us.take k)) d := by
  unfold cutG
  rw [List.take_add_one, h, List.foldl_append]
  rfl
theorem cutS_good {s : List α × List α} (h : Good bel fst s.1) (d : α × Int) : Good bel fst (cutS bel s d).1 := by
  unfold cutS
  split
  · exact good_cut h d.1
  · exact h
theorem cutG_good (us : List (α × Int)) : ∀ (s : List α × List α), Good bel fst s.1 → Good bel fst (cutG bel s us).1 := by
  induction us with
  | nil => exact fun s h => h
  | cons d us ih => exact fun s h => ih _ (cutS_good h d)
theorem mem_cutS {s : List α × List α} {d : α × Int} {x : α} : x ∈ (cutS bel s d).1 ↔ x ∈ s.1 ∧ (d.2 ≤ 0 → bel d.1 x = false) := by
  unfold cutS
  split
  · rename_i h
    rw [mem_ccut]
    exact ⟨fun ⟨h1, h2⟩ => ⟨h1, fun _ => h2⟩, fun ⟨h1, h2⟩ => ⟨h1, h2 h⟩⟩
  · rename_i h
    exact ⟨fun h1 => ⟨h1, fun e => absurd e h⟩, fun h1 => h1.1⟩
theorem mem_cutG (us : List (α × Int)) : ∀ (s : List α × List α) (x : α), x ∈ (cutG bel s us).1 ↔ x ∈ s.1 ∧ ∀ d ∈ us, d.2 ≤ 0 → bel d.1 x = false := by
  induction us with
  | nil => exact fun s x => ⟨fun h => ⟨h, fun d hd => by cases hd⟩, fun h => h.1⟩
  | cons d us ih =>
    intro s x
    rw [cutG_cons, ih, mem_cutS]
    constructor
    · rintro ⟨⟨h1, h2⟩, h3⟩
      refine ⟨h1, fun d' hd' => ?_⟩
      rcases List.mem_cons.1 hd' with rfl | hd'
      · exact h2
      · exact h3 d' hd'
    · rintro ⟨h1, h2⟩
      exact ⟨⟨h1, h2 d (List.mem_cons_self ..)⟩, fun d' hd' => h2 d' (List.mem_cons_of_mem _ hd')⟩
theorem cutS_note {s : List α × List α} (d : α × Int) {x : α} (h : x ∈ s.2) : x ∈ (cutS bel s d).2 := by
  unfold cutS
  split
  · show x ∈ (if _ then _ else _)
    split
    · exact List.mem_append_left _ h
    · exact h
  · exact h
theorem cutG_note (us : List (α × Int)) : ∀ (s : List α × List α) {x : α}, x ∈ s.2 → x ∈ (cutG bel s us).2 := by
  induction us with
  | nil => exact fun s x h => h
  | cons d us ih => exact fun s x h => ih _ (cutS_note d h)
theorem cut_less {l : List α} {v x : α} (hx : x ∈ l) (hb : bel v x = true) : (ccut bel l v).length < l.length := by
  unfold ccut
  refine Nat.lt_of_le_of_ne (List.length_filter_le _ _) (fun e => ?_)
  have := List.length_filter_eq_length_iff.1 e x hx
  rw [hb] at this
  cases this
/-- What was cut out is behind something noted. -/
theorem cutG_out (us : List (α × Int)) : ∀ (s : List α × List α) (z : α), z ∈ s.1 → z ∉ (cutG bel s us).1 → ∃ g ∈ (cutG bel s us).2, bel g z = true := by
  induction us with
  | nil => exact fun s z h hn => absurd h hn
  | cons d us ih =>
    intro s z hz hn
    rw [cutG_cons] at hn ⊢
    by_cases h : z ∈ (cutS bel s d).1
    · exact ih _ z h hn
    · have h1 : d.2 ≤ 0 ∧ bel d.1 z = true := by
        by_cases h2 : d.2 ≤ 0
        · refine ⟨h2, ?_⟩
          cases e : bel d.1 z with
          | true => rfl
          | false => exact absurd (mem_cutS.2 ⟨hz, fun _ => e⟩) h
        · exact absurd (mem_cutS.2 ⟨hz, fun e => absurd e h2⟩) h
      refine ⟨d.1, cutG_note us _ ?_, h1.2⟩
      unfold cutS
      rw [if_pos h1.1, if_pos (cut_less hz h1.2)]
      exact List.mem_append_right _ (List.mem_singleton.2 rfl)
theorem cutG_len (us : List (α × Int)) : ∀ (s : List α × List α), (cutG bel s us).1.length ≤ s.1.length ∧ (cutG bel s us).2.length ≤ s.2.length + us.length := by
  induction us with
  | nil => exact fun s => ⟨Nat.le_refl _, Nat.le_refl _⟩
  | cons d us ih =>
    intro s
    rw [cutG_cons]
    obtain ⟨h1, h2⟩ := ih (cutS bel s d)
    have h3 : (cutS bel s d).1.length ≤ s.1.length := by
      unfold cutS
      split
      · exact ccut_length _ _
      · exact Nat.le_refl _
    have h4 : (cutS bel s d).2.length ≤ s.2.length + 1 := by
      unfold cutS
      split
      · show (if _ then _ else _ : List α).length ≤ _
        split
        · simp
        · omega
      · omega
    rw [List.length_cons]
    omega
/-- The front that was renewed is the front. -/
theorem cren_ok (O : Ords bel fst) {f0 f1 : α → Int} {fr ks l : List α} {us : List (α × Int)} (hgood : Good bel fst fr) (hpos : ∀ x ∈ fr, 0 < f0 x) (hcov : ∀ y, 0 < f0 y → ccov bel fr y = true)
    (hch : ∀ t, f1 t ≠ f0 t → ∃ d ∈ us, d.1 = t) (hus : ∀ d ∈ us, d.2 = f1 d.1) (_ : ks.Nodup) (hks : ∀ t, t ∈ ks ↔ f1 t ≠ 0) (hl : ∀ t, t ∈ l ↔ t ∈ ks)
    (hsub : ∀ F : List α, F.Nodup → (∀ x ∈ F, x ∈ ks) → ks.length ≤ F.length → ∀ x ∈ ks, x ∈ F) :
    Good bel fst (cren bel fst f1 l fr us ks.length) ∧ (∀ x ∈ cren bel fst f1 l fr us ks.length, 0 < f1 x) ∧ ∀ y, 0 < f1 y → ccov bel (cren bel fst f1 l fr us ks.length) y = true := by
  have hF : ∀ x ∈ (cutG bel (fr, []) us).1, 0 < f1 x := fun x hx => by
    obtain ⟨h1, h2⟩ := (mem_cutG us _ x).1 hx
    by_cases e : f1 x = f0 x
    · rw [e]
      exact hpos x h1
    · obtain ⟨d, hd, rfl⟩ := hch x e
      by_cases h0 : d.2 ≤ 0
      · have := h2 d hd h0
        rw [O.refl] at this
        cases this
      · rw [← hus d hd]
        omega
  have hFg : Good bel fst (cutG bel (fr, []) us).1 := cutG_good us _ hgood
  have hFn : (cutG bel (fr, []) us).1.Nodup := hFg.imp fun {a b} hab e => by subst e; rw [O.irr] at hab; cases hab.1
  have hB : Good bel fst (cback bel fst f1 l (cutG bel (fr, []) us).1 (cutG bel (fr, []) us).2 ks.length) ∧ (∀ x ∈ cback bel fst f1 l (cutG bel (fr, []) us).1 (cutG bel (fr, []) us).2 ks.length, 0 < f1 x) ∧ ∀ y, 0 < f1 y → f1 y = f0 y → ccov bel (cback bel fst f1 l (cutG bel (fr, []) us).1 (cutG bel (fr, []) us).2 ks.length) y = true := by
    have hout : ∀ y, 0 < f1 y → f1 y = f0 y → ccov bel (cutG bel (fr, []) us).1 y = true ∨ ccov bel (cutG bel (fr, []) us).2 y = true := fun y hy e => by
      obtain ⟨z, hz, hzy⟩ := ccov_true.1 (hcov y (by omega))
      by_cases hm : z ∈ (cutG bel (fr, []) us).1
      · exact Or.inl (ccov_true.2 ⟨z, hm, hzy⟩)
      · obtain ⟨g, hg, hgz⟩ := cutG_out us (fr, []) z hz hm
        exact Or.inr (ccov_true.2 ⟨g, hg, O.trans _ _ _ hgz hzy⟩)
    generalize (cutG bel (fr, []) us).1 = F at *
    generalize (cutG bel (fr, []) us).2 = G at *
    unfold cback
    split
    · refine ⟨good_join O hFg _, fun x hx => ?_, fun y hy e => ?_⟩
      · rcases mem_join hx with h1 | h1
        · have := (List.mem_filter.1 h1).2
          simp at this
          omega
        · exact hF x h1
      · rcases hout y hy e with h1 | h1
        · exact cov_join_mono O _ h1
        · refine cov_join O F (List.mem_filter.2 ⟨(hl y).2 ((hks y).2 (by omega)), ?_⟩)
          rw [h1, decide_eq_false (by omega)]
          rfl
    · rename_i hno
      refine ⟨hFg, hF, fun y hy e => ?_⟩
      rcases hout y hy e with h1 | h1
      · exact h1
      · have hG : 0 < G.length := by
          obtain ⟨g, hg, _⟩ := ccov_true.1 h1
          exact List.length_pos_of_mem hg
        have hlen : ks.length ≤ F.length := by
          by_cases h2 : F.length < ks.length
          · exact absurd ⟨hG, h2⟩ hno
          · omega
        exact ccov_true.2 ⟨y, hsub F hFn (fun x hx => (hks x).2 (by have := hF x hx; omega)) hlen y ((hks y).2 (by omega)), O.refl y⟩
  obtain ⟨b1, b2, b3⟩ := hB
  unfold cren
  refine ⟨good_join O b1 _, fun x hx => ?_, fun y hy => ?_⟩
  · rcases mem_join hx with h1 | h1
    · obtain ⟨d, hd, rfl⟩ := List.mem_map.1 h1
      obtain ⟨hd1, hd2⟩ := List.mem_filter.1 hd
      rw [← hus d hd1]
      simpa using hd2
    · exact b2 x h1
  · by_cases he : f1 y = f0 y
    · exact cov_join_mono O _ (b3 y hy he)
    · obtain ⟨d, hd, rfl⟩ := hch y he
      exact cov_join O _ (List.mem_map.2 ⟨d, List.mem_filter.2 ⟨hd, by rw [hus d hd]; simpa using hy⟩, rfl⟩)
end
end Go.Proofs.YtnpmmodcmfgbjaaGreat

namespace Go.Proofs.YtnpmmodcmfgbjaaGreat
open Go.RowKit Go.Sort Go.Maps
open Tt (Tl byd byd_f byd_t)
attribute [local go_sem ↓] Go.wp_at_zero Go.wp_at_succ

abbrev fA : Nat := 27
abbrev fN : Nat := 23
abbrev fC : Nat := 24
/-- A Multi: its block, its tally, its chain. -/
structure Mu (w : World) (mb tb b cb n : Nat) (v : Value) (f : Tm → Int) (fr : List Tm) : Prop where
  blk : w.heap[mb]? = some (.cells #[.pointer (some ⟨tb, 0, none⟩), .pointer (some ⟨cb, 0, none⟩)] 65 (0, 0))
  tl : Tl w tb b fC n f
  ch : Cn.Ch w cb fA fN v fr
section
variable {w w' : World} {mb tb b cb n : Nat} {v : Value} {f : Tm → Int} {fr : List Tm}
theorem Mu.lt (h : Mu w mb tb b cb n v f fr) : mb < w.heap.size := (Array.getElem?_eq_some_iff.1 h.blk).1
theorem Mu.c0 (h : Mu w mb tb b cb n v f fr) : w.cell? ⟨mb, 0, none⟩ = some (.pointer (some ⟨tb, 0, none⟩)) := by simp [World.cell?, h.blk]
theorem Mu.c1 (h : Mu w mb tb b cb n v f fr) : w.cell? ⟨mb, 1, none⟩ = some (.pointer (some ⟨cb, 0, none⟩)) := by simp [World.cell?, h.blk]
theorem Mu.row (h : Mu w mb tb b cb n v f fr) {g : Nat} (hg : v.ownBlock = some g) : ∃ cur, w.heap[g]? = some (.cells cur 37 (0, 0)) := by
  obtain ⟨_, ⟨h0, _⟩ | ⟨g', cap, cur, hv, _, hh, _⟩⟩ := h.ch.own
  · rw [h0] at hg; cases hg
  · rw [hv] at hg
    simp only [Value.ownBlock, Option.some.injEq] at hg
    subst hg
    exact ⟨cur, hh⟩
/-- The blocks of a Multi are unlike each other. -/
theorem Mu.apart (h : Mu w mb tb b cb n v f fr) : mb ≠ tb ∧ mb ≠ b ∧ mb ≠ cb ∧ tb ≠ cb ∧ b ≠ cb ∧ v.ownBlock ≠ some mb ∧ v.ownBlock ≠ some tb ∧ v.ownBlock ≠ some b := by
  have h1 := h.blk
  have h2 := h.tl.blk
  have h3 := h.ch.blk
  obtain ⟨D, ⟨es, clock, h4, _⟩, _⟩ := h.tl.ta
  refine ⟨fun e => ?_, fun e => ?_, fun e => ?_, fun e => ?_, fun e => ?_, fun e => ?_, fun e => ?_, fun e => ?_⟩
  · rw [e, h2] at h1; simp at h1
  · rw [e, h4] at h1; simp at h1
  · rw [e, h3] at h1; simp at h1
  · rw [e, h3] at h2; simp at h2
  · rw [e, h3] at h4; simp at h4
  · obtain ⟨cur, hc⟩ := h.row e; rw [hc] at h1; simp at h1
  · obtain ⟨cur, hc⟩ := h.row e; rw [hc] at h2; simp at h2
  · obtain ⟨cur, hc⟩ := h.row e; rw [hc] at h4; simp at h4
theorem Mu.kp {T : Nat → Prop} (h : Mu w mb tb b cb n v f fr) (hk : Kp T w w') (h1 : ¬ T mb) (h2 : ¬ T tb) (h3 : ¬ T b) (h4 : ¬ T cb) (h5 : ∀ k, v.ownBlock = some k → ¬ T k) : Mu w' mb tb b cb n v f fr :=
  ⟨(hk.block mb h.lt h1).trans h.blk, h.tl.kp hk h2 h3, h.ch.kp hk h4 h5⟩
theorem Mu.below (h : Mu w mb tb b cb n v f fr) (hb : Below w.heap.size w w') : Mu w' mb tb b cb n v f fr := h.kp (T := fun _ => False) (Kp.of_below hb) (fun h => h) (fun h => h) (fun h => h) (fun h => h) (fun _ _ h => h)
theorem Mu.turn {v' : Value} {fr' : List Tm} (h : Mu w mb tb b cb n v f fr) (ht : Cn.Turn cb v v' w w') (hc : Cn.Ch w' cb fA fN v' fr') : Mu w' mb tb b cb n v' f fr' := by
  obtain ⟨a1, a2, a3, a4, a5, a6, a7, a8⟩ := h.apart
  exact ⟨(ht.1.block mb h.lt (fun e => e.elim a3 a6)).trans h.blk, h.tl.kp ht.1 (fun e => e.elim a4 a7) (fun e => e.elim a5 a8), hc⟩
end

theorem many_any {tb b n : Nat} {f : Tm → Int} (w : World) (h : Tl w tb b fC n f) :
    Calls Tryz.prog 34 #[cv tb] w fun e w' => ∃ ks : List Tm, Sup f ks ∧ e = .returned (.int .i64 ks.length) ∧ Gr w w' := by
  have hc := fun o => Tt.len_any (w.alloc o) (h.gr ((Gr.refl _).alloc _))
  clear h
  go_enter Tryz.func34, Tryz.ntmps34
  go_wp2_with fail
  refine (hc _).mono ?_
  rintro e w1 ⟨ks, hk, rfl, rfl⟩
  go_wp2
  go_ret
  exact ⟨ks, hk, rfl, (Gr.refl _).alloc _⟩

/-- A Multi while its front is renewed: the box of its pointer, what was noted as gone. -/
structure Rn (w wr : World) (B0 Bg mb tb b cb n : Nat) (v vr vg : Value) (f : Tm → Int) (F G : List Tm) : Prop where
  mu : Mu wr mb tb b cb n vr f F
  tn : Cn.Turn cb v vr w wr
  lo : w.heap.size ≤ B0 ∧ w.heap.size ≤ Bg ∧ B0 ≠ Bg ∧ cb < w.heap.size ∧ mb < w.heap.size ∧ tb < w.heap.size ∧ b < w.heap.size
  bx : wr.heap[B0]? = some (.cells #[.pointer (some ⟨mb, 0, none⟩)] 24 (0, 0))
  gb : wr.heap[Bg]? = some (.cells #[vg] 42 (0, 0))
  ow : wr.ownsRow w.heap.size 37 3 vg G.length (flT G)
  a1 : vg.ownBlock ≠ some B0 ∧ vg.ownBlock ≠ some Bg
  a2 : vr.ownBlock ≠ some B0 ∧ vr.ownBlock ≠ some Bg
  a3 : ∀ k, vg.ownBlock = some k → vr.ownBlock ≠ some k
section
variable {w wr w' : World} {B0 Bg mb tb b cb n : Nat} {v vr vg v' : Value} {f : Tm → Int} {F G F' : List Tm}
theorem Rn.turn (h : Rn w wr B0 Bg mb tb b cb n v vr vg f F G) (ht : Cn.Turn cb vr v' wr w') (hc : Cn.Ch w' cb fA fN v' F') : Rn w w' B0 Bg mb tb b cb n v v' vg f F' G := by
  obtain ⟨l1, l2, l3, l4, l5, l6, l7⟩ := h.lo
  have z0 : B0 < wr.heap.size := (Array.getElem?_eq_some_iff.1 h.bx).1
  have z1 : Bg < wr.heap.size := (Array.getElem?_eq_some_iff.1 h.gb).1
  refine ⟨h.mu.turn ht hc, h.tn.trans ht, h.lo, ?_, ?_, ?_, h.a1, ⟨fun e => ?_, fun e => ?_⟩, fun k hk e => ?_⟩
  · exact (ht.1.block B0 z0 (fun e => e.elim (fun e => by omega) h.a2.1)).trans h.bx
  · exact (ht.1.block Bg z1 (fun e => e.elim (fun e => by omega) h.a2.2)).trans h.gb
  · refine owns_kp ht.1 h.ow (fun k hk e => ?_)
    have := (h.ow.lt k hk).1
    exact e.elim (fun e => by omega) (h.a3 k hk)
  · exact (ht.2 _ e).elim h.a2.1 (fun e => by omega)
  · exact (ht.2 _ e).elim h.a2.2 (fun e => by omega)
  · have := (h.ow.lt k hk).2
    exact (ht.2 _ e).elim (h.a3 k hk) (fun e => by omega)
theorem Rn.gr (h : Rn w wr B0 Bg mb tb b cb n v vr vg f F G) (hg : Gr wr w') : Rn w w' B0 Bg mb tb b cb n v vr vg f F G := h.turn (Cn.Turn.of_below hg.below) (h.mu.ch.below hg.below)
theorem Rn.below (h : Rn w wr B0 Bg mb tb b cb n v vr vg f F G) (hg : Below wr.heap.size wr w') : Rn w w' B0 Bg mb tb b cb n v vr vg f F G := h.turn (Cn.Turn.of_below hg) (h.mu.ch.below hg)
/-- One more is noted. -/
theorem Rn.note {g cap m : Nat} {x : Tm} (h : Rn w wr B0 Bg mb tb b cb n v vr vg f F G) (hg : wr.grownBy w' vg.ownBlock) (ho : w'.ownsRow w.heap.size 37 3 (.slice (some ⟨g, 0, none⟩) m cap) (G ++ [x]).length (flT (G ++ [x]))) (hl : vg.ownBlock = some g ∨ wr.heap.size ≤ g) :
    Rn w (w'.setCell ⟨Bg, 0, none⟩ (.slice (some ⟨g, 0, none⟩) m cap)) B0 Bg mb tb b cb n v vr (.slice (some ⟨g, 0, none⟩) m cap) f F (G ++ [x]) := by
  obtain ⟨l1, l2, l3, l4, l5, l6, l7⟩ := h.lo
  have z0 : B0 < wr.heap.size := (Array.getElem?_eq_some_iff.1 h.bx).1
  have z1 : Bg < wr.heap.size := (Array.getElem?_eq_some_iff.1 h.gb).1
  have hk1 : Kp (fun k => vg.ownBlock = some k) wr w' := Kp.grownBy hg (fun k hk => hk)
  have gb1 := (hk1.block Bg z1 h.a1.2).trans h.gb
  have e := setCell_eq_setRow w' Bg 0 _ _ _ (.slice (some ⟨g, 0, none⟩) m cap) gb1
  have hk2 : Kp (fun k => k = Bg) w' (w'.setCell ⟨Bg, 0, none⟩ (.slice (some ⟨g, 0, none⟩) m cap)) := by
    rw [e]
    exact ⟨rfl, rfl, rfl, by simp [World.setRow], fun k _ hne => setRow_other w' Bg k _ (by omega)⟩
  have hgB : g ≠ Bg := fun e => by
    subst e
    exact hl.elim h.a1.2 (fun e => by omega)
  have hg0 : g ≠ B0 := fun e => by
    subst e
    exact hl.elim h.a1.1 (fun e => by omega)
  have hgr : vr.ownBlock ≠ some g := fun e => hl.elim (fun e' => h.a3 g e' e) (fun e' => by have := h.mu.ch.row g e; omega)
  have hlow : ∀ k, vg.ownBlock = some k → w.heap.size ≤ k := fun k hk => (h.ow.lt k hk).1
  have hK : Kp (fun k => vg.ownBlock = some k ∨ k = Bg) wr (w'.setCell ⟨Bg, 0, none⟩ (.slice (some ⟨g, 0, none⟩) m cap)) := (hk1.mono (fun _ h => Or.inl h)).trans hk2 (fun _ _ h => Or.inr h)
  refine ⟨h.mu.kp hK ?_ ?_ ?_ ?_ ?_, ⟨h.tn.1.trans hK ?_, h.tn.2⟩, h.lo, ?_, ?_, owns_kp hk2 ho ?_, ⟨?_, ?_⟩, h.a2, ?_⟩
  · exact fun e => e.elim (fun e => by have := hlow _ e; omega) (fun e => by omega)
  · exact fun e => e.elim (fun e => by have := hlow _ e; omega) (fun e => by omega)
  · exact fun e => e.elim (fun e => by have := hlow _ e; omega) (fun e => by omega)
  · exact fun e => e.elim (fun e => by have := hlow _ e; omega) (fun e => by omega)
  · exact fun k hk e => e.elim (fun e => h.a3 k e hk) (fun e => h.a2.2 (e ▸ hk))
  · exact fun j hj e => e.elim (fun e => by have := hlow _ e; omega) (fun e => by omega)
  · exact (hK.block B0 z0 (fun e => e.elim h.a1.1 l3)).trans h.bx
  · rw [e, setRow_heap w' Bg _ _ _ _ gb1]
    simp
  · intro k hk e
    simp only [Value.ownBlock, Option.some.injEq] at hk
    omega
  · simpa [Value.ownBlock] using hg0
  · simpa [Value.ownBlock] using hgB
  · intro k hk
    simp only [Value.ownBlock, Option.some.injEq] at hk
    subst hk
    exact hgr
theorem Rn.g0 (h : Rn w wr B0 Bg mb tb b cb n v vr vg f F G) : wr.cell? ⟨Bg, 0, none⟩ = some vg := by simp [World.cell?, h.gb]
theorem Rn.gf (h : Rn w wr B0 Bg mb tb b cb n v vr vg f F G) : wr.frozen? ⟨Bg, 0, none⟩ = false := by simp [World.frozen?, h.gb]
theorem Rn.b0 (h : Rn w wr B0 Bg mb tb b cb n v vr vg f F G) : wr.cell? ⟨B0, 0, none⟩ = some (.pointer (some ⟨mb, 0, none⟩)) := by simp [World.cell?, h.bx]
theorem Rn.gl (h : Rn w wr B0 Bg mb tb b cb n v vr vg f F G) : Bg < wr.heap.size := (Array.getElem?_eq_some_iff.1 h.gb).1
theorem Rn.bl (h : Rn w wr B0 Bg mb tb b cb n v vr vg f F G) : B0 < wr.heap.size := (Array.getElem?_eq_some_iff.1 h.bx).1
end
/-- Append of one more time. -/
theorem wpApp1T {w : World} {ops : Array Oper} {rest : List Oper} {o : Oper} {a : Act} {Q : Exit → Act → World → Prop} (hgd : o.guard = none) (s x : Operand)
    (ho : o.op = .call { callee := .builtin .append, args := #[s, x], argTypes := #[42, 42] })
    (base : Nat) (v : Value) (n : Nat) (xs : List Value) (hs : a.eval s = v) (hown : w.ownsRow base 37 3 v n xs)
    (t : Tm) (hx : a.eval x = .slice (some ⟨w.heap.size, 0, none⟩) 1 1) (hbig : (n + 1) * 24 ≤ 140737488355328) (hbase : base ≤ w.heap.size)
    (h : ∀ g cap w', w'.ownsRow base 37 3 (.slice (some ⟨g, 0, none⟩) (n + 1) cap) (n + 1) (xs ++ ET.enc t) → w.grownBy w' v.ownBlock → (v.ownBlock = some g ∨ w.heap.size ≤ g) → wpList Tryz.prog ops Q rest (a.put o.dst (.slice (some ⟨g, 0, none⟩) (n + 1) cap)) w') :
    wpList Tryz.prog ops Q (o :: rest) a (w.alloc (.cells #[.int .u64 t.1.1, .int .u64 t.1.2.1, .int .u64 t.1.2.2] 37)) :=
  wpApp1 ET Tryz.underlying42 infoTm rfl (by decide) hgd s x ho base v n xs hs hown t hx hbig (by unfold maxLen; omega) hbase _ rfl _ h
end Go.Proofs.YtnpmmodcmfgbjaaGreat

namespace Go.Proofs.YtnpmmodcmfgbjaaGreat
open Go.RowKit

section
variable {P : Program} {ops : Array Oper} {Q : Exit → Act → World → Prop} {md : Region.Mode} {S : World → Prop} {D : List Nat}
/-- Whatever order is picked: S holds behind every operation but those of D (which wait for all that reads by S). -/
def wpAnyD (P : Program) (md : Region.Mode) (ops : Array Oper) (Q : Exit → Act → World → Prop) (S : World → Prop) (D : List Nat) : Nat → Array Bool → Act → World → Prop
  | 0, ls, a, w => Region.ready md ops ls = [] ∧ Q .normal a w
  | n + 1, ls, a, w => (Region.ready md ops ls = [] → Q .normal a w) ∧ ∀ j ∈ Region.ready md ops ls, wpOp P ops Q j (fun b u => (j ∉ D → S u) ∧ wpAnyD P md ops Q S D n (ls.setIfInBounds j true) b u) a w
theorem wpAny_ofD (n : Nat) : ∀ (ls : Array Bool) (a : Act) (w : World), wpAnyD P md ops Q S D n ls a w → wpAny P md ops Q n ls a w := by
  induction n with
  | zero => intro _ _ _ h; exact h
  | succ n ih =>
    intro ls a w h
    exact ⟨h.1, fun j hj => wpOp_mono (fun b u x => ih _ b u x.2) (h.2 j hj)⟩
/-- Those of D wait for number i, or for another of D. -/
def Behind (md : Region.Mode) (ops : Array Oper) (i : Nat) (D : List Nat) : Bool := D.all fun j => match ops[j]? with
  | some o => o.after.toList.any fun e => Region.binds md e && (e.on == i || D.contains e.on)
  | none => true
theorem behind_not {i j : Nat} {ls : Array Bool} (hD : Behind md ops i D = true) (hi : ls.getD i false = false) (hl : ∀ k ∈ D, ls.getD k false = false) (hj : j ∈ Region.ready md ops ls) : j ∉ D := fun hjD => by
  obtain ⟨_, o, ho, hall⟩ := mem_ready.1 hj
  have h1 := List.all_eq_true.1 hD j hjD
  rw [ho] at h1
  obtain ⟨x, hx, h2⟩ := List.any_eq_true.1 h1
  rw [Bool.and_eq_true, Bool.or_eq_true] at h2
  have h3 := hall x (Array.mem_toList_iff.1 hx) h2.1
  rcases h2.2 with h4 | h4
  · rw [beq_iff_eq] at h4
    rw [h4, hi] at h3
    cases h3
  · rw [hl _ (by simpa using h4)] at h3
    cases h3
theorem wpAnyD_first {i : Nat} {oi : Oper} {v : Value} (hi : ops[i]? = some oi) (hs : Region.noSelect ops = true) (hQ : ∀ c a w, Q (.panic c) (a.put oi.dst v) w → Q (.panic c) a w) (hD : Behind md ops i D = true) (hiD : D.contains i = false) (n : Nat) :
    ∀ (ls : Array Bool) (a : Act) (w : World), (∀ j oj, ops[j]? = some oj → j ≠ i → ls.getD j true = false → (∀ e ∈ oj.after, Region.binds md e = true → e.on ≠ i) → oi.apart ops oj = true) → (∀ k ∈ D, ls.getD k false = false) → i ∈ Region.ready md ops ls → YieldsIf P ops S oi v a → S w →
      wpAnyD P md ops Q S D n (ls.setIfInBounds i true) (a.put oi.dst v) w → wpAnyD P md ops Q S D (n + 1) ls a w := by
  have hsel := Region.noSelect_spec hs
  have hin : i ∉ D := by simpa using hiD
  induction n with
  | zero =>
    intro ls a w _ _ hr hy hS H
    refine ⟨fun h0 => (by rw [h0] at hr; cases hr), fun j hj => ?_⟩
    by_cases e : j = i
    · rw [e]; exact hy.wpOp hi hS ⟨fun _ => hS, H⟩
    · have h1 := ready_mono hj e
      rw [H.1] at h1
      cases h1
  | succ n ih =>
    intro ls a w hfree hun hr hy hS H
    refine ⟨fun h0 => (by rw [h0] at hr; cases hr), fun j hj => ?_⟩
    by_cases e : j = i
    · rw [e]; exact hy.wpOp hi hS ⟨fun _ => hS, H⟩
    · obtain ⟨hju, oj, hoj, hall⟩ := mem_ready.1 hj
      have hi0 : ls.getD i false = false := by
        have := (mem_ready.1 hr).1
        rcases Nat.lt_or_ge i ls.size with h | h
        · simp [h] at this ⊢; exact this
        · simp [Array.getElem?_eq_none h]
      have hjD := behind_not hD hi0 hun hj
      have hno : ∀ x ∈ oj.after, Region.binds md x = true → x.on ≠ i := fun x hx hb e2 => by
        have := hall x hx hb
        rw [e2, hi0] at this
        cases this
      have h2 := wpOp_putIf hoj (hfree j oj hoj e hju hno) (fun cs b => hsel i oi cs b hi) (fun cs b => hsel j oj cs b hoj) hQ hy (H.2 j (ready_mono hj e))
      refine wpOp_mono (fun b u h3 => ⟨fun _ => h3.2.1 hjD, ih _ b u ?_ ?_ (ready_mono hr (Ne.symm e)) h3.1 (h3.2.1 hjD) ?_⟩) h2
      · intro k ok hk hki hku hkn
        refine hfree k ok hk hki ?_ hkn
        by_cases e3 : j = k
        · exact e3 ▸ hju
        · rw [getD_set_ne true e3] at hku; exact hku
      · intro k hk
        have hne : j ≠ k := fun e3 => hjD (by rw [e3]; exact hk)
        rw [getD_set_ne false hne]
        exact hun k hk
      · rw [Array.setIfInBounds_comm _ _ e]
        exact h3.2.2
theorem wpAnyD_take {i : Nat} {oi : Oper} {v : Value} {n : Nat} {ls : Array Bool} {a : Act} {w : World} (hi : ops[i]? = some oi) (hs : Region.noSelect ops = true) (hf : Region.free md ops ls i = true) (hr : (Region.ready md ops ls).contains i = true)
    (hQ : ∀ c a w, Q (.panic c) (a.put oi.dst v) w → Q (.panic c) a w) (hD : (Behind md ops i D && !D.contains i && D.all fun k => !ls.getD k false) = true) (hy : YieldsIf P ops S oi v a) (hS : S w)
    (h : wpAnyD P md ops Q S D n (ls.setIfInBounds i true) (a.put oi.dst v) w) : wpAnyD P md ops Q S D (n + 1) ls a w := by
  rw [Bool.and_eq_true, Bool.and_eq_true] at hD
  exact wpAnyD_first hi hs hQ hD.1.1 (by simpa using hD.1.2) n ls a w (Region.free_spec hi hf) (fun k hk => by simpa using List.all_eq_true.1 hD.2 k hk) (by simpa using hr) hy hS h
/-- The only one that may come up. -/
theorem wpAnyD_one {i : Nat} {o : Oper} {n : Nat} {ls : Array Bool} {a : Act} {w : World} (hr : Region.ready md ops ls = [i]) (ho : ops[i]? = some o)
    (h : ∀ K' : Act → World → Prop, Shut (∀ b u, (i ∉ D → S u) → wpAnyD P md ops Q S D n (ls.setIfInBounds i true) b u → K' b u) → if Region.wanted o (yielded ops a.tmps) = true then Oper.wp P o a w K' Q else K' (a.put o.dst undef) w) : wpAnyD P md ops Q S D (n + 1) ls a w := by
  refine ⟨fun h0 => (by rw [h0] at hr; cases hr), fun j hj => ?_⟩
  rw [hr, List.mem_singleton] at hj
  subst hj
  exact wpOp_step ho (fun K' hK => h K' (fun b u h1 h2 => hK b u ⟨h1, h2⟩))
theorem wpAnyD_done {ls : Array Bool} {a : Act} {w : World} (hr : Region.ready md ops ls = []) (h : Q .normal a w) (n : Nat) : wpAnyD P md ops Q S D n ls a w := by
  cases n with
  | zero => exact ⟨hr, h⟩
  | succ n => exact ⟨fun _ => h, fun j hj => by rw [hr] at hj; cases hj⟩
theorem wp_regionD {id : Nat} {a : Act} {w : World} (hm : P.follows .mixedOrders = true) (h : wpAnyD P .any ops Q S D ops.size (Array.replicate ops.size false) a w.drew) : (Code.region id ops true).wp P Q a w :=
  wp_region_any hm (wpAny_ofD _ _ _ _ h)
end
end Go.Proofs.YtnpmmodcmfgbjaaGreat
