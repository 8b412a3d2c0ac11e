import Derived.Test.YtaaobchodbnkpaaQuSt
import Derived.Test.YtaaobchodbnkpaaLStep
import Derived.Test.YtaaobchodbnkpaaLRow
import Derived.Maps.AppendAt
namespace Go.Proofs.Ytaaobchodbnkpaa.Qe
open Go.RowKit Go.Sort
attribute [local go_sem ↓] Go.wp_at_zero Go.wp_at_succ

/-- The document's queue: its block and its list, all in S. -/
structure Rd (w : World) (S : Nat → Prop) (rb N : Nat) (v : Value) (L : List Ms) : Prop where
  blk : w.heap[rb]? = some (.cells #[.int .i64 (N : Nat), v] 71 (0, 0))
  own : w.ownsRow 0 36 6 v L.length (fl EM L)
  sb : S rb
  sv : ∀ g, v.ownBlock = some g → S g
section
variable {w w' : World} {S : Nat → Prop} {rb N : Nat} {v : Value} {L : List Ms}
theorem Rd.lt (h : Rd w S rb N v L) : rb < w.heap.size := (Array.getElem?_eq_some_iff.1 h.blk).1
theorem Rd.c0 (h : Rd w S rb N v L) : w.cell? ⟨rb, 0, none⟩ = some (.int .i64 (N : Nat)) := by simp [World.cell?, h.blk]
theorem Rd.c1 (h : Rd w S rb N v L) : w.cell? ⟨rb, 1, none⟩ = some v := by simp [World.cell?, h.blk]
theorem Rd.fz (h : Rd w S rb N v L) (q : Nat) : w.frozen? ⟨rb, q, none⟩ = false := by simp [World.frozen?, h.blk]
theorem Rd.off (h : Rd w S rb N v L) : v.ownBlock ≠ some rb := by
  intro e
  rcases h.own.2 with ⟨rfl, _⟩ | ⟨g, cap, cur, rfl, _, hh, _⟩
  · simp [Value.ownBlock] at e
  · simp [Value.ownBlock] at e
    subst e
    rw [h.blk] at hh
    simp at hh
theorem Rd.kp {R : Nat → Prop} (h : Rd w S rb N v L) (hk : Kp R w w') (hR : ∀ k, k < w.heap.size → S k → ¬ R k) : Rd w' S rb N v L :=
  ⟨(hk.block rb h.lt (hR rb h.lt h.sb)).trans h.blk, owns_kp hk h.own (fun k hv e => hR k (h.own.lt k hv).2 (h.sv k hv) e), h.sb, h.sv⟩
theorem Rd.below (h : Rd w S rb N v L) (hB : Below w.heap.size w w') : Rd w' S rb N v L := h.kp (R := fun _ => False) (Kp.of_below hB) (fun _ _ _ h => h)
end
/-- Those at a place. -/
abbrev atp (L : List Ms) (p : Int) : List Ms := L.filter fun m => decide (m.at_ = p)
theorem atp_next {L : List Ms} {i : Nat} {x : Ms} (h : L[i]? = some x) (p : Int) : atp (L.take (i + 1)) p = atp (L.take i) p ++ (if x.at_ = p then [x] else []) := by
  obtain ⟨hi, rfl⟩ := List.getElem?_eq_some_iff.1 h
  unfold atp
  rw [List.take_succ_eq_append_getElem hi, List.filter_append, List.filter_cons, List.filter_nil]
  by_cases e : L[i].at_ = p <;> simp [e]
theorem atp_le (L : List Ms) (p : Int) (i : Nat) : (atp (L.take i) p).length ≤ i := Nat.le_trans (List.length_filter_le _ _) (by rw [List.length_take]; omega)
set_option maxHeartbeats 4000000 in
theorem rlist_any {S : Nat → Prop} {rb N : Nat} {v : Value} {L : List Ms} (p : Int) (w : World) (h : Rd w S rb N v L) (hb : L.length * 48 ≤ 140737488355328) : Calls Try.prog 23 #[.pointer (some ⟨rb, 0, none⟩), .int .i64 p] w (Ans w (atp L p)) := by
  have c1 := h.c1
  have hl := h.lt
  have HL0 := hid (owns_ls (E := EM) h.own)
  obtain ⟨q, m, c, hv⟩ : ∃ q m c, v = .slice q m c ∧ m = L.length := by
    rcases owns_form h.own with ⟨e, e2⟩ | ⟨g, cap, e, _⟩
    · exact ⟨_, _, _, e, e2.symm⟩
    · exact ⟨_, _, _, e, rfl⟩
  obtain ⟨rfl, hm⟩ := hv
  rw [← hm] at hb
  have HM := hid hm
  have hmb : m ≤ 2932031007402 := by omega
  clear h hm hb
  unfold Ans
  go_enter Try.func23, Try.ntmps23
  go_wp2_with fail
  go_loopw [5, 6] (fun s5 s6 wr => ∃ i : Nat, i ≤ m ∧ s6 = .int .i64 (i : Nat) ∧ (∃ q2 m2 c2, s5 = .slice q2 m2 c2) ∧ Hid (wr.ownsRow w.heap.size 36 6 s5 (atp (L.take i) p).length (fl EM (atp (L.take i) p)) ∧ Below w.heap.size w wr)) (fun _ s6 _ => m - (RowKit.intOf s6).toNat)
  case atStart => exact ⟨0, Nat.zero_le _, rfl, ⟨_, _, _, rfl⟩, World.ownsRow_nil _ _ _ _, (Gr.refl _).below⟩
  case round =>
    obtain ⟨i, hi, rfl, ⟨q2, m2, c2, rfl⟩, HC⟩ := hrel
    have d1 := (HC.out.2.cell (p := ⟨rb, 1, none⟩) hl).trans c1
    have hlr := Nat.lt_of_lt_of_le hl HC.out.2.size
    by_cases hlt : i < m
    · have hz : (i : Int) < (m : Int) := by omega
      have hi0 : (0 : Int) ≤ (i : Int) := by omega
      obtain ⟨x, hx⟩ : ∃ x, L[i]? = some x := ⟨L[i]'(by have := HM.out; omega), by simp⟩
      obtain ⟨b1, o1, q1, e1, l1, y0, y1, y2, y3, y4, y5⟩ := ls_at (HL0.out.below HC.out.2) hx
      simp only [Value.slice.injEq] at e1
      obtain ⟨rfl, -, rfl⟩ := e1
      have HNX := hid (atp_next hx p)
      have HMM : Hid (m2 = (atp (L.take i) p).length) := by
        show _ = _
        rcases owns_form HC.out.1 with ⟨e, e2⟩ | ⟨g5, c5', e, _⟩
        · cases e; exact e2.symm
        · cases e; rfl
      have HMI : Hid (m2 ≤ i) := by rw [HMM.out]; exact atp_le _ _ _
      clear hx
      by_cases hP : x.at_ = p
      · have hPb : (x.at_ == p) = true := by simp [hP]
        have HP := hid hP
        have HOW : Hid (wr.ownsRow w.heap.size 36 6 (.slice q2 m2 c2) m2 (fl EM (atp (L.take i) p))) := owns_re HC.out.1 HMM.out.symm rfl
        have HBG : Hid ((m2 + 1) * 48 ≤ 140737488355328 ∧ m2 + 1 ≤ maxLen) := by have h1 := HMI.out; exact ⟨by omega, by unfold maxLen; omega⟩
        have HSZ := hid HC.out.2.size
        clear hP
        go_wp2_with (at_builtin; refine wpApp1 EM Try.underlying22 infoM rfl (by decide) rfl _ _ rfl w.heap.size _ m2 _ rfl HOW.out x (by first | rfl | (go_simp; done)) HBG.out.1 HBG.out.2 HSZ.out _ rfl _ ?_)
        intro g6 c6 w3 ho3 hg3 hn3
        have HO3 := hid ho3
        have HB3 : Hid (Below w.heap.size w w3) := HC.out.2.trans ((Kp.grownBy (S := fun k => w.heap.size ≤ k) hg3 (fun k hk => (HC.out.1.lt k hk).1)).below HC.out.2.size (fun _ h => h))
        clear ho3 hg3 hn3
        go_wp2_with fail
        go_roundw
        case rel =>
          refine ⟨i + 1, hlt, by simp, ⟨_, _, _, rfl⟩, ?_, HB3.out⟩
          rw [HNX.out, if_pos HP.out]
          exact owns_re HO3.out (by rw [List.length_append, ← HMM.out]; rfl) (by rw [fl_append, fl_one])
        case measure => simp [RowKit.intOf]; omega
      · have hPb : (x.at_ == p) = false := by simp [hP]
        have HP := hid hP
        clear hP
        go_wp2_with fail
        go_roundw
        case rel =>
          refine ⟨i + 1, hlt, by simp, ⟨_, _, _, rfl⟩, ?_, HC.out.2⟩
          rw [HNX.out, if_neg HP.out, List.append_nil]
          exact HC.out.1
        case measure => simp [RowKit.intOf]; omega
    · have hz : ¬ ((i : Int) < (m : Int)) := by omega
      have him : i = m := by omega
      go_wp2
      go_ret
      have hC := HC.out
      rw [him, HM.out, List.take_length] at hC
      refine ⟨_, rfl, ⟨q2, c2, ?_⟩, hC.1, hC.2⟩
      have hm2 : m2 = (atp L p).length := by
        rcases owns_form hC.1 with ⟨e, e2⟩ | ⟨g5, c5', e, _⟩
        · cases e; exact e2.symm
        · cases e; rfl
      rw [← hm2]
      rfl
/-- Without the first n at a place. -/
def wo (p : Int) : Nat → List Ms → List Ms
  | _, [] => []
  | n, x :: l => if x.at_ = p ∧ 0 < n then wo p (n - 1) l else x :: wo p n l
theorem wo_zero (p : Int) (l : List Ms) : wo p 0 l = l := by
  induction l with
  | nil => rfl
  | cons x l ih => rw [wo, if_neg (by omega), ih]
/-- What is left at each place. -/
theorem wo_at (p : Int) : ∀ (l : List Ms) (n : Nat), atp (wo p n l) p = (atp l p).drop n := by
  intro l
  induction l with
  | nil => intro n; simp [wo]
  | cons x l ih =>
    intro n
    rw [wo]
    by_cases h : x.at_ = p
    · cases n with
      | zero => rw [if_neg (by omega), wo_zero]; simp
      | succ n => rw [if_pos ⟨h, by omega⟩, show n + 1 - 1 = n from rfl, ih n]; simp [atp, h]
    · rw [if_neg (fun e => h e.1)]
      simp only [atp, List.filter_cons]
      rw [if_neg (by simp [h]), if_neg (by simp [h])]
      exact ih n
theorem wo_ne (p : Int) {q : Int} (hq : q ≠ p) : ∀ (l : List Ms) (n : Nat), atp (wo p n l) q = atp l q := by
  intro l
  induction l with
  | nil => intro n; simp [wo]
  | cons x l ih =>
    intro n
    rw [wo]
    by_cases h : x.at_ = p ∧ 0 < n
    · rw [if_pos h, ih (n - 1)]
      simp only [atp, List.filter_cons]
      rw [if_neg (by simp; omega)]
    · rw [if_neg h]
      simp only [atp, List.filter_cons]
      have := ih n
      simp only [atp] at this
      rw [this]
end Go.Proofs.Ytaaobchodbnkpaa.Qe

namespace Go.Proofs.Ytaaobchodbnkpaa.Qe
open Go.RowKit Go.Sort
attribute [local go_sem ↓] Go.wp_at_zero Go.wp_at_succ

theorem wo_len (p : Int) : ∀ (l : List Ms) (n : Nat), (wo p n l).length ≤ l.length := by
  intro l
  induction l with
  | nil => intro n; exact Nat.le_refl _
  | cons x l ih =>
    intro n
    rw [wo]
    split
    · have := ih (n - 1); simp; omega
    · have := ih n; simp; omega
/-- Its list is a new one. -/
theorem Rd.set {w w3 : World} {S : Nat → Prop} {rb N : Nat} {v v' : Value} {L L' : List Ms} (h : Rd w S rb N v L) (hB : Below w.heap.size w w3) (ho : w3.ownsRow w.heap.size 36 6 v' L'.length (fl EM L')) : Rd (w3.setCell ⟨rb, 1, none⟩ v') (nx S w (w3.setCell ⟨rb, 1, none⟩ v')) rb N v' L' ∧ Kp (fun k => k = rb) w (w3.setCell ⟨rb, 1, none⟩ v') := by
  have hb := (hB.block rb h.lt).trans h.blk
  obtain ⟨e1, e2, e3⟩ := setCell_blk (k := 1) (v := v') hb
  have hne : ∀ k, v'.ownBlock = some k → k ≠ rb := fun k hk e => by have := (ho.lt k hk).1; have := h.lt; omega
  refine ⟨⟨e1, owns_base (owns_kp e2 ho (fun k hk e => hne k hk e)) (Nat.zero_le _), Or.inl h.sb, fun g hg => Or.inr ⟨(ho.lt g hg).1, by rw [e3]; exact (ho.lt g hg).2⟩⟩, (Kp.of_below hB).trans e2 (fun _ _ h => h)⟩
/-- What without leaves. -/
def Wo (w : World) (S : Nat → Prop) (rb N : Nat) (L : List Ms) (e : Ending) (w' : World) : Prop := e = .returned (.tuple #[]) ∧ Hid (∃ v, Rd w' (nx S w w') rb N v L ∧ Kp (fun k => k = rb) w w')
set_option maxHeartbeats 4000000 in
theorem rwithout_any {S : Nat → Prop} {rb N : Nat} {v : Value} {L : List Ms} (p : Int) (n : Nat) (w : World) (h : Rd w S rb N v L) (hb : L.length * 48 ≤ 140737488355328) (hn : n ≤ 2932031007402) : Calls Try.prog 41 #[.pointer (some ⟨rb, 0, none⟩), .int .i64 p, .int .i64 (n : Nat)] w (Wo w S rb N (wo p n L)) := by
  have HR := hid h
  have c1 := h.c1
  have hl := h.lt
  have HL0 := hid (owns_ls (E := EM) h.own)
  obtain ⟨q, m, c, hv⟩ : ∃ q m c, v = .slice q m c ∧ m = L.length := by
    rcases owns_form h.own with ⟨e, e2⟩ | ⟨g, cap, e, _⟩
    · exact ⟨_, _, _, e, e2.symm⟩
    · exact ⟨_, _, _, e, rfl⟩
  obtain ⟨rfl, hm⟩ := hv
  rw [← hm] at hb
  have HM := hid hm
  have hmb : m ≤ 2932031007402 := by omega
  clear h hm hb
  unfold Wo
  go_enter Try.func41, Try.ntmps41
  go_wp2_with fail
  go_loopw [2, 6, 7] (fun s2 s6 s7 wr => ∃ (i n' : Nat) (K : List Ms), i ≤ m ∧ n' ≤ 2932031007402 ∧ K.length ≤ i ∧ s7 = .int .i64 (i : Nat) ∧ s2 = .int .i64 (n' : Nat) ∧ (∃ q2 m2 c2, s6 = .slice q2 m2 c2) ∧ Hid (wo p n L = K ++ wo p n' (L.drop i)) ∧ Hid (wr.ownsRow w.heap.size 36 6 s6 K.length (fl EM K) ∧ Below w.heap.size w wr)) (fun _ _ s7 _ => m - (RowKit.intOf s7).toNat)
  case atStart => exact ⟨0, n, [], Nat.zero_le _, hn, Nat.le_refl _, rfl, rfl, ⟨_, _, _, rfl⟩, rfl, World.ownsRow_nil _ _ _ _, (Gr.refl _).below⟩
  case round =>
    obtain ⟨i, n', K, hi, hn', hKl, rfl, rfl, ⟨q2, m2, c2, rfl⟩, HW, HC⟩ := hrel
    have d1 := (HC.out.2.cell (p := ⟨rb, 1, none⟩) hl).trans c1
    have hlr := Nat.lt_of_lt_of_le hl HC.out.2.size
    have HMM : Hid (m2 = K.length) := by
      show _ = _
      rcases owns_form HC.out.1 with ⟨e, e2⟩ | ⟨g5, c5', e, _⟩
      · cases e; exact e2.symm
      · cases e; rfl
    by_cases hlt : i < m
    · have hz : (i : Int) < (m : Int) := by omega
      have hi0 : (0 : Int) ≤ (i : Int) := by omega
      obtain ⟨x, hx⟩ : ∃ x, L[i]? = some x := ⟨L[i]'(by have := HM.out; omega), by simp⟩
      obtain ⟨b1, o1, q1, e1, l1, y0, y1, y2, y3, y4, y5⟩ := ls_at (HL0.out.below HC.out.2) hx
      simp only [Value.slice.injEq] at e1
      obtain ⟨rfl, -, rfl⟩ := e1
      have HDR : Hid (L.drop i = x :: L.drop (i + 1)) := by
        obtain ⟨h1, h2⟩ := List.getElem?_eq_some_iff.1 hx
        show _ = _
        rw [List.drop_eq_getElem_cons h1, h2]
      clear hx
      by_cases hP : x.at_ = p ∧ 0 < n'
      · have hPb : (x.at_ == p) = true := by simp [hP.1]
        have hnz : (0 : Int) < (n' : Int) := by omega
        have hns : (n' : Int) - 1 = ((n' - 1 : Nat) : Int) := by omega
        have HP := hid hP
        have hKi := hid hKl
        obtain ⟨n2, hn2⟩ : ∃ n2, n' = n2 + 1 := ⟨n' - 1, by omega⟩
        subst hn2
        clear hP hns hKl
        go_wp2_with fail
        go_roundw
        case rel =>
          refine ⟨i + 1, n2, K, hlt, by omega, by have := hKi.out; omega, by simp, by simp, ⟨_, _, _, rfl⟩, ?_, HC.out.1, HC.out.2⟩
          rw [HW.out, HDR.out, wo, if_pos HP.out]
          rfl
        case measure => simp [RowKit.intOf]; omega
      · have HP := hid hP
        have HOW : Hid (wr.ownsRow w.heap.size 36 6 (.slice q2 m2 c2) m2 (fl EM K)) := owns_re HC.out.1 HMM.out.symm rfl
        have HBG : Hid ((m2 + 1) * 48 ≤ 140737488355328 ∧ m2 + 1 ≤ maxLen) := by have h1 := HMM.out; exact ⟨by omega, by unfold maxLen; omega⟩
        have HSZ := hid HC.out.2.size
        have HKL := hid hKl
        have hcase : ((x.at_ == p) = true ∧ ¬ ((0 : Int) < (n' : Int))) ∨ (x.at_ == p) = false := by
          by_cases e : x.at_ = p
          · exact Or.inl ⟨by simp [e], by omega⟩
          · exact Or.inr (by simp [e])
        clear hP hKl
        rcases hcase with ⟨hPb, hnz⟩ | hPb
        all_goals (
          go_wp2_with (at_builtin; refine wpApp1 EM Try.underlying22 infoM rfl (by decide) rfl _ _ rfl w.heap.size _ m2 _ rfl HOW.out x (by first | rfl | (go_simp; done)) HBG.out.1 HBG.out.2 HSZ.out _ rfl _ ?_)
          intro g6 c6 w3 ho3 hg3 hn3
          have HO3 := hid ho3
          have HB3 : Hid (Below w.heap.size w w3) := HC.out.2.trans ((Kp.grownBy (S := fun k => w.heap.size ≤ k) hg3 (fun k hk => (HC.out.1.lt k hk).1)).below HC.out.2.size (fun _ h => h))
          clear ho3 hg3 hn3
          go_wp2_with fail
          go_roundw
          case rel =>
            refine ⟨i + 1, n', K ++ [x], hlt, hn', by rw [List.length_append, List.length_singleton]; have := HKL.out; omega, by simp, rfl, ⟨_, _, _, rfl⟩, ?_, ?_, HB3.out⟩
            · rw [HW.out, HDR.out, wo, if_neg HP.out, List.append_assoc]
              rfl
            · exact owns_re HO3.out (by rw [List.length_append, ← HMM.out]; rfl) (by rw [fl_append, fl_one])
          case measure => simp [RowKit.intOf]; omega)
    · have hz : ¬ ((i : Int) < (m : Int)) := by omega
      have him : i = m := by omega
      have HRW := hid (HR.out.set (v' := .slice q2 m2 c2) (L' := K) HC.out.2 HC.out.1)
      have hfz : wr.frozen? ⟨rb, 1, none⟩ = false := (HR.out.below HC.out.2).fz 1
      go_wp2_with fail
      go_end0
      have hK : K = wo p n L := by
        rw [HW.out, him, HM.out, List.drop_length]
        simp [wo]
      rw [← hK]
      exact ⟨rfl, ⟨_, HRW.out.1⟩, HRW.out.2⟩
theorem rnew_any (n : Nat) (w : World) (hn : n ≤ 192) : Calls Try.prog 16 #[.int .i64 (n : Nat)] w fun e w' => ∃ rb, e = .returned (.tuple #[.pointer (some ⟨rb, 0, none⟩), .int .i64 0]) ∧ Hid (w.heap.size ≤ rb ∧ Rd w' (fun k => w.heap.size ≤ k) rb n (.slice none 0 0) [] ∧ Below w.heap.size w w') := by
  have h1 : ¬ ((n : Int) < 0) := by omega
  have h2 : ¬ (192 < (n : Int)) := by omega
  go_enter Try.func16, Try.ntmps16
  go_wp2
  refine bodyPost_ret (v := .tuple #[.pointer (some ⟨w.heap.size, 0, none⟩), .int .i64 0]) (by simp [results, Try.results16, go_sem]) rfl ?_
  exact ⟨_, rfl, Nat.le_refl _, ⟨heap_new' _ _, World.ownsRow_nil _ _ _ _, Nat.le_refl _, fun g hg => by simp [Value.ownBlock] at hg⟩, ((Gr.refl _).alloc _).below⟩
theorem rnewNo_any (p : Int) (w : World) (hP : ¬ (0 ≤ p ∧ p ≤ 192)) : Calls Try.prog 16 #[.int .i64 p] w fun e w' => e = .returned (.tuple #[.pointer none, .int .i64 1]) ∧ w' = w := by
  by_cases h1 : p < 0
  · go_enter Try.func16, Try.ntmps16
    go_wp2
    exact bodyPost_ret (v := .tuple #[.pointer none, .int .i64 1]) (by simp [results, Try.results16, go_sem]) rfl ⟨rfl, rfl⟩
  · have h2 : 192 < p := by omega
    clear hP
    go_enter Try.func16, Try.ntmps16
    go_wp2
    exact bodyPost_ret (v := .tuple #[.pointer none, .int .i64 1]) (by simp [results, Try.results16, go_sem]) rfl ⟨rfl, rfl⟩
end Go.Proofs.Ytaaobchodbnkpaa.Qe

namespace Go.Proofs.Ytaaobchodbnkpaa
open Go.RowKit Go.Sort

section
variable {P : Program} {α : Type} (E : El α) {w : World} {ops : Array Oper} {rest : List Oper} {o : Oper} {a : Act} {Q : Exit → Act → World → Prop}
/-- 'append(own, l...)', with where the new row lies. -/
theorem wpAppLN {e sT : TypeId} {z : Value} {bt : Nat} (hu : P.underlying sT = some (.slice e)) (hI : (P.info? e).map (fun i => (i.zero, i.size, i.bytes)) = some (some z, E.k, bt)) (hz : z.cells.size = E.k) (hk : 0 < E.k)
    (hgd : o.guard = none) (s x : Operand) (ho : o.op = .call { callee := .builtin .append, args := #[s, x], argTypes := #[sT, sT] })
    (base : Nat) (v : Value) (n : Nat) (xs : List Value) (hs : a.eval s = v) (hown : w.ownsRow base e E.k v n xs)
    (v1 : Value) (ts : List α) (hx : a.eval x = v1) (hv : Ls E w v1 ts) (hbig : (n + ts.length) * bt ≤ 140737488355328) (hmx : n + ts.length ≤ maxLen) (hbase : base ≤ w.heap.size)
    (h : ∀ v' w', w'.ownsRow base e E.k v' (n + ts.length) (xs ++ fl E ts) → w.grownBy w' v.ownBlock → Hid (∀ g, v'.ownBlock = some g → v.ownBlock = some g ∨ w.heap.size ≤ g) → wpList P ops Q rest (a.put o.dst v') w') : wpList P ops Q (o :: rest) a w := by
  obtain ⟨i0, hi, hz0, hz1, hz2⟩ := info_parts hI
  rcases hv with ⟨rfl, rfl⟩ | ⟨b, off, c, rfl, hb, ht⟩
  · refine wpList_append_own_none hgd s x _ ho base e i0 E.k hu hi v n xs hs hown hx ?_
    exact h v w (by rw [fl_nil, List.append_nil]; exact hown) ⟨rfl, rfl, rfl, Nat.le_refl _, fun _ _ _ => rfl⟩ (fun g hg => Or.inl hg)
  · refine wpList_append_own_at _ hgd s x _ ho base e i0 _ E.k bt hu hi hz0 hz1 hz2 hz hk v n xs hs hown ⟨b, off, none⟩ ts.length c (fl E ts) hx (fl_length E ts) (fun j u hj => by rw [addA]; exact ht j u hj) (fl_oneCell E ts) hmx hbig hbase ?_
    intro v' w' h1 h2 _ h5
    refine h v' w' h1 h2 (fun g hg => ?_)
    rcases h5 with h5 | h5
    · exact Or.inl (by rw [← h5]; exact hg)
    · rw [h5] at hg
      cases hg
      exact Or.inr (Nat.le_refl _)
end
end Go.Proofs.Ytaaobchodbnkpaa

namespace Go.Proofs.Ytaaobchodbnkpaa.Qe
open Go.RowKit Go.Sort
attribute [local go_sem ↓] Go.wp_at_zero Go.wp_at_succ

/-- Its list has grown. -/
theorem Rd.grow {w w3 : World} {S : Nat → Prop} {rb N : Nat} {v v' : Value} {L L' : List Ms} (h : Rd w S rb N v L) (hk : Kp (fun k => v.ownBlock = some k) w w3) (ho : w3.ownsRow 0 36 6 v' L'.length (fl EM L')) (hn : ∀ g, v'.ownBlock = some g → v.ownBlock = some g ∨ w.heap.size ≤ g) : Rd (w3.setCell ⟨rb, 1, none⟩ v') (nx S w (w3.setCell ⟨rb, 1, none⟩ v')) rb N v' L' ∧ Kp S w (w3.setCell ⟨rb, 1, none⟩ v') := by
  have hb := (hk.block rb h.lt h.off).trans h.blk
  obtain ⟨e1, e2, e3⟩ := setCell_blk (k := 1) (v := v') hb
  have hne : ∀ k, v'.ownBlock = some k → k ≠ rb := fun k hk e => by
    rcases hn k hk with h1 | h1
    · exact h.off (e ▸ h1)
    · have := h.lt; omega
  refine ⟨⟨e1, owns_kp e2 ho (fun k hk e => hne k hk e), Or.inl h.sb, fun g hg => ?_⟩, (hk.mono (fun k hk => h.sv k hk)).trans e2 (fun _ _ e => by rw [e]; exact h.sb)⟩
  rcases hn g hg with h1 | h1
  · exact Or.inl (h.sv g h1)
  · exact Or.inr ⟨h1, by rw [e3]; exact (ho.lt g hg).2⟩
/-- What Put leaves of the document's list. -/
def rpt (N : Nat) (L : List Ms) (x : Ms) : List Ms := if Plc N x.at_ then L ++ [x] else L
set_option maxHeartbeats 4000000 in
set_option maxRecDepth 100000 in
theorem rdput_any {S : Nat → Prop} {rb N : Nat} {v : Value} {L : List Ms} (x : Ms) (w : World) (h : Rd w S rb N v L) (hb : (L.length + 1) * 48 ≤ 140737488355328) : Calls Try.prog 30 #[.pointer (some ⟨rb, 0, none⟩), mv x] w fun e w' => e = .returned (.int .i64 (pe N x.at_ : Nat)) ∧ Hid (∃ v', Rd w' (nx S w w') rb N v' (rpt N L x) ∧ Kp S w w') := by
  have hmx : Try.prog.follows .mixedOrders = true := by kernel_rfl
  obtain ⟨W1, hW1⟩ : ∃ W1, W1 = w.alloc (.cells #[.int .i64 x.at_, .int .u64 x.a, .int .u64 x.b, .int .u64 x.c, .int .u64 x.k, .int .u64 x.v] 36) := ⟨_, rfl⟩
  obtain ⟨b1, hb1⟩ : ∃ b1, b1 = w.heap.size := ⟨_, rfl⟩
  have G1 : Gr w W1 := by rw [hW1]; exact (Gr.refl _).alloc _
  have HBX : Hid (W1.heap[b1]? = some (.cells #[.int .i64 x.at_, .int .u64 x.a, .int .u64 x.b, .int .u64 x.c, .int .u64 x.k, .int .u64 x.v] 36 (0, 0))) := by rw [hW1, hb1]; exact heap_new' _ _
  have h1 := h.below G1.below
  have HR := hid h1
  have c0 := h1.c0
  have c1 := h1.c1
  have hl := h1.lt
  have HVB : Hid (v.ownBlock ≠ some b1) := fun e => by have := (h.own.lt b1 e).2; omega
  have HG := hid G1
  obtain ⟨q0, q1, q2, q3, q4, q5⟩ : Mc W1 b1 0 x := by simp [Mc, World.cell?, HBX.out]
  have hbl : b1 < W1.heap.size := (Array.getElem?_eq_some_iff.1 HBX.out).1
  have HBG : Hid ((L.length + 1) * 48 ≤ 140737488355328 ∧ L.length + 1 ≤ maxLen) := ⟨hb, by unfold maxLen; omega⟩
  have hoff := h1.off
  unfold pe rpt
  clear h h1 hb G1
  by_cases hP : Plc N x.at_
  · rw [if_pos hP, if_pos hP]
    have a1 : ¬ (x.at_ < 0) := by have := hP.1; omega
    have a2 : x.at_ < (N : Int) := hP.2
    have a3 : ¬ ((N : Int) ≤ x.at_) := by omega
    clear hP
    go_enter Try.func30, Try.ntmps30
    go_upto_region 1 with fail
    rw [← hW1, ← hb1]
    clear hW1 hb1
    go_quiet (fail)
    go_upto_region 3 with fail
    obtain ⟨W2, hW2⟩ : ∃ W2, W2 = W1.drewN nq := ⟨_, rfl⟩
    rw [← hW2]
    have hG2 : Gr W1 W2 := by rw [hW2]; exact (Gr.refl _).drewN _
    have s0 := (hG2.cell hbl).trans q0
    have s1 := (hG2.cell hbl).trans q1
    have s2 := (hG2.cell hbl).trans q2
    have s3 := (hG2.cell hbl).trans q3
    have s4 := (hG2.cell hbl).trans q4
    have s5 := (hG2.cell hbl).trans q5
    have d1 := (hG2.cell hl).trans c1
    have lb2 := Nat.lt_of_lt_of_le hbl hG2.size
    have lr2 := Nat.lt_of_lt_of_le hl hG2.size
    have HG2 := hid hG2
    have HR2 := hid (HR.out.below hG2.below)
    have HOW : Hid (W2.drew.ownsRow 0 36 6 v L.length (fl EM L)) := owns_below HR2.out.own (Gr.refl _).drew.below
    have hvb := HVB.out
    clear hW2 hG2 q0 q1 q2 q3 q4 q5 c0 c1
    have hS0 : (fun W : World => Mc W b1 0 x ∧ W.cell? ⟨rb, 1, none⟩ = some v ∧ b1 < W.heap.size ∧ rb < W.heap.size) W2.drew := ⟨⟨s0, s1, s2, s3, s4, s5⟩, d1, lb2, lr2⟩
    refine wp_regionD (S := (fun W : World => Mc W b1 0 x ∧ W.cell? ⟨rb, 1, none⟩ = some v ∧ b1 < W.heap.size ∧ rb < W.heap.size)) (D := [10]) hmx ?_
    refine' wpAnyD_take (i := 0) (oi := { dst := some 17, op := Go.Op.move (Go.Operand.tmp 0), type := 55, pos := "ref.go:37", after := #[], guard := none }) (v := _) rfl (by kernel_rfl) (by kernel_rfl) (by kernel_rfl) (fun _ _ _ h => h) (by kernel_rfl) (Or.inl ⟨by rfl, ?hy1⟩) hS0 ?rest1
    case hy1 => (intro W hSw; obtain ⟨⟨z0, z1, z2, z3, z4, z5⟩, z6, z7, z8⟩ := hSw; go_simp; try (with_reducible rfl))
    try simp only [Act.put, List.setIfInBounds_toArray, List.set_cons_zero, List.set_cons_succ]
    refine' wpAnyD_take (i := 1) (oi := { dst := some 18, op := Go.Op.move (Go.Operand.tmp 0), type := 55, pos := "ref.go:37", after := #[], guard := none }) (v := _) rfl (by kernel_rfl) (by kernel_rfl) (by kernel_rfl) (fun _ _ _ h => h) (by kernel_rfl) (Or.inl ⟨by rfl, ?hy2⟩) hS0 ?rest2
    case hy2 => (intro W hSw; obtain ⟨⟨z0, z1, z2, z3, z4, z5⟩, z6, z7, z8⟩ := hSw; go_simp; try (with_reducible rfl))
    try simp only [Act.put, List.setIfInBounds_toArray, List.set_cons_zero, List.set_cons_succ]
    refine' wpAnyD_take (i := 2) (oi := { dst := some 19, op := Go.Op.nilCheck (Go.Operand.tmp 18), type := 0, pos := "ref.go:37", after := #[{ on := 1, ground := Go.Ground.data }], guard := none }) (v := _) rfl (by kernel_rfl) (by kernel_rfl) (by kernel_rfl) (fun _ _ _ h => h) (by kernel_rfl) (Or.inl ⟨by rfl, ?hy3⟩) hS0 ?rest3
    case hy3 => (intro W hSw; obtain ⟨⟨z0, z1, z2, z3, z4, z5⟩, z6, z7, z8⟩ := hSw; go_simp; try (with_reducible rfl))
    try simp only [Act.put, List.setIfInBounds_toArray, List.set_cons_zero, List.set_cons_succ]
    refine' wpAnyD_take (i := 3) (oi := { dst := some 20, op := Go.Op.fieldAddr 71 (Go.Operand.tmp 19) 1, type := 0, pos := "ref.go:37", after := #[{ on := 2, ground := Go.Ground.data }], guard := none }) (v := _) rfl (by kernel_rfl) (by kernel_rfl) (by kernel_rfl) (fun _ _ _ h => h) (by kernel_rfl) (Or.inl ⟨by rfl, ?hy4⟩) hS0 ?rest4
    case hy4 => (intro W hSw; obtain ⟨⟨z0, z1, z2, z3, z4, z5⟩, z6, z7, z8⟩ := hSw; go_simp; try (with_reducible rfl))
    try simp only [Act.put, List.setIfInBounds_toArray, List.set_cons_zero, List.set_cons_succ]
    refine' wpAnyD_take (i := 4) (oi := { dst := some 21, op := Go.Op.load 22 (Go.Operand.tmp 20), type := 22, pos := "ref.go:37", after := #[{ on := 3, ground := Go.Ground.data }], guard := none }) (v := _) rfl (by kernel_rfl) (by kernel_rfl) (by kernel_rfl) (fun _ _ _ h => h) (by kernel_rfl) (Or.inl ⟨by rfl, ?hy5⟩) hS0 ?rest5
    case hy5 => (intro W hSw; obtain ⟨⟨z0, z1, z2, z3, z4, z5⟩, z6, z7, z8⟩ := hSw; go_simp; try (with_reducible rfl))
    try simp only [Act.put, List.setIfInBounds_toArray, List.set_cons_zero, List.set_cons_succ]
    refine' wpAnyD_take (i := 5) (oi := { dst := some 22, op := Go.Op.load 36 (Go.Operand.tmp 3), type := 36, pos := "ref.go:37", after := #[], guard := none }) (v := _) rfl (by kernel_rfl) (by kernel_rfl) (by kernel_rfl) (fun _ _ _ h => h) (by kernel_rfl) (Or.inl ⟨by rfl, ?hy6⟩) hS0 ?rest6
    case hy6 => (intro W hSw; obtain ⟨⟨z0, z1, z2, z3, z4, z5⟩, z6, z7, z8⟩ := hSw; go_simp; try (with_reducible rfl))
    try simp only [Act.put, List.setIfInBounds_toArray, List.set_cons_zero, List.set_cons_succ]
    refine wpAnyD_one (i := 6) (o := { dst := some 23, op := Go.Op.buildSlice 22 1 #[(0, Go.Operand.tmp 22)], type := 22, pos := "ref.go:37", after := #[{ on := 5, ground := Go.Ground.data }], guard := none }) (by kernel_rfl) rfl (fun K hK => ?_)
    rw [if_pos (by kernel_rfl)]
    go_simp
    have hG7 : Gr W2 (W2.drew.alloc (.cells #[.int .i64 x.at_, .int .u64 x.a, .int .u64 x.b, .int .u64 x.c, .int .u64 x.k, .int .u64 x.v] 36)) := (Gr.refl _).drew.alloc _
    have hS7 : (fun W : World => Mc W b1 0 x ∧ W.cell? ⟨rb, 1, none⟩ = some v ∧ b1 < W.heap.size ∧ rb < W.heap.size) (W2.drew.alloc (.cells #[.int .i64 x.at_, .int .u64 x.a, .int .u64 x.b, .int .u64 x.c, .int .u64 x.k, .int .u64 x.v] 36)) := ⟨⟨(hG7.cell lb2).trans s0, (hG7.cell lb2).trans s1, (hG7.cell lb2).trans s2, (hG7.cell lb2).trans s3, (hG7.cell lb2).trans s4, (hG7.cell lb2).trans s5⟩, (hG7.cell lr2).trans d1, Nat.lt_of_lt_of_le lb2 hG7.size, Nat.lt_of_lt_of_le lr2 hG7.size⟩
    refine hK.out _ _ (fun hD => hS7) ?_
    clear hK K
    try simp only [Act.put, List.setIfInBounds_toArray, List.set_cons_zero, List.set_cons_succ]
    refine wpAnyD_one (i := 7) (o := { dst := some 24, op := Go.Op.call { callee := Go.Callee.builtin Go.Builtin.append, args := #[Go.Operand.tmp 21, Go.Operand.tmp 23], argTypes := #[22, 22] }, type := 22, pos := "ref.go:37", after := #[{ on := 4, ground := Go.Ground.data }, { on := 6, ground := Go.Ground.data }], guard := none }) (by kernel_rfl) rfl (fun K hK => ?_)
    refine step_app1 EM Try.underlying22 infoM rfl (by decide) rfl _ _ rfl 0 v L.length _ (by first | rfl | (go_simp; done)) HOW.out x (by first | rfl | (go_simp; done)) HBG.out.1 HBG.out.2 (Nat.zero_le _) _ rfl _ ?_
    intro g cap w8 ho8 hg8 hn8
    have hk8 : Hid (Kp (fun k => v.ownBlock = some k) W2 w8) := (Kp.of_gr (Gr.refl _).drew).trans (T := fun k => v.ownBlock = some k) (Kp.grownBy hg8.out (fun _ h => h)) (fun _ _ h => h)
    have hS8 : (fun W : World => Mc W b1 0 x ∧ W.cell? ⟨rb, 1, none⟩ = some v ∧ b1 < W.heap.size ∧ rb < W.heap.size) w8 := ⟨⟨(hk8.out.cell lb2 hvb).trans s0, (hk8.out.cell lb2 hvb).trans s1, (hk8.out.cell lb2 hvb).trans s2, (hk8.out.cell lb2 hvb).trans s3, (hk8.out.cell lb2 hvb).trans s4, (hk8.out.cell lb2 hvb).trans s5⟩, (hk8.out.cell lr2 hoff).trans d1, Nat.lt_of_lt_of_le lb2 hk8.out.size, Nat.lt_of_lt_of_le lr2 hk8.out.size⟩
    refine hK.out _ _ (fun hD => hS8) ?_
    clear hK K
    try simp only [Act.put, List.setIfInBounds_toArray, List.set_cons_zero, List.set_cons_succ]
    refine wpAnyD_one (i := 8) (o := { dst := some 25, op := Go.Op.nilCheck (Go.Operand.tmp 17), type := 0, pos := "ref.go:37", after := #[{ on := 0, ground := Go.Ground.data }, { on := 0, ground := Go.Ground.phase }, { on := 1, ground := Go.Ground.phase }, { on := 2, ground := Go.Ground.phase }, { on := 3, ground := Go.Ground.phase }, { on := 4, ground := Go.Ground.phase }, { on := 5, ground := Go.Ground.phase }, { on := 6, ground := Go.Ground.phase }, { on := 7, ground := Go.Ground.phase }], guard := none }) (by kernel_rfl) rfl (fun K hK => ?_)
    rw [if_pos (by kernel_rfl)]
    go_simp
    refine hK.out _ _ (fun hD => hS8) ?_
    clear hK K
    try simp only [Act.put, List.setIfInBounds_toArray, List.set_cons_zero, List.set_cons_succ]
    refine wpAnyD_one (i := 9) (o := { dst := some 26, op := Go.Op.fieldAddr 71 (Go.Operand.tmp 25) 1, type := 0, pos := "ref.go:37", after := #[{ on := 8, ground := Go.Ground.data }, { on := 0, ground := Go.Ground.phase }, { on := 1, ground := Go.Ground.phase }, { on := 2, ground := Go.Ground.phase }, { on := 3, ground := Go.Ground.phase }, { on := 4, ground := Go.Ground.phase }, { on := 5, ground := Go.Ground.phase }, { on := 6, ground := Go.Ground.phase }, { on := 7, ground := Go.Ground.phase }], guard := none }) (by kernel_rfl) rfl (fun K hK => ?_)
    rw [if_pos (by kernel_rfl)]
    go_simp
    refine hK.out _ _ (fun hD => hS8) ?_
    clear hK K
    try simp only [Act.put, List.setIfInBounds_toArray, List.set_cons_zero, List.set_cons_succ]
    refine wpAnyD_one (i := 10) (o := { dst := none, op := Go.Op.store 22 (Go.Operand.tmp 26) (Go.Operand.tmp 24), type := 0, pos := "ref.go:37", after := #[{ on := 9, ground := Go.Ground.data }, { on := 7, ground := Go.Ground.data }, { on := 7, ground := Go.Ground.chain }, { on := 0, ground := Go.Ground.phase }, { on := 1, ground := Go.Ground.phase }, { on := 2, ground := Go.Ground.phase }, { on := 3, ground := Go.Ground.phase }, { on := 4, ground := Go.Ground.phase }, { on := 5, ground := Go.Ground.phase }, { on := 6, ground := Go.Ground.phase }, { on := 7, ground := Go.Ground.phase }], guard := none }) (by kernel_rfl) rfl (fun K hK => ?_)
    rw [if_pos (by kernel_rfl)]
    have d8 : w8.cell? ⟨rb, 1, none⟩ = some v := (hk8.out.cell lr2 hoff).trans d1
    have f8 : w8.frozen? ⟨rb, 1, none⟩ = false := by
      have h1 := (hk8.out.block rb lr2 hoff).trans HR2.out.blk
      simp [World.frozen?, h1]
    have l8 : rb < w8.heap.size := Nat.lt_of_lt_of_le lr2 hk8.out.size
    go_simp
    refine hK.out _ _ (fun hD => absurd (by decide) hD) ?_
    clear hK K
    try simp only [Act.put, List.setIfInBounds_toArray, List.set_cons_zero, List.set_cons_succ]
    refine wpAnyD_done (by kernel_rfl) ?_ _
    go_wp2_with fail
    go_ret
    have hA := HR2.out.grow (v' := .slice (some ⟨g, 0, none⟩) (L.length + 1) cap) (L' := L ++ [x]) hk8.out (owns_re ho8.out (by simp) (by rw [fl_append, fl_one])) (fun k hk => by rw [← own_eq hk]; exact hn8.out)
    have hs := (HG.out.trans HG2.out).size
    refine ⟨rfl, ⟨_, ⟨hA.1.blk, hA.1.own, Or.inl (hA.1.sb.elim id (fun h => HR2.out.sb)), fun g hg => ?_⟩⟩, (Kp.of_gr (HG.out.trans HG2.out)).trans hA.2 (fun _ _ h => h)⟩
    rcases hA.1.sv g hg with h1 | h1
    · exact Or.inl h1
    · exact Or.inr ⟨Nat.le_trans hs h1.1, h1.2⟩
  · rw [if_neg hP, if_neg hP]
    have hcase : x.at_ < 0 ∨ (¬ (x.at_ < 0) ∧ (N : Int) ≤ x.at_) := by
      by_cases e : x.at_ < 0
      · exact Or.inl e
      · exact Or.inr ⟨e, by by_cases e2 : (N : Int) ≤ x.at_
                            · exact e2
                            · exact absurd ⟨by omega, by omega⟩ hP⟩
    clear hP
    rcases hcase with a1 | ⟨a1, a2⟩
    all_goals (
      go_enter Try.func30, Try.ntmps30
      go_upto_region 1 with fail
      rw [← hW1, ← hb1]
      clear hW1 hb1
      go_quiet (fail)
      go_wp2
      go_ret
      have hd := HR.out.below ((Gr.refl W1).drewN nq).below
      have hN : Rd (W1.drewN nq) (nx S w (W1.drewN nq)) rb N v L := ⟨hd.blk, hd.own, Or.inl hd.sb, fun g hg => Or.inl (hd.sv g hg)⟩
      have hKp : Kp S w (W1.drewN nq) := Kp.of_gr (HG.out.drewN _)
      first | exact ⟨rfl, v, hN, hKp⟩ | exact ⟨rfl, ⟨v, hN⟩, hKp⟩)
end Go.Proofs.Ytaaobchodbnkpaa.Qe
