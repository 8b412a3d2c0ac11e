import Derived.Test.YtabcibmdbancdaaXNum0
import Derived.Test.YtabcibmdbancdaaXRefA
namespace Go.Proofs.Ytabcibmdbancdaa
open Go.RowKit Go.Sort Go.Maps
attribute [local go_sem ↓] Go.wp_at_zero Go.wp_at_succ

/-- The document's book. -/
structure Rc (w : World) (rb : Nat) (v : Value) (most last : Int) (L : List Hd) : Prop where
  blk : w.heap[rb]? = some (.cells #[.int .i64 most, .int .i64 last, v] 66 (0, 0))
  row : w.ownsRow 0 38 5 v L.length (fl EH L)
section
variable {w w' : World} {rb : Nat} {v : Value} {most last : Int} {L : List Hd}
theorem Rc.lt (h : Rc w rb v most last L) : rb < w.heap.size := (Array.getElem?_eq_some_iff.1 h.blk).1
theorem Rc.c0 (h : Rc w rb v most last L) : w.cell? ⟨rb, 0, none⟩ = some (.int .i64 most) := by simp [World.cell?, h.blk]
theorem Rc.c1 (h : Rc w rb v most last L) : w.cell? ⟨rb, 1, none⟩ = some (.int .i64 last) := by simp [World.cell?, h.blk]
theorem Rc.c2 (h : Rc w rb v most last L) : w.cell? ⟨rb, 2, none⟩ = some v := by simp [World.cell?, h.blk]
theorem Rc.fz (h : Rc w rb v most last L) (k : Nat) : w.frozen? ⟨rb, k, none⟩ = false := by simp [World.frozen?, h.blk]
theorem Rc.off (h : Rc w rb v most last L) : v.ownBlock ≠ some rb := fun e => by
  obtain ⟨_, ⟨rfl, _⟩ | ⟨g', cap, cur, rfl, _, hh, _⟩⟩ := h.row
  · simp [Value.ownBlock] at e
  · simp [Value.ownBlock] at e
    rw [e, h.blk] at hh
    simp at hh
theorem Rc.kp {S : Nat → Prop} (h : Rc w rb v most last L) (hk : Kp S w w') (h1 : ¬ S rb) (h2 : ∀ k, v.ownBlock = some k → ¬ S k) : Rc w' rb v most last L :=
  ⟨(hk.block rb h.lt h1).trans h.blk, owns_kp hk h.row h2⟩
theorem Rc.below (h : Rc w rb v most last L) (hb : Below w.heap.size w w') : Rc w' rb v most last L := h.kp (S := fun _ => False) (Kp.of_below hb) (fun h => h) (fun _ _ h => h)
theorem Rc.gr (h : Rc w rb v most last L) (hb : Gr w w') : Rc w' rb v most last L := h.below hb.below
theorem Rc.ls (h : Rc w rb v most last L) : Ls EH w v L := owns_ls (E := EH) h.row
end

theorem blkLt {W : World} {B : Nat} {o : Obj} (h : W.heap[B]? = some o) : B < W.heap.size := (Array.getElem?_eq_some_iff.1 h).1
theorem rnew_any (most : Int) (w : World) : Calls Try.prog 13 #[.int .i64 most] w fun e w' => e = .returned (.pointer (some ⟨w.heap.size, 0, none⟩)) ∧ Rc w' w.heap.size (.slice none 0 0) most 0 [] ∧ Gr w w' := by
  go_enter Try.func13, Try.ntmps13
  go_wp2
  go_ret
  exact ⟨rfl, ⟨heap_new' _ _, World.ownsRow_nil _ _ _ _⟩, (Gr.refl _).alloc _⟩

theorem set_eq' {L : List Hd} (hr : L.Pairwise fun x y => x.1 < y.1) {i : Nat} {h : Hd} (hi : L[i]? = some h) (s : Sp) : L.set i (h.1, s) = setL L h.1 s := by
  apply List.ext_getElem?
  intro j
  unfold setL
  rw [List.getElem?_map, List.getElem?_set]
  obtain ⟨hil, hie⟩ := List.getElem?_eq_some_iff.1 hi
  by_cases e : i = j
  · subst e
    rw [if_pos rfl, if_pos hil, hi]
    simp
  · rw [if_neg e]
    cases hq : L[j]? with
    | none => rfl
    | some x =>
      have hne : x.1 ≠ h.1 := fun e2 => by
        obtain ⟨hjl, hje⟩ := List.getElem?_eq_some_iff.1 hq
        have hp := List.pairwise_iff_getElem.1 hr
        rcases Nat.lt_or_gt_of_ne e with hlt | hlt
        · have := hp i j hil hjl hlt; rw [hie, hje] at this; omega
        · have := hp j i hjl hil hlt; rw [hie, hje] at this; omega
      simp [hne]
/-- Where a number stands. -/
def At (L : List Hd) (id n : Int) : Prop := (look L id = none ∧ n = -1) ∨ ∃ (i : Nat) (s : Sp), n = (i : Int) ∧ L[i]? = some (id, s) ∧ look L id = some s
theorem look_take {L : List Hd} {id : Int} {k : Nat} {h : Hd} (hk : L[k]? = some h) (hn : look (L.take k) id = none) : look (L.take (k + 1)) id = if h.1 = id then some h.2 else none := by
  rw [List.take_add_one, hk]
  show look (L.take k ++ [h]) id = _
  by_cases e : h.1 = id
  · rw [if_pos e]
    have := look_new (L.take k) h.1 h.2 (by rw [e]; exact hn) id
    rw [if_pos e.symm] at this
    exact this
  · rw [if_neg e]
    refine look_none.2 fun x hx => ?_
    rcases List.mem_append.1 hx with hx | hx
    · exact look_none.1 hn x hx
    · rw [List.mem_singleton] at hx
      subst hx
      exact e
set_option maxHeartbeats 1000000 in
theorem rat_any {rb : Nat} {v : Value} {most last : Int} {L : List Hd} (id : Int) (w : World) (h : Rc w rb v most last L) (hr : L.Pairwise fun x y => x.1 < y.1) (hl : L.length ≤ 3000000000000) :
    Calls Try.prog 33 #[.pointer (some ⟨rb, 0, none⟩), .int .i64 id] w fun e w' => ∃ n, e = .returned (.int .i64 n) ∧ At L id n ∧ w' = w := by
  have c2 := h.c2
  have hlt := h.lt
  obtain ⟨pv, cv, rfl⟩ := h.ls.form
  have HL := hid h.ls
  have HR := hid hr
  clear h hr
  go_enter Try.func33, Try.ntmps33
  go_wp2_with fail
  go_loopw [5] (fun s5 wr => ∃ k : Nat, k ≤ L.length ∧ s5 = .int .i64 (k : Nat) ∧ look (L.take k) id = none ∧ wr = w) (fun s5 _ => L.length - (RowKit.intOf s5).toNat)
  case atStart => exact ⟨0, Nat.zero_le _, rfl, rfl, rfl⟩
  case round =>
    obtain ⟨k, hk, rfl, hnn, hwr⟩ := hrel
    subst hwr
    by_cases hkl : k < L.length
    · have hltz : (k : Int) < (L.length : Int) := by omega
      have hk0 : (0 : Int) ≤ (k : Int) := by omega
      obtain ⟨s, hs⟩ : ∃ s, L[k]? = some s := ⟨L[k], by simp⟩
      obtain ⟨b1, o1, c1, e1, z1, x0, x1, x2, x3, x4⟩ := HL.out.atH hs
      simp only [Value.slice.injEq] at e1
      obtain ⟨rfl, -, rfl⟩ := e1
      have HS := hid hs
      have HN := hid hnn
      clear hs hnn x1 x2 x3 x4
      by_cases hid2 : s.1 = id
      · go_wp2_with fail
        go_ret
        refine ⟨_, rfl, Or.inr ⟨k, s.2, rfl, by rw [HS.out, ← hid2], ?_⟩, rfl⟩
        rw [← hid2]
        exact mem_look HR.out (List.mem_of_getElem? HS.out)
      · go_wp2_with fail
        go_roundw
        case rel => exact ⟨k + 1, by omega, by go_num, by rw [look_take HS.out HN.out, if_neg hid2], by first | rfl | trivial⟩
        case measure => simp [RowKit.intOf]; omega
    · have hltz : ¬ (k : Int) < (L.length : Int) := by omega
      have e : k = L.length := by omega
      subst e
      go_wp2_with fail
      go_ret
      exact ⟨_, rfl, Or.inl ⟨by rw [List.take_length] at hnn; exact hnn, rfl⟩, by first | rfl | trivial⟩

set_option maxHeartbeats 1000000 in
theorem rget_none {rb : Nat} {v : Value} {most last : Int} {L : List Hd} (id : Int) (w : World) (h : Rc w rb v most last L) (hr : L.Pairwise fun x y => x.1 < y.1) (hl : L.length ≤ 3000000000000) (hk : look L id = none) :
    Calls Try.prog 24 #[.pointer (some ⟨rb, 0, none⟩), .int .i64 id] w fun e w' => e = .returned (.tuple #[sv (0, 0, 0, 0), .int .i64 47]) ∧ Gr w w' := by
  have ha := rat_any id _ (h.gr ((Gr.refl w).alloc (.cells #[.int .i64 0, .int .u64 0, .int .u64 0, .int .u64 0] 31))) hr hl
  clear h
  go_enter Try.func24, Try.ntmps24
  go_wp2_with fail
  refine ha.mono ?_
  rintro e w1 ⟨n, rfl, hn, hw1⟩
  rcases hn with ⟨_, rfl⟩ | ⟨_, _, _, _, h2⟩
  · rw [hw1]
    go_wp2
    exact bodyPost_ret (v := .tuple #[sv (0, 0, 0, 0), .int .i64 47]) (by simp [results, Try.results24, go_sem]) rfl ⟨rfl, (Gr.refl _).alloc _⟩
  · rw [hk] at h2; cases h2
set_option maxHeartbeats 1000000 in
theorem rget_some {rb : Nat} {v : Value} {most last : Int} {L : List Hd} (id : Int) (s : Sp) (w : World) (h : Rc w rb v most last L) (hr : L.Pairwise fun x y => x.1 < y.1) (hl : L.length ≤ 3000000000000) (hk : look L id = some s) :
    Calls Try.prog 24 #[.pointer (some ⟨rb, 0, none⟩), .int .i64 id] w fun e w' => e = .returned (.tuple #[sv s, .int .i64 0]) ∧ Gr w w' := by
  have h1 := h.gr ((Gr.refl w).alloc (.cells #[.int .i64 0, .int .u64 0, .int .u64 0, .int .u64 0] 31))
  have ha := rat_any id _ h1 hr hl
  have c2 := h.c2
  have hlt := h.lt
  have HL := hid h1.ls
  obtain ⟨pv, cv, rfl⟩ := h.ls.form
  clear h h1
  go_enter Try.func24, Try.ntmps24
  go_wp2_with fail
  refine ha.mono ?_
  rintro e w1 ⟨n, rfl, hn, hw1⟩
  rcases hn with ⟨h2, _⟩ | ⟨i, s', rfl, h1, h2⟩
  · rw [hk] at h2; cases h2
  · rw [hw1]
    rw [hk] at h2
    cases h2
    have hil := (List.getElem?_eq_some_iff.1 h1).1
    have hltz : (i : Int) < (L.length : Int) := by omega
    have hk0 : (0 : Int) ≤ (i : Int) := by omega
    have hk1 : ¬ (i : Int) < 0 := by omega
    obtain ⟨b1, o1, c1, e1, z1, x0, x1, x2, x3, x4⟩ := HL.out.atH h1
    simp only [Value.slice.injEq] at e1
    obtain ⟨rfl, -, rfl⟩ := e1
    obtain ⟨p, x, y, z⟩ := s
    clear h1 hw1 ha
    go_wp2
    exact bodyPost_ret (v := .tuple #[sv (p, x, y, z), .int .i64 0]) (by simp [results, Try.results24, go_sem]) rfl ⟨rfl, (Gr.refl _).alloc _⟩
end Go.Proofs.Ytabcibmdbancdaa
