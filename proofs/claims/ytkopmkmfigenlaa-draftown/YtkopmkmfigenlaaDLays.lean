import Derived.Test.YtkopmkmfigenlaaDLay
namespace Go.Proofs.Ytkopmkmfigenlaa.Df
open Go.RowKit Go.Sort Wi
attribute [local go_sem ↓] Go.wp_at_zero Go.wp_at_succ

theorem bedg_len {x : Edg} (h : EdgT x) : (bedg x).length ≤ 50 := by
  unfold bedg
  have := bint_len h.1
  have := bint_len h.2.1
  have := bint_len h.2.2.1
  have := bint_len h.2.2.2
  simp only [List.length_append, btruth, List.length_singleton]
  omega
/-- The four numbers of an edge. -/
def Edg.ns (x : Edg) : List Int := [x.src, x.out, x.dst, x.inn]
theorem Edg.neg {x : Edg} {n : Int} (h : n ∈ x.ns) (h0 : n < 0) : eedg x = 25 := by
  simp only [Edg.ns, List.mem_cons, List.not_mem_nil, or_false] at h
  unfold eedg
  rw [if_pos]
  omega
theorem Edg.pos {x : Edg} (h : ∀ n ∈ x.ns, 0 ≤ n) : eedg x = 0 := by
  simp only [Edg.ns, List.mem_cons, List.not_mem_nil, or_false] at h
  have h1 := h x.src (by simp)
  have h2 := h x.out (by simp)
  have h3 := h x.dst (by simp)
  have h4 := h x.inn (by simp)
  unfold eedg
  rw [if_neg]
  omega
theorem Edg.t {x : Edg} (h : EdgT x) : ∀ n ∈ x.ns, I64 n := by
  intro n hn
  simp only [Edg.ns, List.mem_cons, List.not_mem_nil, or_false] at hn
  obtain ⟨h1, h2, h3, h4⟩ := h
  rcases hn with rfl | rfl | rfl | rfl <;> assumption
theorem ns_len {ns : List Int} (h : ∀ n ∈ ns, I64 n) : (ns.flatMap bint).length ≤ 10 * ns.length := by
  induction ns with
  | nil => simp
  | cons n ns ih =>
    have h1 := bint_len (h n (by simp))
    have h2 := ih (fun m hm => h m (by simp [hm]))
    rw [List.flatMap_cons, List.length_append, List.length_cons]
    omega
set_option maxHeartbeats 1000000 in
theorem ledge_any {wb : Nat} {v : Value} {L : List UInt8} (x : Edg) (hT : EdgT x) (w : World) (hW : Wr w wb v L 0) (hl : L.length + 60 ≤ 140737488355328) : Calls Try.prog 43 #[lv wb, edgv x] w (Pt (eedg x) (bedg x) wb v L w) := by
  have F0 := hid (Lf.start hW 69 #[.int .i64 x.src, .int .i64 x.out, .int .i64 x.dst, .int .i64 x.inn, .bool x.keyed])
  have hrow := hW.row
  clear hW
  go_enter Try.func43, Try.ntmps43
  go_wp2_with fail
  obtain ⟨W1, hW1⟩ : ∃ W1, W1 = ((w.alloc (.cells #[.pointer (some ⟨wb, 0, none⟩)] 59)).alloc (.cells #[.int .i64 x.src, .int .i64 x.out, .int .i64 x.dst, .int .i64 x.inn, .bool x.keyed] 69)).alloc (.cells #[.int .i64 x.src, .int .i64 x.out, .int .i64 x.dst, .int .i64 x.inn] 3) := ⟨_, rfl⟩
  have I0 : Hid (Lf w W1 wb v v L 69 #[.int .i64 x.src, .int .i64 x.out, .int .i64 x.dst, .int .i64 x.inn, .bool x.keyed] ∧ W1.heap[w.heap.size + 1 + 1]? = some (.cells #[.int .i64 x.src, .int .i64 x.out, .int .i64 x.dst, .int .i64 x.inn] 3 (0, 0)) ∧ ∀ k, v.ownBlock = some k → k ≠ w.heap.size + 1 + 1) := by
    have g1 := (Gr.refl ((w.alloc (.cells #[.pointer (some ⟨wb, 0, none⟩)] 59)).alloc (.cells #[.int .i64 x.src, .int .i64 x.out, .int .i64 x.dst, .int .i64 x.inn, .bool x.keyed] 69))).alloc (.cells #[.int .i64 x.src, .int .i64 x.out, .int .i64 x.dst, .int .i64 x.inn] 3)
    rw [hW1]
    have hn := heap_new' ((w.alloc (.cells #[.pointer (some ⟨wb, 0, none⟩)] 59)).alloc (.cells #[.int .i64 x.src, .int .i64 x.out, .int .i64 x.dst, .int .i64 x.inn, .bool x.keyed] 69)) (.cells #[.int .i64 x.src, .int .i64 x.out, .int .i64 x.dst, .int .i64 x.inn] 3)
    rw [show ((w.alloc (.cells #[.pointer (some ⟨wb, 0, none⟩)] 59)).alloc (.cells #[.int .i64 x.src, .int .i64 x.out, .int .i64 x.dst, .int .i64 x.inn, .bool x.keyed] 69)).heap.size = w.heap.size + 1 + 1 by simp] at hn
    exact ⟨F0.out.call (Turn.of_below g1.below) (F0.out.wr.gr g1), hn, fun k hk => by have := hrow k hk; omega⟩
  rw [← hW1]
  clear F0 hW1 hrow
  go_loopw [16] (fun s16 wr => ∃ (k : Nat) (v1 : Value), k ≤ 4 ∧ s16 = .int .i64 (k : Nat) ∧ Hid (Lf w wr wb v v1 (L ++ (x.ns.take k).flatMap bint) 69 #[.int .i64 x.src, .int .i64 x.out, .int .i64 x.dst, .int .i64 x.inn, .bool x.keyed] ∧ wr.heap[w.heap.size + 1 + 1]? = some (.cells #[.int .i64 x.src, .int .i64 x.out, .int .i64 x.dst, .int .i64 x.inn] 3 (0, 0)) ∧ (∀ k, v1.ownBlock = some k → k ≠ w.heap.size + 1 + 1) ∧ ∀ n ∈ x.ns.take k, 0 ≤ n)) (fun s16 _ => 4 - (RowKit.intOf s16).toNat)
  case atStart => exact ⟨0, v, by decide, rfl, by rw [List.take_zero, List.flatMap_nil, List.append_nil]; exact ⟨I0.out.1, I0.out.2.1, I0.out.2.2, fun n hn => (by cases hn)⟩⟩
  case round =>
    clear I0
    obtain ⟨k, v1, hk, rfl, HI⟩ := hrel
    have hTn := Edg.t hT
    have hroom : (L ++ (x.ns.take k).flatMap bint).length + 10 ≤ 140737488355328 := by
      have := ns_len (fun n hn => hTn n (List.mem_of_mem_take hn)) (ns := x.ns.take k)
      rw [List.length_take, show x.ns.length = 4 from rfl] at this
      rw [List.length_append]
      omega
    have hlw := HI.out.1.lt
    obtain ⟨⟨c0, l0⟩, ca, fa, la⟩ := HI.out.1.facts
    by_cases hlt : k < 4
    · have hltz : (k : Int) < 4 := by omega
      obtain ⟨n, hn⟩ : ∃ n, x.ns[k]? = some n := ⟨x.ns[k]'(by simpa [Edg.ns] using hlt), by rw [List.getElem?_eq_getElem]⟩
      have hnm := List.mem_of_getElem? hn
      have cs : wr.cell? ⟨w.heap.size + 1 + 1, k, none⟩ = some (.int .i64 n) := by
        rw [(tk_store HI.out.2.1).1 k]
        have : k = 0 ∨ k = 1 ∨ k = 2 ∨ k = 3 := by omega
        rcases this with rfl | rfl | rfl | rfl <;> simp [Edg.ns] at hn <;> simp [hn]
      have ls := tk_lt HI.out.2.1
      have HN := hid hn
      clear hn
      go_wp2_with fail
      by_cases h0 : n < 0
      · refine (lint_bad n 25 h0 _).mono ?_
        rintro r w1 ⟨rfl, k1⟩
        go_wp2_with fail
        exact ⟨rfl, Pt.no (Edg.neg hnm h0) (by decide) (HI.out.1.tn.trans (Turn.of_below k1))⟩
      · refine (lint_ok n 25 (by omega) (hTn n hnm) _ HI.out.1.wr hroom).mono ?_
        rintro r w1 ⟨v2, rfl, h1, k1⟩
        have N1 : Hid (Lf w w1 wb v v2 (L ++ (x.ns.take (k + 1)).flatMap bint) 69 #[.int .i64 x.src, .int .i64 x.out, .int .i64 x.dst, .int .i64 x.inn, .bool x.keyed] ∧ w1.heap[w.heap.size + 1 + 1]? = some (.cells #[.int .i64 x.src, .int .i64 x.out, .int .i64 x.dst, .int .i64 x.inn] 3 (0, 0)) ∧ (∀ k, v2.ownBlock = some k → k ≠ w.heap.size + 1 + 1) ∧ ∀ n ∈ x.ns.take (k + 1), 0 ≤ n) := by
          have e : x.ns.take (k + 1) = x.ns.take k ++ [n] := by rw [List.take_add_one, HN.out]; rfl
          rw [e, List.flatMap_append, List.flatMap_singleton, ← List.append_assoc]
          refine ⟨HI.out.1.call k1 h1, (k1.1.block _ ls ?_).trans HI.out.2.1, fun j hj => ?_, fun m hm => ?_⟩
          · rintro (e | e)
            · omega
            · exact HI.out.2.2.1 _ e rfl
          · rcases k1.2 j hj with e | e
            · exact HI.out.2.2.1 j e
            · omega
          · rcases List.mem_append.1 hm with hm | hm
            · exact HI.out.2.2.2 m hm
            · rw [List.mem_singleton] at hm; omega
        clear h1 k1 HI HN
        go_wp2_with fail
        go_roundw
        case rel => exact ⟨k + 1, v2, by omega, by go_num, N1.out⟩
        case measure => simp [RowKit.intOf]; omega
    · have hltz : ¬ (k : Int) < 4 := by omega
      have hk4 : k = 4 := by omega
      subst hk4
      rw [show x.ns.take 4 = x.ns from rfl] at HI
      have E0 := hid (Edg.pos HI.out.2.2.2)
      go_wp2_with fail
      refine (ltruth_any x.keyed _ HI.out.1.wr hroom).mono ?_
      intro r w1 h1
      obtain ⟨v2, rfl, k1, h1⟩ := h1.good rfl
      have F1 := hid (HI.out.1.call k1 h1)
      clear h1 k1 HI
      go_wp2_with fail
      go_end0
      exact Pt.yes E0.out F1.out.tn (by have := F1.out.wr; simpa [bedg, Edg.ns] using this)
/-- What stands while a list is laid: the layer's place. -/
structure Lg (w W : World) (wb : Nat) (v0 v : Value) (L : List UInt8) : Prop where
  wr : Wr W wb v L 0
  tn : Turn wb v0 v w W
  hl : W.heap[w.heap.size]? = some (.cells #[.pointer (some ⟨wb, 0, none⟩)] 59 (0, 0))
  ne : ∀ k, v.ownBlock = some k → k ≠ w.heap.size
  lt : wb < w.heap.size
theorem Lg.start {w : World} {wb : Nat} {v : Value} {L : List UInt8} (h : Wr w wb v L 0) : Lg w (w.alloc (.cells #[.pointer (some ⟨wb, 0, none⟩)] 59)) wb v v L := by
  have hg := (Gr.refl w).alloc (.cells #[.pointer (some ⟨wb, 0, none⟩)] 59)
  exact ⟨h.gr hg, Turn.of_below hg.below, heap_new' w _, fun k hk => by have := h.row k hk; omega, h.lt⟩
theorem Lg.call {w W W' : World} {wb : Nat} {v0 v v' : Value} {L L' : List UInt8} (h : Lg w W wb v0 v L) (ht : Turn wb v v' W W') (hw : Wr W' wb v' L' 0) : Lg w W' wb v0 v' L' := by
  have h1 := h.lt
  have l1 := tk_lt h.hl
  refine ⟨hw, h.tn.trans ht, (ht.1.block _ l1 ?_).trans h.hl, fun k hk => ?_, h1⟩
  · rintro (e | e)
    · omega
    · exact h.ne _ e rfl
  · rcases ht.2 k hk with e | e
    · exact h.ne k e
    · omega
/-- Memory that is read while it is laid lies below M; the writer's lies behind. -/
def Mm (M wb : Nat) (v : Value) : Prop := M ≤ wb ∧ ∀ k, v.ownBlock = some k → M ≤ k
theorem Mm.turn {M wb : Nat} {v v' : Value} {w w' : World} (h : Mm M wb v) (ht : Turn wb v v' w w') (hl : wb < w.heap.size) : Mm M wb v' := ⟨h.1, fun k hk => by
  have h1 := h.1
  rcases ht.2 k hk with e | e
  · exact h.2 k e
  · omega⟩
theorem Mm.ls {α : Type} {E : El α} {M wb : Nat} {v v' sv : Value} {w w' : World} {l : List α} (h : Mm M wb v) (ht : Turn wb v v' w w') (hL : Ls E w sv l) (hs : ∀ k, sv.ownBlock = some k → k < M) : Ls E w' sv l :=
  ht.1.ls hL (fun k hk => by
    have h1 := h.1
    have h3 := hs k hk
    rintro (e | e)
    · omega
    · have := h.2 k e; omega)
/-- A list that is read: its row lies below M; an empty one may lie anywhere. -/
def Lz {α : Type} (E : El α) (M : Nat) (w : World) (v : Value) (l : List α) : Prop := (Ls E w v l ∧ ∀ k, v.ownBlock = some k → k < M) ∨ (l = [] ∧ ∃ p c, v = .slice p 0 c)
section
variable {α : Type} {E : El α} {M : Nat} {w w' : World} {v : Value} {l : List α}
theorem Lz.form (h : Lz E M w v l) : ∃ p c, v = .slice p l.length c := by
  rcases h with ⟨h, _⟩ | ⟨rfl, p, c, rfl⟩
  · exact h.form
  · exact ⟨p, c, rfl⟩
theorem Lz.turn {wb : Nat} {v0 v1 : Value} (h : Lz E M w v l) (hM : Mm M wb v0) (ht : Turn wb v0 v1 w w') : Lz E M w' v l := by
  rcases h with ⟨h, hs⟩ | h
  · exact Or.inl ⟨hM.ls ht h hs, hs⟩
  · exact Or.inr h
theorem Lz.below (h : Lz E M w v l) (hb : Below w.heap.size w w') : Lz E M w' v l := by
  rcases h with ⟨h, hs⟩ | h
  · exact Or.inl ⟨h.below hb, hs⟩
  · exact Or.inr h
theorem Lz.up {M' : Nat} (h : Lz E M w v l) (hM : M ≤ M') : Lz E M' w v l := by
  rcases h with ⟨h, hs⟩ | h
  · exact Or.inl ⟨h, fun k hk => Nat.lt_of_lt_of_le (hs k hk) hM⟩
  · exact Or.inr h
theorem Lz.ls (h : Lz E M w v l) {i : Nat} {x : α} (hi : l[i]? = some x) : Ls E w v l := by
  rcases h with ⟨h, _⟩ | ⟨rfl, _⟩
  · exact h
  · simp at hi
theorem Lz.nil (E : El α) (M : Nat) (w : World) : Lz E M w (.slice none 0 0) [] := Or.inr ⟨rfl, none, 0, rfl⟩
end
theorem efirst_take {α : Type} (e : α → Nat) (l : List α) (i : Nat) (x : α) (h : ∀ y ∈ l.take i, e y = 0) (hx : l[i]? = some x) (h0 : e x ≠ 0) : efirst e l = e x := by
  induction l generalizing i with
  | nil => simp at hx
  | cons y l ih =>
    unfold efirst
    cases i with
    | zero =>
      simp at hx
      subst hx
      rw [if_neg h0]
    | succ i =>
      rw [if_pos (h y (by simp))]
      exact ih i (fun z hz => h z (by simp [hz])) (by simpa using hx)
theorem flat_len {α : Type} (f : α → List UInt8) (c : Nat) (l : List α) (h : ∀ x ∈ l, (f x).length ≤ c) : (l.flatMap f).length ≤ c * l.length := by
  induction l with
  | nil => simp
  | cons x l ih =>
    have h1 := h x (by simp)
    have h2 := ih (fun y hy => h y (by simp [hy]))
    rw [List.flatMap_cons, List.length_append, List.length_cons, Nat.mul_add, Nat.mul_one]
    omega
theorem ls_atO {w : World} {v : Value} {ts : List Opd} (h : Ls EO w v ts) {j : Nat} {o : Opd} (hj : ts[j]? = some o) :
    ∃ b off c, v = .slice (some ⟨b, off, none⟩) ts.length c ∧ b < w.heap.size ∧ w.cell? ⟨b, off + j * 2, none⟩ = some (.int .i64 o.kind) ∧ w.cell? ⟨b, off + j * 2 + 1, none⟩ = some (.int .u64 (o.arg : Nat)) := by
  obtain ⟨b, off, c, hv, hb, hc⟩ := h.get hj
  exact ⟨b, off, c, hv, hb, hc 0 _ (by decide) rfl, hc 1 _ (by decide) rfl⟩
set_option maxHeartbeats 2000000 in
theorem lopl_any {wb M : Nat} {v sv : Value} {L : List UInt8} {l : List Opd} (hT : ∀ o ∈ l, OpdT o) (w : World) (hW : Wr w wb v L 0) (hM : Mm M wb v) (hL : Lz EO M w sv l) (hlen : l.length ≤ 48) (hl : L.length + 4000 ≤ 140737488355328) :
    Calls Try.prog 63 #[lv wb, sv, .func (.func 64) #[lv wb] #[]] w (Pt (efirst eopd l) (blst bopd l) wb v L w) := by
  have hmx : Try.prog.follows .mixedOrders = true := by kernel_rfl
  have F0 := hid (Lg.start hW)
  have HL := hid hL
  have HM := hid hM
  have hten := form_ten (v := l.length) (by omega)
  obtain ⟨p, c, rfl⟩ := hL.form
  have hwl : IntKind.u64.wrap (l.length : Int) = (l.length : Int) := by rw [IntKind.wrap_u64]; omega
  clear hW hL hM
  go_enter Try.func63, Try.ntmps63
  go_wp2_with fail
  refine (wnum_any l.length (by omega) _ F0.out.wr (by omega)).mono ?_
  rintro r w1 ⟨v1, rfl, h1, k1⟩
  have I0 : Hid (Lg w w1 wb v v1 (L ++ form l.length ++ (l.take 0).flatMap bopd)) := by
    have := F0.out.call k1 h1
    exact hid (by simpa [put0] using this)
  clear F0 h1 k1
  go_wp2_with fail
  go_loopw [16] (fun s16 wr => ∃ (i : Nat) (v2 : Value), i ≤ l.length ∧ s16 = .int .i64 (i : Nat) ∧ Hid (Lg w wr wb v v2 (L ++ form l.length ++ (l.take i).flatMap bopd) ∧ ∀ y ∈ l.take i, eopd y = 0)) (fun s16 _ => l.length - (RowKit.intOf s16).toNat)
  case atStart => exact ⟨0, v1, Nat.zero_le _, rfl, I0.out, fun y hy => (by simp at hy)⟩
  case round =>
    clear I0
    obtain ⟨i, v2, hi, rfl, HI⟩ := hrel
    by_cases hlt : i < l.length
    · have hltz : (i : Int) < (l.length : Int) := by omega
      obtain ⟨o, ho⟩ : ∃ o, l[i]? = some o := ⟨l[i], by rw [List.getElem?_eq_getElem]⟩
      have hroom : (L ++ form l.length ++ (l.take i).flatMap bopd).length + 60 ≤ 140737488355328 := by
        have h1 := flat_len bopd 50 (l.take i) (fun y hy => by have := bopd_len (hT y (List.mem_of_mem_take hy)); omega)
        rw [List.length_take] at h1
        simp only [List.length_append]
        omega
      have hTo := hT o (List.mem_of_getElem? ho)
      obtain ⟨b1, o1, c1, e1, z1, x0, x1⟩ := ls_atO ((HL.out.turn HM.out HI.out.1.tn).ls ho) ho
      simp only [Value.slice.injEq] at e1
      obtain ⟨rfl, -, rfl⟩ := e1
      have HO := hid ho
      have hcl := tk_cell HI.out.1.hl
      have hll := tk_lt HI.out.1.hl
      clear ho
      go_wp2_with fail
      have g1 := (Gr.refl wr).alloc (.cells #[.int .i64 o.kind, .int .u64 (o.arg : Nat)] 78)
      refine (lop_any o hTo _ (HI.out.1.wr.gr g1) (by omega)).mono ?_
      intro r w2 h2
      have hg : Lg w (wr.alloc (.cells #[.int .i64 o.kind, .int .u64 (o.arg : Nat)] 78)) wb v v2 (L ++ form l.length ++ (l.take i).flatMap bopd) := HI.out.1.call (Turn.of_below g1.below) (HI.out.1.wr.gr g1)
      by_cases e0 : eopd o = 0
      · obtain ⟨v3, rfl, k2, h2⟩ := h2.good e0
        have N1 : Hid (Lg w w2 wb v v3 (L ++ form l.length ++ (l.take (i + 1)).flatMap bopd) ∧ ∀ y ∈ l.take (i + 1), eopd y = 0) := by
          have e : l.take (i + 1) = l.take i ++ [o] := by rw [List.take_add_one, HO.out]; rfl
          rw [e, List.flatMap_append, List.flatMap_singleton, ← List.append_assoc]
          refine ⟨hg.call k2 h2, fun m hm => ?_⟩
          rcases List.mem_append.1 hm with hm | hm
          · exact HI.out.2 m hm
          · rw [List.mem_singleton] at hm
            subst hm
            exact e0
        clear h2 k2 hg g1 HI HO x0 x1
        go_wp2_with fail
        go_roundw
        case rel => exact ⟨i + 1, v3, by omega, by go_num, N1.out⟩
        case measure => simp [RowKit.intOf]; omega
      · obtain ⟨v3, rfl, k2⟩ := h2.bad e0
        have EF := hid (efirst_take eopd l i o HI.out.2 HO.out e0)
        have TN := hid (hg.tn.trans k2)
        clear h2 k2 hg g1 HI HO
        go_wp2_with fail
        exact ⟨rfl, Pt.no EF.out e0 TN.out⟩
    · have hltz : ¬ (i : Int) < (l.length : Int) := by omega
      have hil : i = l.length := by omega
      subst hil
      rw [List.take_length] at HI
      have E0 := hid ((efirst_ok eopd l).2 HI.out.2)
      go_wp2_with fail
      go_end0
      exact Pt.yes E0.out HI.out.1.tn (by have := HI.out.1.wr; simpa [blst] using this)
theorem ls_atC {w : World} {v : Value} {ts : List Con} (h : Ls EC w v ts) {j : Nat} {o : Con} (hj : ts[j]? = some o) :
    ∃ b off c, v = .slice (some ⟨b, off, none⟩) ts.length c ∧ b < w.heap.size ∧ w.cell? ⟨b, off + j * 5, none⟩ = some (.int .i64 o.inn) ∧ w.cell? ⟨b, off + j * 5 + 1, none⟩ = some (.int .i64 o.out) ∧ w.cell? ⟨b, off + j * 5 + 2, none⟩ = some (.int .u64 (o.via.1 : Nat)) ∧ w.cell? ⟨b, off + j * 5 + 3, none⟩ = some (.int .u64 (o.via.2.1 : Nat)) ∧ w.cell? ⟨b, off + j * 5 + 4, none⟩ = some (.int .u64 (o.via.2.2 : Nat)) := by
  obtain ⟨b, off, c, hv, hb, hc⟩ := h.get hj
  exact ⟨b, off, c, hv, hb, hc 0 _ (by decide) rfl, hc 1 _ (by decide) rfl, hc 2 _ (by decide) rfl, hc 3 _ (by decide) rfl, hc 4 _ (by decide) rfl⟩
set_option maxHeartbeats 2000000 in
theorem lconnl_any {wb M : Nat} {v sv : Value} {L : List UInt8} {l : List Con} (hT : ∀ o ∈ l, ConT o) (w : World) (hW : Wr w wb v L 0) (hM : Mm M wb v) (hL : Lz EC M w sv l) (hlen : l.length ≤ 48) (hl : L.length + 4000 ≤ 140737488355328) :
    Calls Try.prog 67 #[lv wb, sv, .func (.func 68) #[lv wb] #[]] w (Pt (efirst econ l) (blst bcon l) wb v L w) := by
  have hmx : Try.prog.follows .mixedOrders = true := by kernel_rfl
  have F0 := hid (Lg.start hW)
  have HL := hid hL
  have HM := hid hM
  have hten := form_ten (v := l.length) (by omega)
  obtain ⟨p, c, rfl⟩ := hL.form
  have hwl : IntKind.u64.wrap (l.length : Int) = (l.length : Int) := by rw [IntKind.wrap_u64]; omega
  clear hW hL hM
  go_enter Try.func67, Try.ntmps67
  go_wp2_with fail
  refine (wnum_any l.length (by omega) _ F0.out.wr (by omega)).mono ?_
  rintro r w1 ⟨v1, rfl, h1, k1⟩
  have I0 : Hid (Lg w w1 wb v v1 (L ++ form l.length ++ (l.take 0).flatMap bcon)) := by
    have := F0.out.call k1 h1
    exact hid (by simpa [put0] using this)
  clear F0 h1 k1
  go_wp2_with fail
  go_loopw [16] (fun s16 wr => ∃ (i : Nat) (v2 : Value), i ≤ l.length ∧ s16 = .int .i64 (i : Nat) ∧ Hid (Lg w wr wb v v2 (L ++ form l.length ++ (l.take i).flatMap bcon) ∧ ∀ y ∈ l.take i, econ y = 0)) (fun s16 _ => l.length - (RowKit.intOf s16).toNat)
  case atStart => exact ⟨0, v1, Nat.zero_le _, rfl, I0.out, fun y hy => (by simp at hy)⟩
  case round =>
    clear I0
    obtain ⟨i, v2, hi, rfl, HI⟩ := hrel
    by_cases hlt : i < l.length
    · have hltz : (i : Int) < (l.length : Int) := by omega
      obtain ⟨o, ho⟩ : ∃ o, l[i]? = some o := ⟨l[i], by rw [List.getElem?_eq_getElem]⟩
      have hroom : (L ++ form l.length ++ (l.take i).flatMap bcon).length + 60 ≤ 140737488355328 := by
        have h1 := flat_len bcon 50 (l.take i) (fun y hy => by have := bcon_len (hT y (List.mem_of_mem_take hy)); omega)
        rw [List.length_take] at h1
        simp only [List.length_append]
        omega
      have hTo := hT o (List.mem_of_getElem? ho)
      obtain ⟨b1, o1, c1, e1, z1, x0, x1, x2, x3, x4⟩ := ls_atC ((HL.out.turn HM.out HI.out.1.tn).ls ho) ho
      simp only [Value.slice.injEq] at e1
      obtain ⟨rfl, -, rfl⟩ := e1
      have HO := hid ho
      have hcl := tk_cell HI.out.1.hl
      have hll := tk_lt HI.out.1.hl
      clear ho
      go_wp2_with fail
      have g1 := (Gr.refl wr).alloc (.cells #[.int .i64 o.inn, .int .i64 o.out, .int .u64 (o.via.1 : Nat), .int .u64 (o.via.2.1 : Nat), .int .u64 (o.via.2.2 : Nat)] 80)
      refine (lconn_any o hTo _ (HI.out.1.wr.gr g1) (by omega)).mono ?_
      intro r w2 h2
      have hg : Lg w (wr.alloc (.cells #[.int .i64 o.inn, .int .i64 o.out, .int .u64 (o.via.1 : Nat), .int .u64 (o.via.2.1 : Nat), .int .u64 (o.via.2.2 : Nat)] 80)) wb v v2 (L ++ form l.length ++ (l.take i).flatMap bcon) := HI.out.1.call (Turn.of_below g1.below) (HI.out.1.wr.gr g1)
      by_cases e0 : econ o = 0
      · obtain ⟨v3, rfl, k2, h2⟩ := h2.good e0
        have N1 : Hid (Lg w w2 wb v v3 (L ++ form l.length ++ (l.take (i + 1)).flatMap bcon) ∧ ∀ y ∈ l.take (i + 1), econ y = 0) := by
          have e : l.take (i + 1) = l.take i ++ [o] := by rw [List.take_add_one, HO.out]; rfl
          rw [e, List.flatMap_append, List.flatMap_singleton, ← List.append_assoc]
          refine ⟨hg.call k2 h2, fun m hm => ?_⟩
          rcases List.mem_append.1 hm with hm | hm
          · exact HI.out.2 m hm
          · rw [List.mem_singleton] at hm
            subst hm
            exact e0
        clear h2 k2 hg g1 HI HO x0 x1 x2 x3 x4
        go_wp2_with fail
        go_roundw
        case rel => exact ⟨i + 1, v3, by omega, by go_num, N1.out⟩
        case measure => simp [RowKit.intOf]; omega
      · obtain ⟨v3, rfl, k2⟩ := h2.bad e0
        have EF := hid (efirst_take econ l i o HI.out.2 HO.out e0)
        have TN := hid (hg.tn.trans k2)
        clear h2 k2 hg g1 HI HO
        go_wp2_with fail
        exact ⟨rfl, Pt.no EF.out e0 TN.out⟩
    · have hltz : ¬ (i : Int) < (l.length : Int) := by omega
      have hil : i = l.length := by omega
      subst hil
      rw [List.take_length] at HI
      have E0 := hid ((efirst_ok econ l).2 HI.out.2)
      go_wp2_with fail
      go_end0
      exact Pt.yes E0.out HI.out.1.tn (by have := HI.out.1.wr; simpa [blst] using this)
theorem ls_atD {w : World} {v : Value} {ts : List Edg} (h : Ls ED w v ts) {j : Nat} {o : Edg} (hj : ts[j]? = some o) :
    ∃ b off c, v = .slice (some ⟨b, off, none⟩) ts.length c ∧ b < w.heap.size ∧ w.cell? ⟨b, off + j * 5, none⟩ = some (.int .i64 o.src) ∧ w.cell? ⟨b, off + j * 5 + 1, none⟩ = some (.int .i64 o.out) ∧ w.cell? ⟨b, off + j * 5 + 2, none⟩ = some (.int .i64 o.dst) ∧ w.cell? ⟨b, off + j * 5 + 3, none⟩ = some (.int .i64 o.inn) ∧ w.cell? ⟨b, off + j * 5 + 4, none⟩ = some (.bool o.keyed) := by
  obtain ⟨b, off, c, hv, hb, hc⟩ := h.get hj
  exact ⟨b, off, c, hv, hb, hc 0 _ (by decide) rfl, hc 1 _ (by decide) rfl, hc 2 _ (by decide) rfl, hc 3 _ (by decide) rfl, hc 4 _ (by decide) rfl⟩
set_option maxHeartbeats 2000000 in
theorem ledgel_any {wb M : Nat} {v sv : Value} {L : List UInt8} {l : List Edg} (hT : ∀ o ∈ l, EdgT o) (w : World) (hW : Wr w wb v L 0) (hM : Mm M wb v) (hL : Lz ED M w sv l) (hlen : l.length ≤ 48) (hl : L.length + 4000 ≤ 140737488355328) :
    Calls Try.prog 42 #[lv wb, sv, .func (.func 43) #[lv wb] #[]] w (Pt (efirst eedg l) (blst bedg l) wb v L w) := by
  have hmx : Try.prog.follows .mixedOrders = true := by kernel_rfl
  have F0 := hid (Lg.start hW)
  have HL := hid hL
  have HM := hid hM
  have hten := form_ten (v := l.length) (by omega)
  obtain ⟨p, c, rfl⟩ := hL.form
  have hwl : IntKind.u64.wrap (l.length : Int) = (l.length : Int) := by rw [IntKind.wrap_u64]; omega
  clear hW hL hM
  go_enter Try.func42, Try.ntmps42
  go_wp2_with fail
  refine (wnum_any l.length (by omega) _ F0.out.wr (by omega)).mono ?_
  rintro r w1 ⟨v1, rfl, h1, k1⟩
  have I0 : Hid (Lg w w1 wb v v1 (L ++ form l.length ++ (l.take 0).flatMap bedg)) := by
    have := F0.out.call k1 h1
    exact hid (by simpa [put0] using this)
  clear F0 h1 k1
  go_wp2_with fail
  go_loopw [16] (fun s16 wr => ∃ (i : Nat) (v2 : Value), i ≤ l.length ∧ s16 = .int .i64 (i : Nat) ∧ Hid (Lg w wr wb v v2 (L ++ form l.length ++ (l.take i).flatMap bedg) ∧ ∀ y ∈ l.take i, eedg y = 0)) (fun s16 _ => l.length - (RowKit.intOf s16).toNat)
  case atStart => exact ⟨0, v1, Nat.zero_le _, rfl, I0.out, fun y hy => (by simp at hy)⟩
  case round =>
    clear I0
    obtain ⟨i, v2, hi, rfl, HI⟩ := hrel
    by_cases hlt : i < l.length
    · have hltz : (i : Int) < (l.length : Int) := by omega
      obtain ⟨o, ho⟩ : ∃ o, l[i]? = some o := ⟨l[i], by rw [List.getElem?_eq_getElem]⟩
      have hroom : (L ++ form l.length ++ (l.take i).flatMap bedg).length + 60 ≤ 140737488355328 := by
        have h1 := flat_len bedg 50 (l.take i) (fun y hy => by have := bedg_len (hT y (List.mem_of_mem_take hy)); omega)
        rw [List.length_take] at h1
        simp only [List.length_append]
        omega
      have hTo := hT o (List.mem_of_getElem? ho)
      obtain ⟨b1, o1, c1, e1, z1, x0, x1, x2, x3, x4⟩ := ls_atD ((HL.out.turn HM.out HI.out.1.tn).ls ho) ho
      simp only [Value.slice.injEq] at e1
      obtain ⟨rfl, -, rfl⟩ := e1
      have HO := hid ho
      have hcl := tk_cell HI.out.1.hl
      have hll := tk_lt HI.out.1.hl
      clear ho
      go_wp2_with fail
      have g1 := (Gr.refl wr).alloc (.cells #[.int .i64 o.src, .int .i64 o.out, .int .i64 o.dst, .int .i64 o.inn, .bool o.keyed] 69)
      refine (ledge_any o hTo _ (HI.out.1.wr.gr g1) (by omega)).mono ?_
      intro r w2 h2
      have hg : Lg w (wr.alloc (.cells #[.int .i64 o.src, .int .i64 o.out, .int .i64 o.dst, .int .i64 o.inn, .bool o.keyed] 69)) wb v v2 (L ++ form l.length ++ (l.take i).flatMap bedg) := HI.out.1.call (Turn.of_below g1.below) (HI.out.1.wr.gr g1)
      by_cases e0 : eedg o = 0
      · obtain ⟨v3, rfl, k2, h2⟩ := h2.good e0
        have N1 : Hid (Lg w w2 wb v v3 (L ++ form l.length ++ (l.take (i + 1)).flatMap bedg) ∧ ∀ y ∈ l.take (i + 1), eedg y = 0) := by
          have e : l.take (i + 1) = l.take i ++ [o] := by rw [List.take_add_one, HO.out]; rfl
          rw [e, List.flatMap_append, List.flatMap_singleton, ← List.append_assoc]
          refine ⟨hg.call k2 h2, fun m hm => ?_⟩
          rcases List.mem_append.1 hm with hm | hm
          · exact HI.out.2 m hm
          · rw [List.mem_singleton] at hm
            subst hm
            exact e0
        clear h2 k2 hg g1 HI HO x0 x1 x2 x3 x4
        go_wp2_with fail
        go_roundw
        case rel => exact ⟨i + 1, v3, by omega, by go_num, N1.out⟩
        case measure => simp [RowKit.intOf]; omega
      · obtain ⟨v3, rfl, k2⟩ := h2.bad e0
        have EF := hid (efirst_take eedg l i o HI.out.2 HO.out e0)
        have TN := hid (hg.tn.trans k2)
        clear h2 k2 hg g1 HI HO
        go_wp2_with fail
        exact ⟨rfl, Pt.no EF.out e0 TN.out⟩
    · have hltz : ¬ (i : Int) < (l.length : Int) := by omega
      have hil : i = l.length := by omega
      subst hil
      rw [List.take_length] at HI
      have E0 := hid ((efirst_ok eedg l).2 HI.out.2)
      go_wp2_with fail
      go_end0
      exact Pt.yes E0.out HI.out.1.tn (by have := HI.out.1.wr; simpa [blst] using this)
end Go.Proofs.Ytkopmkmfigenlaa.Df
