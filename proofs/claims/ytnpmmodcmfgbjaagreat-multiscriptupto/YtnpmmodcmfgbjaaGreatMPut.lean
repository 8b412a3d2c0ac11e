import Derived.Test.YtnpmmodcmfgbjaaGreatMStay
import Derived.Deep.RegionLaw
namespace Go.Proofs.YtnpmmodcmfgbjaaGreat.Cn
open Go.RowKit Go.Sort
attribute [local go_sem ↓] Go.wp_at_zero Go.wp_at_succ

theorem copied (cur : List Value) (M : List Tm) (n k o : Nat) (hM : M.length = n + 1) (hk : k ≤ n) (hc : cur.take ((n + 1) * 3) = flT M) (ho : o = (k + 1) * 3 ∨ n = k) :
    (cur.take o ++ flT ((M.drop k).take (n - k)) ++ cur.drop (o + (n - k) * 3)).take ((n + 1) * 3) = flT (M.take (k + 1) ++ (M.drop k).take (n - k)) := by
  have hl : (n + 1) * 3 ≤ cur.length := by
    have h1 := congrArg List.length hc
    rw [flT_length, hM, List.length_take] at h1
    omega
  rcases ho with rfl | rfl
  · have h2 : cur.take ((k + 1) * 3) = flT (M.take (k + 1)) := by
      rw [← flT_take, ← hc, List.take_take, Nat.min_eq_left (by omega)]
    rw [h2, flT_append, List.take_append_of_le_length (by simp [flT_length]; omega), List.take_of_length_le (by simp [flT_length]; omega)]
  · simp only [Nat.sub_self, List.take_zero, flT_nil, List.append_nil, Nat.zero_mul, Nat.add_zero, List.take_append_drop]
    rw [hc, List.take_of_length_le (by omega)]

/-- 'copy(l[k+1:], l[k:])' as a step of a region that draws. -/
theorem step_copyP {ops : Array Oper} {o : Oper} {a : Act} {w : World} {K : Act → World → Prop} {Q : Exit → Act → World → Prop} {E : Prop} (hgd : o.guard = none) (d s : Operand)
    (hop : o.op = .call { callee := .builtin .copy, args := #[d, s], argTypes := #[42, 42] })
    (g n cap k off dc sc : Nat) (M : List Tm) (hM : M.length = n + 1) (hk : k ≤ n) (hd : a.eval d = .slice (some ⟨g, off, none⟩) (n - k) dc) (ho : off = (k + 1) * 3 ∨ (n = k ∧ off = 0)) (hs : a.eval s = .slice (some ⟨g, k * 3, none⟩) (n + 1 - k) sc)
    (hown : w.ownsRow 0 37 3 (.slice (some ⟨g, 0, none⟩) (n + 1) cap) (n + 1) (flT M))
    (h : ∀ w', w'.ownsRow 0 37 3 (.slice (some ⟨g, 0, none⟩) (n + 1) cap) (n + 1) (flT (M.take (k + 1) ++ (M.drop k).take (n - k))) → Kp (fun j => j = g) w w' → K (a.put o.dst (goInt (n - k : Nat))) w') :
    if Region.wanted o (yielded ops a.tmps) = true then Oper.wp Tryz.prog o a w K Q else E := by
  have hw : Region.wanted o (yielded ops a.tmps) = true := by simp [Region.wanted, hgd]
  rw [if_pos hw]
  obtain ⟨hlen, ⟨h0, _⟩ | ⟨g', cap', cur, hv, _, hgg, hn, hm, hcs, htk⟩⟩ := id hown
  · cases h0
  cases hv
  have hcl : (flT ((M.drop k).take (n - k))).length = (n - k) * 3 := by rw [flT_length]; simp; omega
  have hmin : Nat.min (n + 1 - k) (n - k) = n - k := Nat.min_eq_right (by omega)
  have hrun := run_copy_rowK (P := Tryz.prog) w 42 42 o.type 37 3 g off (n - k) dc ⟨g, k * 3, none⟩ (n + 1 - k) sc cur 37 (flT ((M.drop k).take (n - k))) Tryz.underlying42 (by kernel_rfl) hgg (by rw [hcl, hmin])
    (fun j v hj => by
      rw [addA]
      have h1 : (flT M)[k * 3 + j]? = some v := by
        rw [← List.getElem?_drop, flT_drop]
        rw [← flT_take, List.getElem?_take] at hj
        split at hj
        · exact hj
        · cases hj
      have := hown.cells (g := g) rfl _ _ h1
      rwa [addA, Nat.zero_add] at this)
    (by rw [hcl, hcs]; rcases ho with rfl | ⟨rfl, rfl⟩ <;> omega) (flT_oneCell _)
  rw [hmin] at hrun
  unfold Oper.wp
  simp [execOp, hop, resolve, invoke, builtin, hd, hs, hrun, Result.andThen]
  refine h _ ⟨?_, Or.inr ⟨g, cap, _, rfl, Nat.zero_le _, setRow_heap w g _ _ _ _ hgg, hn, hm, ?_, ?_⟩⟩ ⟨rfl, rfl, rfl, by simp [World.setRow], fun j _ hne => setRow_other w g j _ (by omega)⟩
  · rw [flT_length]; simp; omega
  · simp [hcl]; rw [hcs]; rcases ho with rfl | ⟨rfl, rfl⟩ <;> omega
  · rw [hcl, List.toList_toArray, ← List.append_assoc]
    exact copied cur.toList M n k off hM hk htk (ho.imp id (fun h => h.1))

theorem put_list (m : List Tm) (x : Tm) (n k : Nat) (hn : m.length = n) (hk : k ≤ n) : (((m ++ [x]).take (k + 1) ++ ((m ++ [x]).drop k).take (n - k))).set k x = m.take k ++ x :: m.drop k := by
  subst hn
  have h1 : ((m ++ [x]).drop k).take (m.length - k) = m.drop k := by
    rw [List.drop_append_of_le_length hk, List.take_append_of_le_length (by simp), List.take_of_length_le (by simp)]
  rw [h1]
  have h2 : (m ++ [x]).take k = m.take k := List.take_append_of_le_length hk
  have h3 : ((m ++ [x]).take (k + 1)) = m.take k ++ [(m ++ [x])[k]'(by simp; omega)] := by
    rw [List.take_add_one, h2, List.getElem?_eq_getElem (by simp; omega)]; rfl
  rw [h3]
  generalize (m ++ [x])[k]'(by simp; omega) = y
  rw [List.append_assoc, List.set_append_right _ _ (by rw [List.length_take]; exact Nat.min_le_left _ _)]
  simp [Nat.min_eq_left hk]

theorem flT_set (L : List Tm) (k : Nat) (x : Tm) : (((flT L).set (k * 3) (.int .u64 x.1.1)).set (k * 3 + 1) (.int .u64 x.1.2.1)).set (k * 3 + 2) (.int .u64 x.1.2.2) = flT (L.set k x) := by
  induction L generalizing k with
  | nil => simp [flT, fl]
  | cons y L ih =>
    show List.set (List.set (List.set (fl ET (y :: L)) _ _) _ _) _ _ = _
    rw [fl_cons]
    cases k with
    | zero => simp [ET, fl]
    | succ k =>
      rw [List.set_cons_succ]
      show _ = fl ET (y :: L.set k x)
      rw [fl_cons, show fl ET (L.set k x) = flT (L.set k x) from rfl, ← ih k, show (k + 1) * 3 = k * 3 + 3 by omega]
      simp [ET]
      rfl
theorem owns_set3 {w : World} {g N cap k : Nat} {L : List Tm} (x : Tm) (h : w.ownsRow 0 37 3 (.slice (some ⟨g, 0, none⟩) N cap) N (flT L)) :
    (((w.setCell ⟨g, k * 3, none⟩ (.int .u64 x.1.1)).setCell ⟨g, k * 3 + 1, none⟩ (.int .u64 x.1.2.1)).setCell ⟨g, k * 3 + 2, none⟩ (.int .u64 x.1.2.2)).ownsRow 0 37 3 (.slice (some ⟨g, 0, none⟩) N cap) N (flT (L.set k x)) ∧ Kp (fun j => j = g) w (((w.setCell ⟨g, k * 3, none⟩ (.int .u64 x.1.1)).setCell ⟨g, k * 3 + 1, none⟩ (.int .u64 x.1.2.1)).setCell ⟨g, k * 3 + 2, none⟩ (.int .u64 x.1.2.2)) := by
  obtain ⟨hlen, ⟨h0, _⟩ | ⟨g', cap', cur, hv, _, hgg, hn, hm, hcs, htk⟩⟩ := id h
  · cases h0
  cases hv
  have e1 := setCell_eq_setRow w g (k * 3) _ _ _ (.int .u64 x.1.1) hgg
  have hg2 := setRow_heap w g _ (cur.setIfInBounds (k * 3) (.int .u64 x.1.1)) _ _ hgg
  have e2 := setCell_eq_setRow (w.setRow g (cur.setIfInBounds (k * 3) (.int .u64 x.1.1))) g (k * 3 + 1) _ _ _ (.int .u64 x.1.2.1) hg2
  have hg3 := setRow_heap (w.setRow g (cur.setIfInBounds (k * 3) (.int .u64 x.1.1))) g _ ((cur.setIfInBounds (k * 3) (.int .u64 x.1.1)).setIfInBounds (k * 3 + 1) (.int .u64 x.1.2.1)) _ _ hg2
  have e3 := setCell_eq_setRow ((w.setRow g (cur.setIfInBounds (k * 3) (.int .u64 x.1.1))).setRow g ((cur.setIfInBounds (k * 3) (.int .u64 x.1.1)).setIfInBounds (k * 3 + 1) (.int .u64 x.1.2.1))) g (k * 3 + 2) _ _ _ (.int .u64 x.1.2.2) hg3
  rw [e1, e2, e3]
  have hg4 := setRow_heap ((w.setRow g (cur.setIfInBounds (k * 3) (.int .u64 x.1.1))).setRow g ((cur.setIfInBounds (k * 3) (.int .u64 x.1.1)).setIfInBounds (k * 3 + 1) (.int .u64 x.1.2.1))) g _ (((cur.setIfInBounds (k * 3) (.int .u64 x.1.1)).setIfInBounds (k * 3 + 1) (.int .u64 x.1.2.1)).setIfInBounds (k * 3 + 2) (.int .u64 x.1.2.2)) _ _ hg3
  refine ⟨⟨by rw [flT_length] at hlen ⊢; simpa using hlen, Or.inr ⟨g, cap, _, rfl, Nat.zero_le _, hg4, hn, hm, by simpa using hcs, ?_⟩⟩, ⟨rfl, rfl, rfl, by simp [World.setRow], fun j _ hne => ?_⟩⟩
  · rw [Array.toList_setIfInBounds, Array.toList_setIfInBounds, Array.toList_setIfInBounds, List.take_set, List.take_set, List.take_set, htk]
    exact flT_set L k x
  · rw [setRow_other _ g j _ (by omega), setRow_other _ g j _ (by omega), setRow_other _ g j _ (by omega)]

set_option maxHeartbeats 400000 in
set_option maxRecDepth 100000 in
theorem put_any (u : Value) (m : List Tm) (k : Nat) (x : Tm) (w : World) (hown : w.ownsRow 0 37 3 u m.length (flT m)) (hk : k ≤ m.length) (hl : (m.length + 1) * 24 ≤ 140737488355328) :
    Calls Tryz.prog 79 #[u, .int .i64 k, tv x] w fun e w' => ∃ g cap, e = .returned (.slice (some ⟨g, 0, none⟩) (m.length + 1) cap) ∧ w'.ownsRow 0 37 3 (.slice (some ⟨g, 0, none⟩) (m.length + 1) cap) (m.length + 1) (flT (m.take k ++ x :: m.drop k)) ∧ Kp (fun j => u.ownBlock = some j) w w' ∧ (u.ownBlock = some g ∨ w.heap.size ≤ g) := by
  have hmx : Tryz.prog.follows .mixedOrders = true := by kernel_rfl
  generalize hn : m.length = n at *
  have HN : Hid (m.length = n) := hn
  clear hn
  go_enter Tryz.func79, Tryz.ntmps79
  go_wp2_with (at_builtin; refine wpApp1 rfl _ _ rfl 0 u n (flT m) rfl (hown.alloc _) x (by show Value.slice (some ⟨w.heap.size + 1, 0, none⟩) 1 1 = _; simp) (by omega) (Nat.zero_le _) ?_)
  intro g cap w1 ho1 hg1 hl1
  have hb1 : Kp (fun j => u.ownBlock = some j) w w1 := (Kp.of_below ((Gr.refl w).alloc _).below).trans (Kp.grownBy (S := fun j => u.ownBlock = some j) hg1 (fun _ h => h)) (fun _ _ h => h)
  have hlt1 : w.heap.size < w1.heap.size := Nat.lt_of_lt_of_le (by simp) hg1.size
  have hne : u.ownBlock ≠ some w.heap.size := fun h => by have := (hown.lt _ h).2; omega
  have q1 : w1.cell? ⟨w.heap.size, 0, none⟩ = some (.int .u64 x.1.1) := hg1.cell (a := ⟨w.heap.size, 0, none⟩) (by simp) (fun h => hne h.symm)
  have q2 : w1.cell? ⟨w.heap.size, 1, none⟩ = some (.int .u64 x.1.2.1) := hg1.cell (a := ⟨w.heap.size, 1, none⟩) (by simp) (fun h => hne h.symm)
  have q3 : w1.cell? ⟨w.heap.size, 2, none⟩ = some (.int .u64 x.1.2.2) := hg1.cell (a := ⟨w.heap.size, 2, none⟩) (by simp) (fun h => hne h.symm)
  have ho1' : Hid (w1.ownsRow 0 37 3 (.slice (some ⟨g, 0, none⟩) (n + 1) cap) (n + 1) (flT (m ++ [x]))) := by
    show World.ownsRow _ _ _ _ _ _ _
    rw [flT_append, flT_one]; exact ho1
  obtain ⟨hcp1, hcp2⟩ : n + 1 ≤ cap ∧ cap ≤ maxLen := by
    obtain ⟨_, ⟨h0, _⟩ | ⟨g', cap', cur, hv, _, _, hn, hm, _⟩⟩ := ho1
    · cases h0
    · cases hv; exact ⟨hn, hm⟩
  have hgl : g < w1.heap.size := (ho1.lt g rfl).2
  have hgn : g ≠ w.heap.size := by
    rcases hl1 with h | h
    · have := (hown.lt g h).2; omega
    · first | omega | (simp at h; omega)
  unfold maxLen at hcp2
  clear ho1 hg1
  have z1 : (0 : Int) ≤ (k : Int) := by omega
  have z2 : (k : Int) + 1 ≤ ((n + 1 : Nat) : Int) := by omega
  have z3 : (k : Int) ≤ ((n + 1 : Nat) : Int) := by omega
  have z4 : ¬ cap = k := by omega
  have hwk : IntKind.i64.wrap ((k : Int) + 1) = (k : Int) + 1 := by rw [IntKind.wrap_i64]; omega
  have z6 : (0 : Int) ≤ (k : Int) + 1 := by omega
  have z7 : (k : Int) + 1 ≤ (n : Int) + 1 := by omega
  have z8 : (k : Int) ≤ (n : Int) + 1 := by omega
  have z9 : ((k : Int) + 1).toNat = k + 1 := by omega
  have z5 : n + 1 - (k + 1) = n - k := by omega
  have HMX : Hid ((m ++ [x]).length = n + 1) := by simp [Hid, HN.out]
  go_upto_region 2 with fail
  go_cut [18] (fun _ w' => w'.ownsRow 0 37 3 (.slice (some ⟨g, 0, none⟩) (n + 1) cap) (n + 1) (flT ((m ++ [x]).take (k + 1) ++ ((m ++ [x]).drop k).take (n - k))) ∧ Kp (fun j => j = g) w1 w')
  case first =>
    by_cases hcc : cap = k + 1
    · subst hcc
      go_region_law (refine step_copyP rfl (.tmp 14) (.tmp 17) rfl g n (k + 1) k 0 0 1 (m ++ [x]) HMX.out hk (by simp [Act.eval, Act.put]) (Or.inr ⟨by omega, rfl⟩) (by simp [Act.eval, Act.put]) ho1'.out ?_; intro w2 ho2 hk2)
      all_goals (go_wp2_with fail; go_meet; exact ⟨ho2, ⟨hk2.os, hk2.tape, hk2.output, hk2.size, hk2.block⟩⟩)
    · go_region_law (refine step_copyP rfl (.tmp 14) (.tmp 17) rfl g n cap k ((k + 1) * 3) (cap - (k + 1)) (cap - k) (m ++ [x]) HMX.out hk (by simp [Act.eval, Act.put]) (Or.inl rfl) (by simp [Act.eval, Act.put]) ho1'.out ?_; intro w2 ho2 hk2)
      all_goals (go_wp2_with fail; go_meet; exact ⟨ho2, ⟨hk2.os, hk2.tape, hk2.output, hk2.size, hk2.block⟩⟩)
  case rest =>
    obtain ⟨ho2, hk2⟩ := hcut
    have HS : Hid (((m ++ [x]).take (k + 1) ++ ((m ++ [x]).drop k).take (n - k)).set k x = m.take k ++ x :: m.drop k) := put_list m x n k HN.out hk
    have hL : ((m ++ [x]).take (k + 1) ++ ((m ++ [x]).drop k).take (n - k)).length = n + 1 := by
      have := HMX.out
      simp at this ⊢; omega
    generalize (m ++ [x]).take (k + 1) ++ ((m ++ [x]).drop k).take (n - k) = L2 at *
    obtain ⟨y, hy⟩ : ∃ y, L2[k]? = some y := ⟨L2[k]'(by omega), by simp⟩
    have HT := (owns_lst (ts := L2) (by rw [hL]; exact ho2)).at3 hy
    obtain ⟨b1, o1, c1, e1, zz, y1, y2, y3⟩ := HT
    simp only [Value.slice.injEq, Option.some.injEq, Addr.mk.injEq] at e1
    obtain ⟨⟨rfl, rfl, -⟩, -, rfl⟩ := e1
    rw [Nat.zero_add] at y1 y2 y3
    obtain ⟨f1, f2, f3⟩ : wc.frozen? ⟨g, k * 3, none⟩ = false ∧ wc.frozen? ⟨g, k * 3 + 1, none⟩ = false ∧ wc.frozen? ⟨g, k * 3 + 2, none⟩ = false := by
      obtain ⟨_, ⟨h0, _⟩ | ⟨g', cap', cur, hv, _, hgg, _⟩⟩ := id ho2
      · cases h0
      · cases hv; simp [World.frozen?, hgg]
    have q1' : wc.cell? ⟨w.heap.size, 0, none⟩ = some (.int .u64 x.1.1) := (World.cell?_of_block (a := ⟨w.heap.size, 0, none⟩) (hk2.block w.heap.size hlt1 (fun h => hgn h.symm))).trans q1
    have q2' : wc.cell? ⟨w.heap.size, 1, none⟩ = some (.int .u64 x.1.2.1) := (World.cell?_of_block (a := ⟨w.heap.size, 1, none⟩) (hk2.block w.heap.size hlt1 (fun h => hgn h.symm))).trans q2
    have q3' : wc.cell? ⟨w.heap.size, 2, none⟩ = some (.int .u64 x.1.2.2) := (World.cell?_of_block (a := ⟨w.heap.size, 2, none⟩) (hk2.block w.heap.size hlt1 (fun h => hgn h.symm))).trans q3
    have zl : (k : Int) < (n : Int) + 1 := by omega
    have zl2 : (k : Int) < ((n + 1 : Nat) : Int) := by omega
    clear q1 q2 q3 hwk z6 z7 z8 z9 z4 z5 z2 z3 hy
    go_wp2
    go_ret
    obtain ⟨ho3, hk3⟩ := owns_set3 (k := k) x ho2
    rw [HS.out] at ho3
    refine ⟨g, cap, rfl, ho3, ?_, hl1.imp id (fun h => by first | omega | (simp at h; omega))⟩
    refine hb1.trans ((hk2.trans hk3 (fun _ _ h => h))) (fun j hj h => ?_)
    subst h
    rcases hl1 with h | h
    · exact h
    · exact absurd hj (by first | omega | (simp at h; omega))
end Go.Proofs.YtnpmmodcmfgbjaaGreat.Cn
