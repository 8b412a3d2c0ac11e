import Derived.Test.YtjppkehnjnmbnaaGreatJ5
import Derived.Deep.RegionLaw
import Derived.Lib.SliceRun
import Derived.Test.YtjppkehnjnmbnaaGreatJ4
namespace Go.Proofs.YtjppkehnjnmbnaaGreat.Pc.Cn
open Go.RowKit Go.Sort
attribute [local go_sem ↓] Go.wp_at_zero Go.wp_at_succ
theorem copied (cur : List Value) (M : List Tm) (n k o : Nat) (hM : M.length = n + 1) (hk : k ≤ n) (hc : cur.take ((n + 1) * 3) = flT M) (ho : o = (k + 1) * 3 ∨ n = k) :
    (cur.take o ++ flT ((M.drop k).take (n - k)) ++ cur.drop (o + (n - k) * 3)).take ((n + 1) * 3) = flT (M.take (k + 1) ++ (M.drop k).take (n - k)) := by
 have hl : (n + 1) * 3 ≤ cur.length := by
  have h1 := congrArg List.length hc
  rw [flT_length, hM, List.length_take] at h1
  omega
 rcases ho with rfl | rfl
 ·have h2 : cur.take ((k + 1) * 3) = flT (M.take (k + 1)) := by
    rw [← flT_take, ← hc, List.take_take, Nat.min_eq_left (by omega)]
  rw [h2, flT_append, List.take_append_of_le_length (by simp [flT_length]; omega), List.take_of_length_le (by simp [flT_length]; omega)]
 ·simp only [Nat.sub_self, List.take_zero, flT_nil, List.append_nil, Nat.zero_mul, Nat.add_zero, List.take_append_drop]
  rw [hc, List.take_of_length_le (by omega)]
theorem step_copyP {ops : Array Oper} {o : Oper} {a : Act} {w : World} {K : Act → World → Prop} {Q : Exit → Act → World → Prop} {E : Prop} (hgd : o.guard = none) (d s : Operand)
    (hop : o.op = .call { callee := .builtin .copy, args := #[d, s], argTypes := #[35, 35] })
    (g n cap k off dc sc : Nat) (M : List Tm) (hM : M.length = n + 1) (hk : k ≤ n) (hd : a.eval d = .slice (some ⟨g, off, none⟩) (n - k) dc) (ho : off = (k + 1) * 3 ∨ (n = k ∧ off = 0)) (hs : a.eval s = .slice (some ⟨g, k * 3, none⟩) (n + 1 - k) sc)
    (hown : w.ownsRow 0 39 3 (.slice (some ⟨g, 0, none⟩) (n + 1) cap) (n + 1) (flT M))
    (h : ∀ w', w'.ownsRow 0 39 3 (.slice (some ⟨g, 0, none⟩) (n + 1) cap) (n + 1) (flT (M.take (k + 1) ++ (M.drop k).take (n - k))) → Kp (fun j => j = g) w w' → K (a.put o.dst (goInt (n - k : Nat))) w') :
    if Region.wanted o (yielded ops a.tmps) = true then Oper.wp Tryz.prog o a w K Q else E := by
 have hw : Region.wanted o (yielded ops a.tmps) = true := by simp [Region.wanted, hgd]
 rw [if_pos hw]
 obtain ⟨hlen, ⟨h0, _⟩ | ⟨g', cap', cur, hv, _, hgg, hn, hm, hcs, htk⟩⟩ := id hown
 ·cases h0
 cases hv
 have hcl : (flT ((M.drop k).take (n - k))).length = (n - k) * 3 := by rw [flT_length]; simp; omega
 have hmin : Nat.min (n + 1 - k) (n - k) = n - k := Nat.min_eq_right (by omega)
 have hrun := run_copy_rowK (P := Tryz.prog) w 35 35 o.type 39 3 g off (n - k) dc ⟨g, k * 3, none⟩ (n + 1 - k) sc cur 39 (flT ((M.drop k).take (n - k))) Tryz.underlying35 (by kernel_rfl) hgg (by rw [hcl, hmin])
  (fun j v hj => by
   rw [addA]
   have h1 : (flT M)[k * 3 + j]? = some v := by
    rw [← List.getElem?_drop, flT_drop]
    rw [← flT_take, List.getElem?_take] at hj
    split at hj
    ·exact hj
    ·cases hj
   have := hown.cells (g := g) rfl _ _ h1
   rwa [addA, Nat.zero_add] at this)
  (by rw [hcl, hcs]; rcases ho with rfl | ⟨rfl, rfl⟩ <;> omega) (flT_oneCell _)
 rw [hmin] at hrun
 unfold Oper.wp
 simp [execOp, hop, resolve, invoke, builtin, hd, hs, hrun, Result.andThen]
 refine h _ ⟨?_, Or.inr ⟨g, cap, _, rfl, Nat.zero_le _, setRow_heap w g _ _ _ _ hgg, hn, hm, ?_, ?_⟩⟩ ⟨rfl, rfl, rfl, by simp [World.setRow], fun j _ hne => setRow_other w g j _ (by omega)⟩
 ·rw [flT_length]; simp; omega
 ·simp [hcl]; rw [hcs]; rcases ho with rfl | ⟨rfl, rfl⟩ <;> omega
 ·rw [hcl, List.toList_toArray, ← List.append_assoc]
  exact copied cur.toList M n k off hM hk htk (ho.imp id (fun h => h.1))
theorem put_list (m : List Tm) (x : Tm) (n k : Nat) (hn : m.length = n) (hk : k ≤ n) : (((m ++ [x]).take (k + 1) ++ ((m ++ [x]).drop k).take (n - k))).set k x = m.take k ++ x :: m.drop k := by
 subst hn
 have h1 : ((m ++ [x]).drop k).take (m.length - k) = m.drop k := by
  rw [List.drop_append_of_le_length hk, List.take_append_of_le_length (by simp), List.take_of_length_le (by simp)]
 rw [h1]
 have h2 : (m ++ [x]).take k = m.take k := List.take_append_of_le_length hk
 have h3 : ((m ++ [x]).take (k + 1)) = m.take k ++ [(m ++ [x])[k]'(by simp; omega)] := by
  rw [List.take_add_one, h2, List.getElem?_eq_getElem (by simp; omega)]; rfl
 rw [h3]
 generalize (m ++ [x])[k]'(by simp; omega) = y
 rw [List.append_assoc, List.set_append_right _ _ (by rw [List.length_take]; exact Nat.min_le_left _ _)]
 simp [Nat.min_eq_left hk]
theorem flT_set (L : List Tm) (k : Nat) (x : Tm) : (((flT L).set (k * 3) (.int .u64 x.1.1)).set (k * 3 + 1) (.int .u64 x.1.2.1)).set (k * 3 + 2) (.int .u64 x.1.2.2) = flT (L.set k x) := by
 induction L generalizing k with
 | nil => simp [flT, fl]
 | cons y L ih =>
  show List.set (List.set (List.set (fl ET (y :: L)) _ _) _ _) _ _ = _
  rw [fl_cons]
  cases k with
  | zero => simp [ET, fl]
  | succ k =>
   rw [List.set_cons_succ]
   show _ = fl ET (y :: L.set k x)
   rw [fl_cons, show fl ET (L.set k x) = flT (L.set k x) from rfl, ← ih k, show (k + 1) * 3 = k * 3 + 3 by omega]
   simp [ET]
   rfl
theorem owns_set3 {w : World} {g N cap k : Nat} {L : List Tm} (x : Tm) (h : w.ownsRow 0 39 3 (.slice (some ⟨g, 0, none⟩) N cap) N (flT L)) :
    (((w.setCell ⟨g, k * 3, none⟩ (.int .u64 x.1.1)).setCell ⟨g, k * 3 + 1, none⟩ (.int .u64 x.1.2.1)).setCell ⟨g, k * 3 + 2, none⟩ (.int .u64 x.1.2.2)).ownsRow 0 39 3 (.slice (some ⟨g, 0, none⟩) N cap) N (flT (L.set k x)) ∧ Kp (fun j => j = g) w (((w.setCell ⟨g, k * 3, none⟩ (.int .u64 x.1.1)).setCell ⟨g, k * 3 + 1, none⟩ (.int .u64 x.1.2.1)).setCell ⟨g, k * 3 + 2, none⟩ (.int .u64 x.1.2.2)) := by
 obtain ⟨hlen, ⟨h0, _⟩ | ⟨g', cap', cur, hv, _, hgg, hn, hm, hcs, htk⟩⟩ := id h
 ·cases h0
 cases hv
 have e1 := setCell_eq_setRow w g (k * 3) _ _ _ (.int .u64 x.1.1) hgg
 have hg2 := setRow_heap w g _ (cur.setIfInBounds (k * 3) (.int .u64 x.1.1)) _ _ hgg
 have e2 := setCell_eq_setRow (w.setRow g (cur.setIfInBounds (k * 3) (.int .u64 x.1.1))) g (k * 3 + 1) _ _ _ (.int .u64 x.1.2.1) hg2
 have hg3 := setRow_heap (w.setRow g (cur.setIfInBounds (k * 3) (.int .u64 x.1.1))) g _ ((cur.setIfInBounds (k * 3) (.int .u64 x.1.1)).setIfInBounds (k * 3 + 1) (.int .u64 x.1.2.1)) _ _ hg2
 have e3 := setCell_eq_setRow ((w.setRow g (cur.setIfInBounds (k * 3) (.int .u64 x.1.1))).setRow g ((cur.setIfInBounds (k * 3) (.int .u64 x.1.1)).setIfInBounds (k * 3 + 1) (.int .u64 x.1.2.1))) g (k * 3 + 2) _ _ _ (.int .u64 x.1.2.2) hg3
 rw [e1, e2, e3]
 have hg4 := setRow_heap ((w.setRow g (cur.setIfInBounds (k * 3) (.int .u64 x.1.1))).setRow g ((cur.setIfInBounds (k * 3) (.int .u64 x.1.1)).setIfInBounds (k * 3 + 1) (.int .u64 x.1.2.1))) g _ (((cur.setIfInBounds (k * 3) (.int .u64 x.1.1)).setIfInBounds (k * 3 + 1) (.int .u64 x.1.2.1)).setIfInBounds (k * 3 + 2) (.int .u64 x.1.2.2)) _ _ hg3
 refine ⟨⟨by rw [flT_length] at hlen ⊢; simpa using hlen, Or.inr ⟨g, cap, _, rfl, Nat.zero_le _, hg4, hn, hm, by simpa using hcs, ?_⟩⟩, ⟨rfl, rfl, rfl, by simp [World.setRow], fun j _ hne => ?_⟩⟩
 ·rw [Array.toList_setIfInBounds, Array.toList_setIfInBounds, Array.toList_setIfInBounds, List.take_set, List.take_set, List.take_set, htk]
  exact flT_set L k x
 ·rw [setRow_other _ g j _ (by omega), setRow_other _ g j _ (by omega), setRow_other _ g j _ (by omega)]
set_option maxHeartbeats 400000 in
set_option maxRecDepth 100000 in
theorem put_any (u : Value) (m : List Tm) (k : Nat) (x : Tm) (w : World) (hown : w.ownsRow 0 39 3 u m.length (flT m)) (hk : k ≤ m.length) (hl : (m.length + 1) * 24 ≤ 140737488355328) :
    Calls Tryz.prog 71 #[u, .int .i64 k, tv x] w fun e w' => ∃ g cap, e = .returned (.slice (some ⟨g, 0, none⟩) (m.length + 1) cap) ∧ w'.ownsRow 0 39 3 (.slice (some ⟨g, 0, none⟩) (m.length + 1) cap) (m.length + 1) (flT (m.take k ++ x :: m.drop k)) ∧ Kp (fun j => u.ownBlock = some j) w w' ∧ (u.ownBlock = some g ∨ w.heap.size ≤ g) := by
 have hmx : Tryz.prog.follows .mixedOrders = true := by kernel_rfl
 generalize hn : m.length = n at *
 have HN : Hid (m.length = n) := hn
 clear hn
 go_enter Tryz.func71, Tryz.ntmps71
 go_wp2_with (at_builtin; refine wpApp1 rfl _ _ rfl 0 u n (flT m) rfl (hown.alloc _) x (by show Value.slice (some ⟨w.heap.size + 1, 0, none⟩) 1 1 = _; simp) (by omega) (Nat.zero_le _) ?_)
 intro g cap w1 ho1 hg1 hl1
 have hb1 : Kp (fun j => u.ownBlock = some j) w w1 := (Kp.of_below ((Gr.refl w).alloc _).below).trans (Kp.grownBy (S := fun j => u.ownBlock = some j) hg1 (fun _ h => h)) (fun _ _ h => h)
 have hlt1 : w.heap.size < w1.heap.size := Nat.lt_of_lt_of_le (by simp) hg1.size
 have hne : u.ownBlock ≠ some w.heap.size := fun h => by have := (hown.lt _ h).2; omega
 have q1 : w1.cell? ⟨w.heap.size, 0, none⟩ = some (.int .u64 x.1.1) := hg1.cell (a := ⟨w.heap.size, 0, none⟩) (by simp) (fun h => hne h.symm)
 have q2 : w1.cell? ⟨w.heap.size, 1, none⟩ = some (.int .u64 x.1.2.1) := hg1.cell (a := ⟨w.heap.size, 1, none⟩) (by simp) (fun h => hne h.symm)
 have q3 : w1.cell? ⟨w.heap.size, 2, none⟩ = some (.int .u64 x.1.2.2) := hg1.cell (a := ⟨w.heap.size, 2, none⟩) (by simp) (fun h => hne h.symm)
 have ho1' : Hid (w1.ownsRow 0 39 3 (.slice (some ⟨g, 0, none⟩) (n + 1) cap) (n + 1) (flT (m ++ [x]))) := by
  show World.ownsRow _ _ _ _ _ _ _
  rw [flT_append, flT_one]; exact ho1
 obtain ⟨hcp1, hcp2⟩ : n + 1 ≤ cap ∧ cap ≤ maxLen := by
  obtain ⟨_, ⟨h0, _⟩ | ⟨g', cap', cur, hv, _, _, hn, hm, _⟩⟩ := ho1
  ·cases h0
  ·cases hv; exact ⟨hn, hm⟩
 have hgl : g < w1.heap.size := (ho1.lt g rfl).2
 have hgn : g ≠ w.heap.size := by
  rcases hl1 with h | h
  ·have := (hown.lt g h).2; omega
  ·first | omega | (simp at h; omega)
 unfold maxLen at hcp2
 clear ho1 hg1
 have z1 : (0 : Int) ≤ (k : Int) := by omega
 have z2 : (k : Int) + 1 ≤ ((n + 1 : Nat) : Int) := by omega
 have z3 : (k : Int) ≤ ((n + 1 : Nat) : Int) := by omega
 have z4 : ¬ cap = k := by omega
 have hwk : IntKind.i64.wrap ((k : Int) + 1) = (k : Int) + 1 := by rw [IntKind.wrap_i64]; omega
 have z6 : (0 : Int) ≤ (k : Int) + 1 := by omega
 have z7 : (k : Int) + 1 ≤ (n : Int) + 1 := by omega
 have z8 : (k : Int) ≤ (n : Int) + 1 := by omega
 have z9 : ((k : Int) + 1).toNat = k + 1 := by omega
 have z5 : n + 1 - (k + 1) = n - k := by omega
 have HMX : Hid ((m ++ [x]).length = n + 1) := by simp [Hid, HN.out]
 go_upto_region 2 with fail
 go_cut [18] (fun _ w' => w'.ownsRow 0 39 3 (.slice (some ⟨g, 0, none⟩) (n + 1) cap) (n + 1) (flT ((m ++ [x]).take (k + 1) ++ ((m ++ [x]).drop k).take (n - k))) ∧ Kp (fun j => j = g) w1 w')
 case first =>
  by_cases hcc : cap = k + 1
  ·subst hcc
   go_region_law (refine step_copyP rfl (.tmp 14) (.tmp 17) rfl g n (k + 1) k 0 0 1 (m ++ [x]) HMX.out hk (by simp [Act.eval, Act.put]) (Or.inr ⟨by omega, rfl⟩) (by simp [Act.eval, Act.put]) ho1'.out ?_; intro w2 ho2 hk2)
   all_goals (go_wp2_with fail; go_meet; exact ⟨ho2, ⟨hk2.os, hk2.tape, hk2.output, hk2.size, hk2.block⟩⟩)
  ·go_region_law (refine step_copyP rfl (.tmp 14) (.tmp 17) rfl g n cap k ((k + 1) * 3) (cap - (k + 1)) (cap - k) (m ++ [x]) HMX.out hk (by simp [Act.eval, Act.put]) (Or.inl rfl) (by simp [Act.eval, Act.put]) ho1'.out ?_; intro w2 ho2 hk2)
   all_goals (go_wp2_with fail; go_meet; exact ⟨ho2, ⟨hk2.os, hk2.tape, hk2.output, hk2.size, hk2.block⟩⟩)
 case rest =>
  obtain ⟨ho2, hk2⟩ := hcut
  have HS : Hid (((m ++ [x]).take (k + 1) ++ ((m ++ [x]).drop k).take (n - k)).set k x = m.take k ++ x :: m.drop k) := put_list m x n k HN.out hk
  have hL : ((m ++ [x]).take (k + 1) ++ ((m ++ [x]).drop k).take (n - k)).length = n + 1 := by
   have := HMX.out
   simp at this ⊢; omega
  generalize (m ++ [x]).take (k + 1) ++ ((m ++ [x]).drop k).take (n - k) = L2 at *
  obtain ⟨y, hy⟩ : ∃ y, L2[k]? = some y := ⟨L2[k]'(by omega), by simp⟩
  have HT := (owns_lst (ts := L2) (by rw [hL]; exact ho2)).atP hy
  obtain ⟨b1, o1, c1, e1, zz, y1, y2, y3⟩ := HT
  simp only [Value.slice.injEq, Option.some.injEq, Addr.mk.injEq] at e1
  obtain ⟨⟨rfl, rfl, -⟩, -, rfl⟩ := e1
  rw [Nat.zero_add] at y1 y2 y3
  obtain ⟨f1, f2, f3⟩ : wc.frozen? ⟨g, k * 3, none⟩ = false ∧ wc.frozen? ⟨g, k * 3 + 1, none⟩ = false ∧ wc.frozen? ⟨g, k * 3 + 2, none⟩ = false := by
   obtain ⟨_, ⟨h0, _⟩ | ⟨g', cap', cur, hv, _, hgg, _⟩⟩ := id ho2
   ·cases h0
   ·cases hv; simp [World.frozen?, hgg]
  have q1' : wc.cell? ⟨w.heap.size, 0, none⟩ = some (.int .u64 x.1.1) := (World.cell?_of_block (a := ⟨w.heap.size, 0, none⟩) (hk2.block w.heap.size hlt1 (fun h => hgn h.symm))).trans q1
  have q2' : wc.cell? ⟨w.heap.size, 1, none⟩ = some (.int .u64 x.1.2.1) := (World.cell?_of_block (a := ⟨w.heap.size, 1, none⟩) (hk2.block w.heap.size hlt1 (fun h => hgn h.symm))).trans q2
  have q3' : wc.cell? ⟨w.heap.size, 2, none⟩ = some (.int .u64 x.1.2.2) := (World.cell?_of_block (a := ⟨w.heap.size, 2, none⟩) (hk2.block w.heap.size hlt1 (fun h => hgn h.symm))).trans q3
  have zl : (k : Int) < (n : Int) + 1 := by omega
  have zl2 : (k : Int) < ((n + 1 : Nat) : Int) := by omega
  clear q1 q2 q3 hwk z6 z7 z8 z9 z4 z5 z2 z3 hy
  go_wp2
  go_ret
  obtain ⟨ho3, hk3⟩ := owns_set3 (k := k) x ho2
  rw [HS.out] at ho3
  refine ⟨g, cap, rfl, ho3, ?_, hl1.imp id (fun h => by first | omega | (simp at h; omega))⟩
  refine hb1.trans ((hk2.trans hk3 (fun _ _ h => h))) (fun j hj h => ?_)
  subst h
  rcases hl1 with h | h
  ·exact h
  ·exact absurd hj (by first | omega | (simp at h; omega))
end Go.Proofs.YtjppkehnjnmbnaaGreat.Pc.Cn

namespace Go.Proofs.YtjppkehnjnmbnaaGreat.Pc.Cn
open Go.RowKit Go.Sort
attribute [local go_sem ↓] Go.wp_at_zero Go.wp_at_succ
def Blk (w : World) (cb fb ff : Nat) (v : Value) : Prop := w.heap[cb]? = some (.cells #[fv fb, fv ff, v] 129 (0, 0))
theorem Blk.set {w : World} {cb fb ff : Nat} {v v2 : Value} {l2 : List Tm} (h : Blk w cb fb ff v) (ho : w.ownsRow 0 39 3 v2 l2.length (flT l2)) (hoff : v2.ownBlock ≠ some cb) : Ch (w.setCell ⟨cb, 2, none⟩ v2) cb fb ff v2 l2 ∧ Kp (fun k => k = cb) w (w.setCell ⟨cb, 2, none⟩ v2) := by
 have e := setCell_eq_setRow w cb 2 _ _ _ v2 h
 have hk : Kp (fun k => k = cb) w (w.setCell ⟨cb, 2, none⟩ v2) := by
  rw [e]
  exact ⟨rfl, rfl, rfl, by simp [World.setRow], fun k _ hne => setRow_other w cb k _ (by omega)⟩
 refine ⟨⟨?_, owns_kp hk ho (fun k hk he => hoff (he ▸ hk)), hoff⟩, hk⟩
 rw [e, setRow_heap w cb _ _ _ _ h]
 simp
theorem Blk.cells {w : World} {cb fb ff : Nat} {v : Value} (h : Blk w cb fb ff v) : w.cell? ⟨cb, 2, none⟩ = some v ∧ w.frozen? ⟨cb, 2, none⟩ = false ∧ cb < w.heap.size := by
 unfold Blk at h
 exact ⟨by simp [World.cell?, h], by simp [World.frozen?, h], (Array.getElem?_eq_some_iff.1 h).1⟩
set_option maxHeartbeats 2000000 in
set_option maxRecDepth 100000 in
theorem insert_any {cb fb ff : Nat} {v : Value} {l : List Tm} {bel fst : Tm → Tm → Bool} (x : Tm) (w : World) (hc : Ch w cb fb ff v l) (hl : (l.length + 1) * 24 ≤ 140737488355328) (hB : FnOk fb bel) (hF : FnOk ff fst) :
    Calls Tryz.prog 48 #[.pointer (some ⟨cb, 0, none⟩), tv x] w fun e w' => ∃ v', e = .returned (.bool (!ccov bel l x)) ∧ Ch w' cb fb ff v' (cins bel fst l x) ∧ Turn cb v v' w w' := by
 obtain ⟨W1, hW1⟩ : ∃ W1, W1 = w.alloc (.cells #[.int .u64 x.1.1, .int .u64 x.1.2.1, .int .u64 x.1.2.2] 39) := ⟨_, rfl⟩
 have G1 : Gr w W1 := by rw [hW1]; exact (Gr.refl _).alloc _
 have hz : w.heap.size < W1.heap.size := by rw [hW1]; simp
 have HB1 : Hid (W1.cell? ⟨w.heap.size, 0, none⟩ = some (.int .u64 x.1.1)) := by rw [hW1]; simp [Hid]
 have HB2 : Hid (W1.cell? ⟨w.heap.size, 1, none⟩ = some (.int .u64 x.1.2.1)) := by rw [hW1]; simp [Hid]
 have HB3 : Hid (W1.cell? ⟨w.heap.size, 2, none⟩ = some (.int .u64 x.1.2.2)) := by rw [hW1]; simp [Hid]
 have hc1 := hc.below G1.below
 have h1 := covers_any x W1 hc1 (by omega) hB
 have HC : Hid (Ch w cb fb ff v l) := hc
 have HZ : Hid (w.heap.size < W1.heap.size) := hz
 cases hcv : ccov bel l x with
 | true =>
  have HE : Hid (cins bel fst l x = l) := by unfold cins; rw [hcv]; simp [Hid]
  rw [hcv] at h1
  rw [HE.out]
  clear hcv hc hc1 hz
  subst hW1
  go_enter Tryz.func48, Tryz.ntmps48
  go_wp2_with fail
  refine h1.mono ?_
  rintro e w2 ⟨rfl, hg2⟩
  go_wp2
  go_ret
  exact ⟨v, rfl, HC.out.below (G1.trans hg2).below, Turn.of_below (G1.trans hg2).below⟩
 | false =>
  have HE : Hid (cins bel fst l x = cput fst (ccut bel l x) x) := by unfold cins; rw [hcv]; simp [Hid]
  rw [hcv] at h1
  rw [HE.out]
  have h2 := fun (W : World) (hW : Gr W1 W) => staying_any (bel := bel) x W (hc1.below hW.below) (by omega) hB
  have hml := ccut_length (bel := bel) l x
  generalize hm : ccut bel l x = m at *
  clear hcv hc hc1 hz hm
  subst hW1
  go_enter Tryz.func48, Tryz.ntmps48
  go_wp2_with fail
  refine h1.mono ?_
  rintro e w2 ⟨rfl, hg2⟩
  have a1 := (hg2.cell HZ.out).trans HB1.out
  have a2 := (hg2.cell HZ.out).trans HB2.out
  have a4 := (hg2.cell HZ.out).trans HB3.out
  have a3 := Nat.lt_of_lt_of_le HZ.out hg2.size
  have h2' := h2 w2 hg2
  have A2 : Hid (Below w.heap.size w w2) := (G1.trans hg2).below
  clear h1 h2
  go_wp2_with fail
  refine h2'.mono ?_
  rintro e w3 ⟨v3, rfl, ho3, hb3, hor⟩
  have b1 := (hb3.cell (p := ⟨w.heap.size, 0, none⟩) a3).trans a1
  have b2 := (hb3.cell (p := ⟨w.heap.size, 1, none⟩) a3).trans a2
  have b4 := (hb3.cell (p := ⟨w.heap.size, 2, none⟩) a3).trans a4
  have b3 := Nat.lt_of_lt_of_le a3 hb3.size
  have A3 : Hid (Below w.heap.size w w3) := A2.out.trans (hb3.mono (Nat.le_of_lt a3))
  have hc3 : Hid (Ch w3 cb fb ff v l) := HC.out.below A3.out
  have h3 := place_any x w3 hc3.out (owns_lst ho3) (by omega) hF
  have hpl : m.findIdx (fun y => fst x y) ≤ m.length := List.findIdx_le_length
  have HPL : Hid (cput fst m x = m.take (m.findIdx fun y => fst x y) ++ x :: m.drop (m.findIdx fun y => fst x y)) := rfl
  generalize List.findIdx (fun y => fst x y) m = at_ at *
  have HO3 : Hid (w3.ownsRow 0 39 3 v3 m.length (flT m)) := ho3
  have HOR : Hid (v3 = v ∨ ∀ g, v3.ownBlock = some g → w2.heap.size ≤ g) := hor
  clear a1 a2 a4 h2' ho3 hor
  go_wp2_with fail
  refine h3.mono ?_
  rintro e w4 ⟨rfl, hg4⟩
  have c1 := (hg4.cell b3).trans b1
  have c2 := (hg4.cell b3).trans b2
  have c4 := (hg4.cell b3).trans b4
  have c3 := Nat.lt_of_lt_of_le b3 hg4.size
  have h4 := put_any v3 m at_ x w4 (owns_below HO3.out hg4.below) hpl (by omega)
  clear b1 b2 b4 h3
  go_wp2_with fail
  refine h4.mono ?_
  rintro e w5 ⟨g, cap, rfl, ho5, hk5, hor5⟩
  have hlt := HC.out.lt
  have hnoff : v3.ownBlock ≠ some cb := by
   intro h
   rcases HOR.out with rfl | h'
   ·exact HC.out.off h
   ·have := h' cb h; omega
  have A4 : Hid (Below w.heap.size w w4) := A3.out.trans (hg4.below.mono (Nat.le_of_lt b3))
  have hblk4 : Blk w4 cb fb ff v := (HC.out.below A4.out).blk
  have hblk5 : Blk w5 cb fb ff v := (hk5.block cb (Nat.lt_trans hlt c3) hnoff).trans hblk4
  obtain ⟨d1, d2, d3⟩ := hblk5.cells
  clear c1 c2 c4 h4
  go_wp2
  go_ret
  have hgcb : (Value.slice (some ⟨g, 0, none⟩) (m.length + 1) cap).ownBlock ≠ some cb := by
   simp only [Value.ownBlock]
   intro h
   rcases hor5 with h' | h'
   ·exact hnoff (h'.trans h)
   ·simp at h; omega
  have hlen : (cput fst m x).length = m.length + 1 := cput_length m x
  obtain ⟨hch, hks⟩ := hblk5.set (v2 := .slice (some ⟨g, 0, none⟩) (m.length + 1) cap) (l2 := cput fst m x) (by rw [hlen, HPL.out]; exact ho5) hgcb
  refine ⟨_, rfl, hch, ⟨?_, ?_⟩⟩
  ·refine ((Kp.of_below A4.out).trans hk5 (fun j hj h => ?_)).trans hks (fun j _ h => Or.inl h)
   rcases HOR.out with rfl | h'
   ·exact Or.inr h
   ·have := h' j h; omega
  ·intro g' hg'
   simp [Value.ownBlock] at hg'
   subst hg'
   rcases hor5 with h' | h'
   ·rcases HOR.out with rfl | h''
    ·exact Or.inl h'
    ·right; have := h'' _ h'; omega
   ·right; omega
end Go.Proofs.YtjppkehnjnmbnaaGreat.Pc.Cn

namespace Go.Proofs.YtjppkehnjnmbnaaGreat.Pc.Cn
open Go.RowKit Go.Sort
attribute [local go_sem ↓] Go.wp_at_zero Go.wp_at_succ
set_option maxHeartbeats 1000000 in
theorem clone_any (v : Value) (l : List Tm) (w : World) (hv : Lst w v l) (hl : l.length * 24 ≤ 140737488355328) :
    Calls Tryz.prog 36 #[v] w fun e w' => ∃ v', e = .returned v' ∧ w'.ownsRow w.heap.size 39 3 v' l.length (flT l) ∧ Below w.heap.size w w' := by
 have HV : Hid (Lst w v l) := hv
 have hen := fun (W : World) (a : Option Addr) (n c : Nat) => Lib.run_eql_slice_nil (P := Tryz.prog) W 35 39 a n c 0 0 Tryz.underlying35
 rcases hv with ⟨rfl, rfl⟩ | ⟨b, off, c, rfl, hb, ht⟩
 ·go_enter Tryz.func36, Tryz.ntmps36
  go_wp2
  go_ret
  exact ⟨_, rfl, World.ownsRow_nil _ _ _ _, Below.refl _ _⟩
 ·clear ht
  go_enter Tryz.func36, Tryz.ntmps36
  go_wp2_with (at_builtin; refine wpAppL rfl _ _ rfl w.heap.size (.slice (some ⟨w.heap.size, 0, none⟩) 0 0) 0 [] rfl (World.ownsRow_made w #[] 0 (Nat.le_refl _) (by unfold maxLen; omega) rfl) _ l rfl (HV.out.below ((Gr.refl w).alloc _).below) (by omega) (by simp) ?_)
  intro v' w' h1 h2
  go_wp2
  go_ret
  refine ⟨_, rfl, by simpa using h1, ?_⟩
  exact ((Gr.refl w).alloc _).below.trans ((Kp.grownBy (S := fun k => w.heap.size ≤ k) h2 (fun k hk => by simp [Value.ownBlock] at hk; omega)).below (by simp) (fun _ h => h))
set_option maxHeartbeats 1000000 in
theorem list_any {cb fb ff : Nat} {v : Value} {l : List Tm} (w : World) (hc : Ch w cb fb ff v l) (hl : l.length * 24 ≤ 140737488355328) :
    Calls Tryz.prog 49 #[.pointer (some ⟨cb, 0, none⟩)] w fun e w' => ∃ v', e = .returned v' ∧ w'.ownsRow w.heap.size 39 3 v' l.length (flT l) ∧ Below w.heap.size w w' := by
 have h := clone_any v l w hc.lst hl
 have k2 := hc.c2
 have kl := hc.lt
 clear hc
 go_enter Tryz.func49, Tryz.ntmps49
 go_wp2_with fail
 refine h.mono ?_
 rintro e w1 ⟨v', rfl, h1, h2⟩
 go_wp2
 go_ret
 exact ⟨_, rfl, h1, h2⟩
set_option maxHeartbeats 1000000 in
theorem len_any {cb fb ff : Nat} {v : Value} {l : List Tm} (w : World) (hc : Ch w cb fb ff v l) :
    Calls Tryz.prog 95 #[.pointer (some ⟨cb, 0, none⟩)] w fun e w' => e = .returned (.int .i64 (l.length : Nat)) ∧ w' = w := by
 obtain ⟨pl, cl, rfl⟩ := hc.lst.form
 have k2 := hc.c2
 have kl := hc.lt
 go_enter Tryz.func95, Tryz.ntmps95
 go_wp2
 go_ret
 exact ⟨rfl, rfl⟩
theorem cnew_any (fb ff : Nat) (w : World) : Calls Tryz.prog 66 #[fv fb, fv ff] w fun e w' => e = .returned (.pointer (some ⟨w.heap.size, 0, none⟩)) ∧ Ch w' w.heap.size fb ff (.slice none 0 0) [] ∧ Gr w w' := by
 go_enter Tryz.func66, Tryz.ntmps66
 go_wp2
 go_ret
 exact ⟨rfl, ⟨heap_new' _ _, World.ownsRow_nil _ _ _ _, by simp [Value.ownBlock]⟩, (Gr.refl _).alloc _⟩
theorem noneYet_any (w : World) : Calls Tryz.prog 47 #[] w fun e w' => e = .returned (.pointer (some ⟨w.heap.size, 0, none⟩)) ∧ Ch w' w.heap.size 46 67 (.slice none 0 0) [] ∧ Gr w w' := by
 have h := cnew_any 46 67 w
 go_enter Tryz.func47, Tryz.ntmps47
 go_wp2_with fail
 refine h.mono ?_
 rintro e w1 ⟨rfl, h1, h2⟩
 go_wp2
 go_ret
 exact ⟨rfl, h1, h2⟩
end Go.Proofs.YtjppkehnjnmbnaaGreat.Pc.Cn

namespace Go.Proofs.YtjppkehnjnmbnaaGreat.Hf
open Go.RowKit Go.Sort Hp
attribute [local go_sem ↓] Go.wp_at_zero Go.wp_at_succ
def kf (a : Th) : Int := a.2.1.1 * 340282366920938463463374607431768211456 + a.2.1.2.1 * 18446744073709551616 + a.2.1.2.2
theorem kf_lt (a b : Th) : kf a < kf b ↔ Pc.tol a.2 b.2 = true := by
 rw [Pc.tol_iff]
 have h1 := Pt.tri_bd a.2
 have h2 := Pt.tri_bd b.2
 unfold kf
 omega
theorem kf_key (a b : Th) : key kf a b = Pc.tol a.2 b.2 := by
 unfold key
 cases h : Pc.tol a.2 b.2
 ·exact decide_eq_false (fun e => by rw [(kf_lt a b).1 e] at h; cases h)
 ·exact decide_eq_true ((kf_lt a b).2 h)
set_option maxHeartbeats 1000000 in
theorem wait_ok : FnOk 92 (key kf) := by
 refine ⟨enters_of Tryz.func92 (by kernel_rfl) rfl, fun a b W => ?_⟩
 have h := fun W => Pc.told_ok.calls a.2 b.2 W
 rw [kf_key]
 generalize Pc.tol a.2 b.2 = r at h ⊢
 have et := Pc.told_ok.enter
 go_enter Tryz.func92, Tryz.ntmps92
 go_wp2_with fail
 refine (h _).mono ?_
 rintro e w' ⟨rfl, hg⟩
 go_wp2
 go_ret
 exact ⟨rfl, (((Gr.refl _).alloc _).alloc _).trans hg⟩
end Go.Proofs.YtjppkehnjnmbnaaGreat.Hf
