import Derived.Test.YtmhbpelbkeclpaaGreatDoorLaw
import Derived.OneCell
import Derived.Laws.OwnMore
import Derived.Deep.Onto
import Derived.Lib.SmallJoins
namespace Go.Proofs.YtmhbpelbkeclpaaGreatDoor
open Go.RowKit Go.Shelf Go.Lib
open Go.Sort hiding Below

/-- The time that is written into list k. -/
def mk3 (k : Nat) : T3 := (k, 99999, 12345)
theorem flat_rep (n : Nat) (t : T3) : flat (List.replicate (n + 1) t) = flat (List.replicate n t) ++ encT t := by
  rw [List.replicate_succ', flat_append]; simp [flat]
theorem flat_rep_add (n m : Nat) (t : T3) : flat (List.replicate (n + m) t) = flat (List.replicate n t) ++ flat (List.replicate m t) := by
  rw [← List.replicate_append_replicate, flat_append]
theorem rep_len (n : Nat) (t : T3) : (flat (List.replicate n t)).length = n * 3 := by rw [flat_length, List.length_replicate]

/-- What is known of a list of the call's own. -/
theorem came_own {W : World} {B n : Nat} {V : Value} {xs : List Value} {e : TypeId} (h : W.ownsRow B e 3 V n xs) :
    ∃ ao b cap, V = .slice ao n cap ∧ Came W 3 ao b 0 n cap xs ∧ cap ≤ maxLen ∧ (V.ownBlock = none ∧ n = 0 ∧ cap = 0 ∨ V.ownBlock = some b ∧ ao = some ⟨b, 0, none⟩) := by
  obtain ⟨hl, ⟨rfl, rfl⟩ | ⟨g, cap, cur, rfl, hg, hh, hn, hm, hs, ht⟩⟩ := h
  · have : xs = [] := List.length_eq_zero_iff.1 (by simpa using hl)
    subst this
    exact ⟨none, 0, 0, rfl, ⟨Nat.le_refl _, fun h => absurd h (Nat.lt_irrefl _), fun h => absurd h (Nat.lt_irrefl _), rfl, fun j u h => by simp at h, fun j h => by simp at h⟩, by simp [maxLen], Or.inl ⟨rfl, rfl, rfl⟩⟩
  · refine ⟨some ⟨g, 0, none⟩, g, cap, rfl, ⟨hn, fun _ => rfl, fun _ => (Array.getElem?_eq_some_iff.1 hh).1, hl, fun j u hj => ?_, fun j hj => ?_⟩, hm, Or.inr ⟨rfl, rfl⟩⟩
    · rw [Nat.zero_add, Joins.cell_of_block hh]
      rw [← ht, List.getElem?_take] at hj
      split at hj
      · simpa using hj
      · cases hj
    · rw [Nat.zero_add, Joins.cell_of_block hh]
      refine ⟨?_, Joins.unfrozen_of_block hh _⟩
      have : n * 3 + j < cur.size := by rw [hs]; have := Nat.sub_mul cap n 3; omega
      rw [Array.getElem?_eq_getElem this]
      rfl

/-- 'append(own, t)', with both tales of it: the call's own row, and onto what came in. -/
theorem wpAppOnto {W0 : World} {ao : Option Addr} {b len cap : Nat} {olds : List Value} (hc : Came W0 3 ao b 0 len cap olds)
    {w : World} {ops : Array Oper} {rest : List Oper} {o : Oper} {a : Act} {Q : Exit → Act → World → Prop} (hgd : o.guard = none) (s x : Operand)
    (ho : o.op = .call { callee := .builtin .append, args := #[s, x], argTypes := #[22, 22] })
    (base : Nat) (v : Value) (m : Nat) (xs ks : List Value) (hs : a.eval s = v) (hown : w.ownsRow base 25 3 v (len + m) xs) (hon : Onto W0 25 3 ao b 0 len cap olds w v m ks)
    (t : T3) (hx : a.eval x = .slice (some ⟨w.heap.size, 0, none⟩) 1 1) (hbig : (len + m + 1) * 24 ≤ 140737488355328) (hbase : base ≤ w.heap.size)
    (h : ∀ v' w', w'.ownsRow base 25 3 v' (len + m + 1) (xs ++ encT t) → Onto W0 25 3 ao b 0 len cap olds w' v' (m + 1) (ks ++ encT t) → (w.alloc (.cells #[.int .u64 t.1, .int .u64 t.2.1, .int .u64 t.2.2] 25)).grownBy w' v.ownBlock → wpList Tryz.prog ops Q rest (a.put o.dst v') w') :
    wpList Tryz.prog ops Q (o :: rest) a (w.alloc (.cells #[.int .u64 t.1, .int .u64 t.2.1, .int .u64 t.2.2] 25)) := by
  obtain ⟨i0, hi, hz0, hz1, hz2⟩ := info_parts infoT
  have hone : ∀ u ∈ encT t, u.oneCell' = true := fun u hu => by
    simp [encT] at hu
    rcases hu with rfl | rfl | rfl <;> rfl
  obtain ⟨v1, w1, hr1, h1, h2, _⟩ := run_append_own (P := Tryz.prog) (w.alloc (.cells #[.int .u64 t.1, .int .u64 t.2.1, .int .u64 t.2.2] 25)) base 22 o.type 25 i0 _ 3 24 Tryz.underlying22 hi hz0 hz1 hz2 rfl (by decide) v (len + m) xs (hown.alloc _) ⟨w.heap.size, 0, none⟩ 1 1 (encT t) rfl (World.news_of_block (heap_new _ _)) hone (by unfold maxLen; omega) hbig (by simp; omega)
  obtain ⟨v2, w2, hr2, h3⟩ := run_append_onto (P := Tryz.prog) hc 22 o.type i0 _ 24 Tryz.underlying22 hi hz0 hz1 hz2 rfl (by decide) (hon.alloc hc _) ⟨w.heap.size, 0, none⟩ 1 (encT t) rfl (World.news_of_block (heap_new _ _)) hone (by unfold maxLen; omega) hbig
  have e := hr1.symm.trans hr2
  cases e
  refine wpList_plain hgd fun K hK => ?_
  unfold Oper.wp execOp
  simp only [ho, resolve, invoke, builtin, Sem.run_bind, Sem.run_pure, Result.andThen_ok, List.map_toArray, List.map_cons, List.map_nil, hs, hx, hr1]
  exact hK _ _ (h _ _ h1 h3 h2)

/-- The run of 'append(own, t)', with both tales of it. -/
theorem app_both {W0 : World} {ao : Option Addr} {b len cap : Nat} {olds : List Value} (hc : Came W0 3 ao b 0 len cap olds) {w : World}
    (base : Nat) (v : Value) (m : Nat) (xs ks : List Value) (hown : w.ownsRow base 25 3 v (len + m) xs) (hon : Onto W0 25 3 ao b 0 len cap olds w v m ks) (t : T3) (hbig : (len + m + 1) * 24 ≤ 140737488355328) (hbase : base ≤ w.heap.size) :
    ∃ v' w', (Builtin.append_ #[22, 22] 22 #[v, .slice (some ⟨w.heap.size, 0, none⟩) 1 1]).run Tryz.prog (w.alloc (.cells #[.int .u64 t.1, .int .u64 t.2.1, .int .u64 t.2.2] 25)) = .ok v' w' ∧ w'.ownsRow base 25 3 v' (len + m + 1) (xs ++ encT t) ∧ Onto W0 25 3 ao b 0 len cap olds w' v' (m + 1) (ks ++ encT t) ∧ (w.alloc (.cells #[.int .u64 t.1, .int .u64 t.2.1, .int .u64 t.2.2] 25)).grownBy w' v.ownBlock := by
  obtain ⟨i0, hi, hz0, hz1, hz2⟩ := info_parts infoT
  have hone : ∀ u ∈ encT t, u.oneCell' = true := fun u hu => by
    simp [encT] at hu
    rcases hu with rfl | rfl | rfl <;> rfl
  obtain ⟨v1, w1, hr1, h1, h2, _⟩ := run_append_own (P := Tryz.prog) (w.alloc (.cells #[.int .u64 t.1, .int .u64 t.2.1, .int .u64 t.2.2] 25)) base 22 22 25 i0 _ 3 24 Tryz.underlying22 hi hz0 hz1 hz2 rfl (by decide) v (len + m) xs (hown.alloc _) ⟨w.heap.size, 0, none⟩ 1 1 (encT t) rfl (World.news_of_block (heap_new _ _)) hone (by unfold maxLen; omega) hbig (by simp; omega)
  obtain ⟨v2, w2, hr2, h3⟩ := run_append_onto (P := Tryz.prog) hc 22 22 i0 _ 24 Tryz.underlying22 hi hz0 hz1 hz2 rfl (by decide) (hon.alloc hc _) ⟨w.heap.size, 0, none⟩ 1 (encT t) rfl (World.news_of_block (heap_new _ _)) hone (by unfold maxLen; omega) hbig
  have e := hr1.symm.trans hr2
  cases e
  exact ⟨_, _, hr1, h1, h3, h2⟩
theorem onto_gr {W0 : World} {ao : Option Addr} {b len cap : Nat} {olds : List Value} {w w' : World} {v : Value} {m : Nat} {ks : List Value} (hc : Came W0 3 ao b 0 len cap olds) (h : Onto W0 25 3 ao b 0 len cap olds w v m ks) (hg : Gr w w') : Onto W0 25 3 ao b 0 len cap olds w' v m ks :=
  h.carry hc hg.below.os hg.below.output (fun i hi => hg.below.block i (Nat.lt_of_lt_of_le hi h.kept.size)) (fun ho => owns_below' ho hg.below)
theorem lst_keep {W W' : World} {v : Value} {ts : List T3} (h : Lst W v ts) (hk : ∀ g, v.ownBlock = some g → g < W.heap.size → W'.heap[g]? = W.heap[g]?) (hs : W.heap.size ≤ W'.heap.size) : Lst W' v ts := by
  rcases h with h | ⟨b, off, c, hv, hb, ht⟩
  · exact Or.inl h
  · refine Or.inr ⟨b, off, c, hv, by omega, fun j u hj => ?_⟩
    rw [World.cell?_of_block (a := ⟨b, off + j, none⟩) (hk b (by rw [hv]; rfl) hb)]
    exact ht j u hj
theorem own_keep {W W' : World} {B n : Nat} {e : TypeId} {size : Nat} {v : Value} {xs : List Value} (h : W.ownsRow B e size v n xs) (hk : ∀ g, v.ownBlock = some g → g < W.heap.size → W'.heap[g]? = W.heap[g]?) : W'.ownsRow B e size v n xs := by
  obtain ⟨h1, h2⟩ := h
  refine ⟨h1, ?_⟩
  rcases h2 with h2 | ⟨g, cap, cur, hv, hg, hh, r⟩
  · exact Or.inl h2
  · exact Or.inr ⟨g, cap, cur, hv, hg, by rw [hk g (by rw [hv]; rfl) (Array.getElem?_eq_some_iff.1 hh).1]; exact hh, r⟩

/-- Behind i of the appends to one list. -/
structure In2 (wk wr : World) (B : Nat) (V : Value) (len : Nat) (t : T3) (ao : Option Addr) (b cap i : Nat) (s7 : Value) : Prop where
  own : wr.ownsRow B 25 3 s7 (len + i) (flat (List.replicate (len + i) t))
  onto : Onto wk 25 3 ao b 0 len cap (flat (List.replicate len t)) wr s7 i (flat (List.replicate i t))
  keep : ∀ q, q < wk.heap.size → some q ≠ V.ownBlock → wr.heap[q]? = wk.heap[q]?
  size : wk.heap.size ≤ wr.heap.size
  bel : Below B wk wr
theorem In2.start {wk : World} {B len b cap : Nat} {V : Value} {t : T3} {ao : Option Addr} (h : wk.ownsRow B 25 3 V len (flat (List.replicate len t))) (hV : V = .slice ao len cap) (hc : Came wk 3 ao b 0 len cap (flat (List.replicate len t))) : In2 wk wk B V len t ao b cap 0 V :=
  ⟨h, by rw [hV]; exact Onto.start hc, fun _ _ _ => rfl, Nat.le_refl _, Below.refl _ _⟩
theorem In2.block {wk wr : World} {B len b cap i : Nat} {V s7 : Value} {t : T3} {ao : Option Addr} (h : In2 wk wr B V len t ao b cap i s7) (hV : V = .slice ao len cap) : s7.ownBlock = V.ownBlock ∨ ∀ g, s7.ownBlock = some g → wk.heap.size ≤ g := by
  rcases h.onto.val with ⟨_, e⟩ | ⟨_, ho⟩
  · left; rw [e, hV]; cases ao <;> rfl
  · exact Or.inr fun g hg => (ho.lt g hg).1
theorem In2.step {wk wr w1 w' : World} {B len b cap i : Nat} {V s7 v' : Value} {t : T3} {ao : Option Addr} {o : Obj} (h : In2 wk wr B V len t ao b cap i s7) (hV : V = .slice ao len cap) (hg : Gr wr w1) (hB : B ≤ wk.heap.size)
    (h1 : w'.ownsRow B 25 3 v' (len + i + 1) (flat (List.replicate (len + i) t) ++ encT t)) (h2 : Onto wk 25 3 ao b 0 len cap (flat (List.replicate len t)) w' v' (i + 1) (flat (List.replicate i t) ++ encT t)) (h3 : (w1.alloc o).grownBy w' s7.ownBlock) : In2 wk w' B V len t ao b cap (i + 1) v' := by
  have hb := h.block hV
  have hs1 := hg.size
  have hsz := h.size
  have hs3 := h3.size
  have ha : (w1.alloc o).heap.size = w1.heap.size + 1 := by simp
  refine ⟨by rw [← Nat.add_assoc, flat_rep]; exact h1, by rw [flat_rep]; exact h2, fun q hq hne => ?_, by omega, ?_⟩
  · rw [h3.block q (by omega) (fun e => ?_)]
    · rw [Below.heap_alloc w1 o q (by omega), hg.below.block q (by omega)]
      exact h.keep q hq hne
    · rcases hb with hb | hb
      · exact hne (e.trans hb)
      · have := hb q e.symm; omega
  · have h4 := (h.bel.trans (hg.below.mono (by omega))).alloc (by omega) o
    exact h4.grown h3 (by omega) (fun k hk => (h.own.lt k hk).1)
/-- The list itself reads as before. -/
theorem In2.old {wk wr : World} {B len b cap i : Nat} {V s7 : Value} {t : T3} {ao : Option Addr} (h : In2 wk wr B V len t ao b cap i s7) (hL : Lst wk V (List.replicate len t)) (hV : V.ownBlock = none ∧ len = 0 ∧ cap = 0 ∨ V.ownBlock = some b ∧ ao = some ⟨b, 0, none⟩) (hao : V = .slice ao len cap) : Lst wr V (List.replicate len t) := by
  rcases hL with ⟨h1, h2⟩ | ⟨g, off, c, hv, hb, ht⟩
  · exact Or.inl ⟨h1, h2⟩
  · have hbg : g = b ∧ off = 0 := by
      rcases hV with ⟨h0, _⟩ | ⟨_, h0⟩
      · rw [hv] at h0; simp [Value.ownBlock] at h0
      · rw [hao, h0] at hv
        simp only [Value.slice.injEq, Option.some.injEq, Addr.mk.injEq] at hv
        exact ⟨hv.1.1.symm, hv.1.2.1.symm⟩
    obtain ⟨rfl, rfl⟩ := hbg
    refine Or.inr ⟨g, 0, c, hv, by have := h.size; omega, fun j u hj => ?_⟩
    rw [h.onto.old hb (fun j' _ _ e => ?_)]
    · exact ht j u hj
    · have hjl := (List.getElem?_eq_some_iff.1 hj).1
      rw [rep_len] at hjl
      omega

/-- Behind k of the lists. -/
structure P2 (bl B : Nat) (V : Nat → Value) (L : Nat → Nat) (k : Nat) (X : Nat → Value) (more : Value) (W : World) : Prop where
  own : ∀ j, j < 3 → k ≤ j → W.ownsRow B 25 3 (V j) (L j) (flat (List.replicate (L j) (mk3 j)))
  lst : ∀ j, j < 3 → Lst W (V j) (List.replicate (L j) (mk3 j))
  big : ∀ j, j < k → Lst W (X j) (List.replicate (L j + 8) (mk3 j))
  mor : W.ownsRow B 22 1 more k ((List.range k).map X)
  far : ∀ j, j < 3 → k ≤ j → ∀ g, (V j).ownBlock = some g → g ≠ bl ∧ more.ownBlock ≠ some g ∧ (∀ i, i < 3 → i ≠ j → (V i).ownBlock ≠ some g) ∧ (∀ i, i < k → (X i).ownBlock ≠ some g)
  mfar : ∀ g, more.ownBlock = some g → g ≠ bl ∧ (∀ i, i < 3 → (V i).ownBlock ≠ some g) ∧ (∀ i, i < k → (X i).ownBlock ≠ some g)
  cell : ∀ j, j < 3 → W.cell? ⟨bl, j, none⟩ = some (V j)
  lt : bl < W.heap.size
  xlt : ∀ i g, i < k → (X i).ownBlock = some g → g < W.heap.size
/-- X with one more. -/
def put (X : Nat → Value) (k : Nat) (x : Value) (i : Nat) : Value := if i = k then x else X i
theorem put_map (X : Nat → Value) (k : Nat) (x : Value) : (List.range (k + 1)).map (put X k x) = (List.range k).map X ++ [x] := by
  rw [List.range_succ, List.map_append]
  congr 1
  · refine List.map_congr_left fun i hi => ?_
    have : i < k := List.mem_range.1 hi
    exact if_neg (by omega)
  · simp [put]
theorem lst_lt {W : World} {v : Value} {ts : List T3} (h : Lst W v ts) {g : Nat} (hg : v.ownBlock = some g) : g < W.heap.size := by
  rcases h with ⟨_, rfl⟩ | ⟨b, off, c, rfl, hb, _⟩
  · simp [Value.ownBlock] at hg
  · simp [Value.ownBlock] at hg; omega
theorem P2.step {bl B : Nat} {V : Nat → Value} {L : Nat → Nat} {k b cap : Nat} {X : Nat → Value} {more more' x : Value} {wk wr w' : World} {ao : Option Addr} {o : Obj} (h : P2 bl B V L k X more wk) (hk : k < 3)
    (hV : V k = .slice ao (L k) cap) (hob : (V k).ownBlock = none ∧ L k = 0 ∧ cap = 0 ∨ (V k).ownBlock = some b ∧ ao = some ⟨b, 0, none⟩)
    (hin : In2 wk wr B (V k) (L k) (mk3 k) ao b cap 8 x) (h1 : w'.ownsRow B 22 1 more' (k + 1) ((List.range k).map X ++ [x])) (h2 : (wr.alloc o).grownBy w' more.ownBlock) (h3 : more'.ownBlock = more.ownBlock ∨ ∀ g, more'.ownBlock = some g → wr.heap.size ≤ g) :
    P2 bl B V L (k + 1) (put X k x) more' w' := by
  have hxb := hin.block hV
  have hs2 := h2.size
  have ha : (wr.alloc o).heap.size = wr.heap.size + 1 := by simp
  have hsz := hin.size
  have hlt := h.lt
  have hVk := h.far k hk (Nat.le_refl _)
  have xlt := fun g (hg : x.ownBlock = some g) => (hin.own.lt g hg).2
  -- a block that is neither the list's nor more's is as it was
  have keep : ∀ q, q < wk.heap.size → some q ≠ (V k).ownBlock → some q ≠ more.ownBlock → w'.heap[q]? = wk.heap[q]? := fun q hq n1 n2 => by
    rw [h2.block q (by omega) n2, Below.heap_alloc wr o q (by omega)]
    exact hin.keep q hq n1
  have keepr : ∀ q, q < wr.heap.size → some q ≠ more.ownBlock → w'.heap[q]? = wr.heap[q]? := fun q hq n2 => by
    rw [h2.block q (by omega) n2, Below.heap_alloc wr o q (by omega)]
  have hput : ∀ i, i < k → put X k x i = X i := fun i hi => if_neg (by omega)
  have hpk : put X k x k = x := if_pos rfl
  have xm : ∀ g, x.ownBlock = some g → some g ≠ more.ownBlock := fun g hg e => by
    rcases hxb with e1 | e1
    · rw [e1] at hg
      exact (hVk g hg).2.1 e.symm
    · have hm := (h.mor.lt g e.symm).2
      have := e1 g hg
      omega
  refine ⟨fun j hj hkj => ?_, fun j hj => ?_, fun j hj => ?_, by rw [put_map]; exact h1, fun j hj hkj g hg => ?_, fun g hg => ?_, fun j hj => ?_, by omega, fun i g hi hg => ?_⟩
  · refine own_keep (h.own j hj (by omega)) fun g hg hgl => keep g hgl (fun e => ?_) (fun e => ?_)
    · exact (h.far j hj (by omega) g hg).2.2.1 k hk (by omega) e.symm
    · exact (h.far j hj (by omega) g hg).2.1 e.symm
  · by_cases hjk : j = k
    · subst hjk
      refine lst_keep (hin.old (h.lst j hj) hob hV) (fun g hg hgl => keepr g hgl fun e => ?_) (by omega)
      exact (h.mfar g e.symm).2.1 j hj hg
    · refine lst_keep (h.lst j hj) (fun g hg hgl => keep g hgl (fun e => ?_) (fun e => ?_)) (by omega)
      · exact (hVk g e.symm).2.2.1 j hj hjk hg
      · exact (h.mfar g e.symm).2.1 j hj hg
  · by_cases hjk : j = k
    · subst hjk
      rw [hpk]
      refine lst_keep (owns_lst (ts := List.replicate (L j + 8) (mk3 j)) (by rw [List.length_replicate]; exact hin.own)) (fun g hg hgl => keepr g hgl (xm g hg)) (by omega)
    · rw [hput j (by omega)]
      refine lst_keep (h.big j (by omega)) (fun g hg hgl => keep g hgl (fun e => ?_) (fun e => ?_)) (by omega)
      · exact (hVk g e.symm).2.2.2 j (by omega) hg
      · exact (h.mfar g e.symm).2.2 j (by omega) hg
  · obtain ⟨f1, f2, f3, f4⟩ := h.far j hj (by omega) g hg
    have hgl := ((h.own j hj (by omega)).lt g hg).2
    refine ⟨f1, fun e => ?_, f3, fun i hi e => ?_⟩
    · rcases h3 with h3 | h3
      · exact f2 (h3.symm.trans e)
      · have := h3 g e; omega
    · by_cases hik : i = k
      · subst hik
        rw [hpk] at e
        rcases hxb with e1 | e1
        · exact f3 i hk (by omega) (e1.symm.trans e)
        · have := e1 g e; omega
      · rw [hput i (by omega)] at e
        exact f4 i (by omega) e
  · rcases h3 with h3 | h3
    · rw [h3] at hg
      obtain ⟨f1, f2, f3⟩ := h.mfar g hg
      refine ⟨f1, f2, fun i hi e => ?_⟩
      by_cases hik : i = k
      · subst hik
        rw [hpk] at e
        exact xm g e hg.symm
      · rw [hput i (by omega)] at e
        exact f3 i (by omega) e
    · have hge := h3 g hg
      refine ⟨by omega, fun i hi e => by have := lst_lt (h.lst i hi) e; omega, fun i hi e => ?_⟩
      by_cases hik : i = k
      · subst hik
        rw [hpk] at e
        have := xlt g e
        omega
      · rw [hput i (by omega)] at e
        have := h.xlt i g (by omega) e
        omega
  · rw [World.cell?_of_block (a := ⟨bl, j, none⟩) (keep bl hlt (fun e => ?_) (fun e => ?_))]
    · exact h.cell j hj
    · exact (hVk bl e.symm).1 rfl
    · exact (h.mfar bl e.symm).1 rfl
  · by_cases hik : i = k
    · subst hik
      rw [hpk] at hg
      have := xlt g hg
      omega
    · rw [hput i (by omega)] at hg
      have := h.xlt i g (by omega) hg
      omega
end Go.Proofs.YtmhbpelbkeclpaaGreatDoor
