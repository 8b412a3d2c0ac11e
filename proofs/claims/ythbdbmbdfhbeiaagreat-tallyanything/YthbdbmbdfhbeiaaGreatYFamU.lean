import Derived.Test.YthbdbmbdfhbeiaaGreatYKn2U
import Derived.Laws.IdiomStrings
namespace Go.Proofs.YthbdbmbdfhbeiaaGreat
open Go.RowKit Go.Sort Go.Maps
attribute [local go_sem ↓] Go.wp_at_zero Go.wp_at_succ

theorem owns_kp {S : Nat → Prop} {w w' : World} {base : Nat} {e : TypeId} {size : Nat} {v : Value} {n : Nat} {xs : List Value} (h : Kp S w w') (ho : w.ownsRow base e size v n xs) (hS : ∀ k, v.ownBlock = some k → ¬ S k) : w'.ownsRow base e size v n xs := by
  obtain ⟨h1, h2⟩ := ho
  refine ⟨h1, ?_⟩
  rcases h2 with h2 | ⟨g, cap, cur, hv, hg, hh, r⟩
  · exact Or.inl h2
  · exact Or.inr ⟨g, cap, cur, hv, hg, by rw [h.block g (Array.getElem?_eq_some_iff.1 hh).1 (hS g (by rw [hv]; rfl))]; exact hh, r⟩
theorem owns_base {w : World} {b b' : Nat} {e : TypeId} {size : Nat} {v : Value} {n : Nat} {xs : List Value} (h : w.ownsRow b e size v n xs) (hb : b' ≤ b) : w.ownsRow b' e size v n xs := by
  obtain ⟨h1, h2⟩ := h
  refine ⟨h1, ?_⟩
  rcases h2 with h2 | ⟨g, cap, cur, hv, hg, r⟩
  · exact Or.inl h2
  · exact Or.inr ⟨g, cap, cur, hv, Nat.le_trans hb hg, r⟩
/-- Lists of the call's own, no two in one block. -/
structure Fam (W : World) (n : Nat) (V : Nat → Value) (C : Nat → List BS) : Prop where
  own : ∀ i, i < n → W.ownsRow 0 9 1 (V i) (C i).length ((C i).map sv)
  far : ∀ i j, i < n → j < n → i ≠ j → ∀ g, (V i).ownBlock = some g → (V j).ownBlock ≠ some g
theorem Fam.kp {S : Nat → Prop} {W W' : World} {n : Nat} {V : Nat → Value} {C : Nat → List BS} (h : Fam W n V C) (hk : Kp S W W') (hS : ∀ i, i < n → ∀ g, (V i).ownBlock = some g → ¬ S g) : Fam W' n V C :=
  ⟨fun i hi => owns_kp hk (h.own i hi) (hS i hi), h.far⟩
theorem Fam.below {W W' : World} {n : Nat} {V : Nat → Value} {C : Nat → List BS} (h : Fam W n V C) (hb : Below W.heap.size W W') : Fam W' n V C := h.kp (S := fun _ => False) (Kp.of_below hb) (fun _ _ _ _ h => h)

/-- A text of the bytes of these numbers. -/
def bts (ns : List Int) : ByteArray := ns.foldl (fun r n => r.push (UInt8.ofNat n.toNat)) ByteArray.empty
theorem fold_size : ∀ (ns : List Int) (r : ByteArray), (ns.foldl (fun r n => r.push (UInt8.ofNat n.toNat)) r).size = r.size + ns.length
  | [], r => by simp
  | n :: ns, r => by
    rw [List.foldl_cons, fold_size ns]
    have h : (r.push (UInt8.ofNat n.toNat)).size = r.size + 1 := Array.size_push ..
    rw [h, List.length_cons]
    omega
theorem bts_size (ns : List Int) : (bts ns).size = ns.length := by
  unfold bts
  rw [fold_size]
  have h : ByteArray.empty.size = 0 := rfl
  rw [h, Nat.zero_add]
theorem run_text (W : World) (ns : List Int) : (convert 80 9 (.slice (some ⟨W.heap.size, 0, none⟩) ns.length ns.length)).run Tryz.prog (W.alloc (.cells (ns.map (Value.int .u8)).toArray 5)) = .ok (.string (bts ns)) (W.alloc (.cells (ns.map (Value.int .u8)).toArray 5)) := by
  rw [run_convert_bytes_string _ _ _ _ _ _ _ Tryz.underlying80 Tryz.underlying5 Tryz.underlying9]
  refine run_bytesToString _ _ _ _ ns ?_
  have hl := run_loadCells_list (P := Tryz.prog) (W.alloc (.cells (ns.map (Value.int .u8)).toArray 5)) ⟨W.heap.size, 0, none⟩ (ns.map (Value.int .u8)) (World.news_of_block (heap_alloc_new _ _))
  simpa using hl
theorem run_text4 (W : World) (a b c d : Int) : (convert 80 9 (.slice (some ⟨W.heap.size, 0, none⟩) 4 4)).run Tryz.prog (W.alloc (.cells #[.int .u8 a, .int .u8 b, .int .u8 c, .int .u8 d] 5)) = .ok (.string (bts [a, b, c, d])) (W.alloc (.cells #[.int .u8 a, .int .u8 b, .int .u8 c, .int .u8 d] 5)) := run_text W [a, b, c, d]
theorem run_text2 (W : World) (a b : Int) : (convert 80 9 (.slice (some ⟨W.heap.size, 0, none⟩) 2 2)).run Tryz.prog (W.alloc (.cells #[.int .u8 a, .int .u8 b] 5)) = .ok (.string (bts [a, b])) (W.alloc (.cells #[.int .u8 a, .int .u8 b] 5)) := run_text W [a, b]

theorem run_text2d (W : World) (a b : Int) : (convert 80 9 (.slice (some ⟨W.heap.size, 0, none⟩) 2 2)).run Tryz.prog (W.alloc (.cells #[.int .u8 a, .int .u8 b] 5)).drew = .ok (.string (bts [a, b])) (W.alloc (.cells #[.int .u8 a, .int .u8 b] 5)).drew := run_text2 W.drew a b
/-- A list set at one place. -/
theorem owns_set1 {w : World} {e : TypeId} {g n cap k : Nat} {l : List BS} (x : BS) (h : w.ownsRow 0 e 1 (.slice (some ⟨g, 0, none⟩) n cap) n (l.map sv)) :
    (w.setCell ⟨g, k, none⟩ (.string x.1)).ownsRow 0 e 1 (.slice (some ⟨g, 0, none⟩) n cap) n ((l.set k x).map sv) ∧ Kp (fun q => q = g) w (w.setCell ⟨g, k, none⟩ (.string x.1)) := by
  obtain ⟨h1, ⟨h0, _⟩ | ⟨g', cap', cur, hv, hg, hh, h2, h3, h4, h5⟩⟩ := h
  · cases h0
  · cases hv
    have e1 := setCell_eq_setRow w g k _ _ _ (.string x.1) hh
    have hk1 : Kp (fun q => q = g) w (w.setCell ⟨g, k, none⟩ (.string x.1)) := by
      rw [e1]
      exact ⟨rfl, rfl, rfl, by simp [World.setRow], fun q _ hne => setRow_other _ g q _ (by omega)⟩
    refine ⟨⟨by simpa using h1, Or.inr ⟨g, cap, _, rfl, hg, by rw [e1]; exact setRow_heap _ g _ _ _ _ hh, h2, h3, ?_, ?_⟩⟩, hk1⟩
    · simp [h4]
    · rw [Nat.mul_one] at h5 ⊢
      rw [Array.toList_setIfInBounds, List.take_set, h5, List.map_set]

/-- The marks of list i. -/
def mk (i j : Nat) : BS := ⟨bts [255, (i : Int), (j : Int) % 256, (j : Int) / 256], by rw [bts_size]; unfold maxLen; simp⟩
def mke (i : Nat) : BS := ⟨bts [254, (i : Int)], by rw [bts_size]; unfold maxLen; simp⟩
def mks (i n : Nat) : List BS := (List.range n).map (mk i)
theorem mks_len (i n : Nat) : (mks i n).length = n := by simp [mks]
theorem mks_get {i n j : Nat} (h : j < n) : (mks i n)[j]? = some (mk i j) := by simp [mks, h]
theorem mks_succ (i n : Nat) : mks i (n + 1) = mks i n ++ [mk i n] := by simp [mks, List.range_succ]
/-- Behind k lists and i of the next one. -/
def stage (C : Nat → List BS) (k i j : Nat) : List BS := if j < k then mks j (C j).length else if j = k then mks k i ++ (C k).drop i else C j
theorem stage_len (C : Nat → List BS) (k i j : Nat) (hi : i ≤ (C k).length) : (stage C k i j).length = (C j).length := by
  unfold stage
  split
  · simp [mks_len]
  · split
    · rename_i h; subst h; simp [mks_len]; omega
    · rfl
theorem stage_zero (C : Nat → List BS) : stage C 0 0 = C := by
  funext j
  unfold stage
  rw [if_neg (Nat.not_lt_zero _)]
  split
  · rename_i h; subst h; simp [mks]
  · rfl
theorem stage_next (C : Nat → List BS) (k : Nat) : stage C k (C k).length = stage C (k + 1) 0 := by
  funext j
  unfold stage
  by_cases h1 : j < k
  · rw [if_pos h1, if_pos (by omega)]
  · rw [if_neg h1]
    by_cases h2 : j = k
    · subst h2; rw [if_pos rfl, if_pos (by omega)]; simp
    · rw [if_neg h2, if_neg (by omega)]
      split
      · rename_i h; subst h; simp [mks]
      · rfl
theorem stage_step (C : Nat → List BS) (k i : Nat) (hi : i < (C k).length) (j : Nat) : stage C k (i + 1) j = if j = k then (stage C k i k).set i (mk k i) else stage C k i j := by
  unfold stage
  by_cases h1 : j < k
  · rw [if_pos h1, if_neg (by omega), if_pos h1]
  · rw [if_neg h1]
    by_cases h2 : j = k
    · rw [if_pos h2, if_pos h2, if_neg (Nat.lt_irrefl _), if_pos rfl]
      have hd : (C k).drop i = (C k)[i] :: (C k).drop (i + 1) := List.drop_eq_getElem_cons hi
      rw [hd, List.set_append_right _ _ (by rw [mks_len]; exact Nat.le_refl _), mks_len, Nat.sub_self, List.set_cons_zero, mks_succ, List.append_assoc]
      rfl
    · rw [if_neg h2, if_neg h2, if_neg h1, if_neg h2]
theorem fam_set {W : World} {n k g len cap i : Nat} {V : Nat → Value} {D D' : Nat → List BS} (h : Fam W n V D) (hk : k < n) (hV : V k = .slice (some ⟨g, 0, none⟩) len cap) (hl : (D k).length = len) (x : BS) (hD : ∀ j, D' j = if j = k then (D k).set i x else D j) :
    Fam (W.setCell ⟨g, i, none⟩ (.string x.1)) n V D' ∧ Kp (fun q => (V k).ownBlock = some q) W (W.setCell ⟨g, i, none⟩ (.string x.1)) := by
  have ho := h.own k hk
  rw [hV, hl] at ho
  obtain ⟨h1, h2⟩ := owns_set1 (k := i) x ho
  have hkk : Kp (fun q => (V k).ownBlock = some q) W (W.setCell ⟨g, i, none⟩ (.string x.1)) :=
    ⟨h2.os, h2.tape, h2.output, h2.size, fun q hq hn => h2.block q hq (fun e => hn (by rw [hV, e]; rfl))⟩
  refine ⟨⟨fun j hj => ?_, h.far⟩, hkk⟩
  rw [hD j]
  by_cases hjk : j = k
  · subst hjk
    rw [if_pos rfl, hV, List.length_set, hl]
    exact h1
  · rw [if_neg hjk]
    exact owns_kp hkk (h.own j hj) (fun q hq e => h.far j k hj hk hjk q hq e)
end Go.Proofs.YthbdbmbdfhbeiaaGreat
