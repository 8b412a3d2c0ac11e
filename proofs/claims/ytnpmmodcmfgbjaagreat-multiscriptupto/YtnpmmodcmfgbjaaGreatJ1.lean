import Derived.WalkKit
import Derived.WalkSpells
import Derived.Sort.Grow
import Derived.Deep.Draws
import Derived.Laws.CopyOwn
import Derived.Deep.AppendLies
import Derived.Laws.AppendOwnNone
import Derived.Maps.OwnOps
import Derived.Maps.OwnSet
import Derived.Maps.RangeWalk
import Derived.Maps.Ext
import Derived.Test.YtnpmmodcmfgbjaaGreatRows
namespace Go.Proofs.YtnpmmodcmfgbjaaGreat
open Go.RowKit Go.Sort

/-- Draws, and new blocks behind the heap: nothing else. -/
def Gr (w v : World) : Prop := ∃ q os, v = grow (w.drewN q) os
theorem Gr.refl (w : World) : Gr w w := ⟨0, #[], by rw [grow_empty]; rfl⟩
theorem Gr.alloc {w v : World} (h : Gr w v) (o : Obj) : Gr w (v.alloc o) := by
  obtain ⟨q, os, rfl⟩ := h
  exact ⟨q, os ++ #[o], by rw [alloc_eq_grow, grow_grow]⟩
theorem Gr.drew {w v : World} (h : Gr w v) : Gr w v.drew := by
  obtain ⟨q, os, rfl⟩ := h
  exact ⟨q + 1, os, rfl⟩
theorem Gr.drewN {w v : World} (h : Gr w v) (n : Nat) : Gr w (v.drewN n) := by
  obtain ⟨q, os, rfl⟩ := h
  exact ⟨q + n, os, by simp only [World.drewN, grow, Nat.add_assoc]⟩
theorem Gr.grown {w v : World} (h : Gr w v) (os : Array Obj) : Gr w (grow v os) := by
  obtain ⟨q, os', rfl⟩ := h
  exact ⟨q, os' ++ os, by rw [grow_grow]⟩
theorem Gr.trans {u v w : World} (h : Gr u v) (k : Gr v w) : Gr u w := by
  obtain ⟨q, os, rfl⟩ := k
  exact (h.drewN q).grown os
theorem Gr.below {w v : World} (h : Gr w v) : Below w.heap.size w v := by
  obtain ⟨q, os, rfl⟩ := h
  exact ⟨rfl, rfl, rfl, by simp [World.drewN], fun k hk => heap_grow_old (w.drewN q) os hk⟩
theorem Gr.size {w v : World} (h : Gr w v) : w.heap.size ≤ v.heap.size := h.below.size
theorem Gr.cell {w v : World} (h : Gr w v) {b o : Nat} (hb : b < w.heap.size) : v.cell? ⟨b, o, none⟩ = w.cell? ⟨b, o, none⟩ := h.below.cell (p := ⟨b, o, none⟩) hb
theorem Gr.frozen {w v : World} (h : Gr w v) {b o : Nat} (hb : b < w.heap.size) : v.frozen? ⟨b, o, none⟩ = w.frozen? ⟨b, o, none⟩ := h.below.frozen (p := ⟨b, o, none⟩) hb
/-- All old cells and marks, as two rules for the walk. -/
theorem Gr.cells {w v : World} (h : Gr w v) : (∀ b o, b < w.heap.size → v.cell? ⟨b, o, none⟩ = w.cell? ⟨b, o, none⟩) ∧ (∀ b o, b < w.heap.size → v.frozen? ⟨b, o, none⟩ = w.frozen? ⟨b, o, none⟩) :=
  ⟨fun _ _ hb => h.cell hb, fun _ _ hb => h.frozen hb⟩
theorem below_cells {W w1 : World} (hb : Below W.heap.size W w1) : (∀ b o, b < W.heap.size → w1.cell? ⟨b, o, none⟩ = W.cell? ⟨b, o, none⟩) ∧ (∀ b o, b < W.heap.size → w1.frozen? ⟨b, o, none⟩ = W.frozen? ⟨b, o, none⟩) :=
  ⟨fun b o h => hb.cell (p := ⟨b, o, none⟩) h, fun b o h => hb.frozen (p := ⟨b, o, none⟩) h⟩
/-- A time's three numbers as a value. -/
abbrev tm (a b c : Int) : Value := .agg #[.int .u64 a, .int .u64 b, .int .u64 c]
end Go.Proofs.YtnpmmodcmfgbjaaGreat

namespace Go.Proofs.YtnpmmodcmfgbjaaGreat
open Go.RowKit Go.Sort

/-- A type of elements: the cells of one. -/
structure El (α : Type) where
  k : Nat
  enc : α → List Value
  len : ∀ x, (enc x).length = k
  one : ∀ x, ∀ u ∈ enc x, u.oneCell' = true
section
variable {α : Type} (E : El α)
/-- The cells of a list, one behind the other. -/
def fl (l : List α) : List Value := l.flatMap E.enc
theorem fl_nil : fl E [] = [] := rfl
theorem fl_cons (t : α) (ts : List α) : fl E (t :: ts) = E.enc t ++ fl E ts := rfl
theorem fl_append (a b : List α) : fl E (a ++ b) = fl E a ++ fl E b := by simp [fl]
theorem fl_one (t : α) : fl E [t] = E.enc t := by simp [fl]
theorem fl_length (ts : List α) : (fl E ts).length = ts.length * E.k := by
  induction ts with
  | nil => simp [fl]
  | cons t ts ih => rw [fl_cons, List.length_append, ih, E.len, List.length_cons, Nat.succ_mul, Nat.add_comm]
theorem fl_get (ts : List α) (j i : Nat) (t : α) (h : ts[j]? = some t) (hi : i < E.k) : (fl E ts)[j * E.k + i]? = (E.enc t)[i]? := by
  induction ts generalizing j with
  | nil => simp at h
  | cons s ts ih =>
    rw [fl_cons]
    cases j with
    | zero =>
      simp at h; subst h
      rw [Nat.zero_mul, Nat.zero_add, List.getElem?_append_left (by rw [E.len]; exact hi)]
    | succ j =>
      have e : (j + 1) * E.k + i = E.k + (j * E.k + i) := by rw [Nat.succ_mul]; omega
      rw [e, List.getElem?_append_right (by rw [E.len]; omega), E.len, Nat.add_sub_cancel_left]
      exact ih j (by simpa using h)
theorem fl_oneCell (ts : List α) : ∀ u ∈ fl E ts, u.oneCell' = true := by
  intro u hu
  simp only [fl, List.mem_flatMap] at hu
  obtain ⟨t, _, hu⟩ := hu
  exact E.one t u hu
theorem fl_take (l : List α) (n : Nat) : (fl E l).take (n * E.k) = fl E (l.take n) := by
  induction l generalizing n with
  | nil => simp [fl]
  | cons x l ih =>
    cases n with
    | zero => simp [fl]
    | succ n =>
      rw [fl_cons, List.take_succ_cons, fl_cons, Nat.succ_mul, List.take_append, List.take_of_length_le (by rw [E.len]; omega), E.len, Nat.add_sub_cancel, ih n]
theorem fl_drop (l : List α) (n : Nat) : (fl E l).drop (n * E.k) = fl E (l.drop n) := by
  induction l generalizing n with
  | nil => simp [fl]
  | cons x l ih =>
    cases n with
    | zero => simp [fl]
    | succ n =>
      rw [fl_cons, List.drop_succ_cons, Nat.succ_mul, List.drop_append, List.drop_of_length_le (by rw [E.len]; omega), E.len, Nat.add_sub_cancel, ih n, List.nil_append]
/-- One element is set anew. -/
theorem fl_set (L : List α) (n : Nat) (x : α) (hn : n < L.length) : (fl E L).take (n * E.k) ++ E.enc x ++ (fl E L).drop ((n + 1) * E.k) = fl E (L.set n x) := by
  rw [fl_take, fl_drop]
  induction L generalizing n with
  | nil => simp at hn
  | cons y L ih =>
    cases n with
    | zero => simp [fl]
    | succ n =>
      have h := ih n (by simpa using hn)
      rw [List.take_succ_cons, List.drop_succ_cons, List.set_cons_succ, fl_cons, fl_cons, ← h]
      simp

/-- The elements lie there. -/
def Lies (w : World) (b off : Nat) (ts : List α) : Prop := ∀ j u, (fl E ts)[j]? = some u → w.cell? ⟨b, off + j, none⟩ = some u
/-- A slice value that reads as these elements. -/
def Ls (w : World) (v : Value) (ts : List α) : Prop :=
  (ts = [] ∧ v = .slice none 0 0) ∨ ∃ b off c, v = .slice (some ⟨b, off, none⟩) ts.length c ∧ b < w.heap.size ∧ Lies E w b off ts
variable {E}
theorem Ls.kept {w w' : World} {v : Value} {ts : List α} (h : Ls E w v ts) (hs : w.heap.size ≤ w'.heap.size) (hb : ∀ g, v.ownBlock = some g → w'.heap[g]? = w.heap[g]?) : Ls E w' v ts := by
  rcases h with h | ⟨b, off, c, hv, hbs, ht⟩
  · exact Or.inl h
  · refine Or.inr ⟨b, off, c, hv, Nat.lt_of_lt_of_le hbs hs, fun j u hj => ?_⟩
    have := hb b (by rw [hv]; rfl)
    rw [World.cell?_of_block (a := ⟨b, off + j, none⟩) this]
    exact ht j u hj
theorem Ls.blk {w : World} {v : Value} {ts : List α} (h : Ls E w v ts) : ∀ g, v.ownBlock = some g → g < w.heap.size := by
  intro g hg
  rcases h with ⟨_, rfl⟩ | ⟨b, off, c, rfl, hbs, _⟩
  · simp [Value.ownBlock] at hg
  · simp [Value.ownBlock] at hg; omega
theorem Ls.below {w w' : World} {v : Value} {ts : List α} (h : Ls E w v ts) (hb : Below w.heap.size w w') : Ls E w' v ts :=
  h.kept hb.size fun g hg => hb.block g (h.blk g hg)
theorem Ls.nil (w : World) : Ls E w (.slice none 0 0) [] := Or.inl ⟨rfl, rfl⟩
theorem Ls.form {w : World} {v : Value} {ts : List α} (h : Ls E w v ts) : ∃ p c, v = .slice p ts.length c := by
  rcases h with ⟨rfl, rfl⟩ | ⟨b, off, c, hv, _, _⟩
  · exact ⟨_, _, rfl⟩
  · exact ⟨_, _, hv⟩
/-- The cells of the element at j. -/
theorem Ls.get {w : World} {v : Value} {ts : List α} (h : Ls E w v ts) {j : Nat} {t : α} (hj : ts[j]? = some t) :
    ∃ b off c, v = .slice (some ⟨b, off, none⟩) ts.length c ∧ b < w.heap.size ∧ ∀ i u, i < E.k → (E.enc t)[i]? = some u → w.cell? ⟨b, off + j * E.k + i, none⟩ = some u := by
  rcases h with ⟨rfl, _⟩ | ⟨b, off, c, hv, hb, ht⟩
  · simp at hj
  · exact ⟨b, off, c, hv, hb, fun i u hi hu => by rw [Nat.add_assoc]; exact ht _ _ ((fl_get E ts j i t hj hi).trans hu)⟩
theorem addA (b off i : Nat) : (⟨b, off, none⟩ : Addr).add i = ⟨b, off + i, none⟩ := by unfold Addr.add; split <;> simp_all
theorem owns_ls {w : World} {base : Nat} {e : TypeId} {v : Value} {ts : List α} (h : w.ownsRow base e E.k v ts.length (fl E ts)) : Ls E w v ts := by
  rcases h.2 with ⟨hv, h0⟩ | ⟨g, cap, cur, hv, hg, hh, _, _, _, htake⟩
  · exact Or.inl ⟨List.eq_nil_of_length_eq_zero h0, hv⟩
  · refine Or.inr ⟨g, 0, cap, hv, (Array.getElem?_eq_some_iff.1 hh).1, fun j u hj => ?_⟩
    have := h.cells (g := g) (by rw [hv]; rfl) j u hj
    rw [addA] at this
    exact this
/-- The beginning and the end of a list. -/
theorem Ls.cut {w : World} {b off n c k : Nat} {l : List α} (h : Ls E w (.slice (some ⟨b, off, none⟩) n c) l) (hk : k ≤ l.length) (c2 : Nat) : Ls E w (.slice (some ⟨b, off, none⟩) k c2) (l.take k) := by
  rcases h with ⟨_, h⟩ | ⟨b', off', c', hv, hb, ht⟩
  · cases h
  · cases hv
    refine Or.inr ⟨b, off, c2, by rw [List.length_take, Nat.min_eq_left hk], hb, fun j u hj => ht j u ?_⟩
    rw [← fl_take, List.getElem?_take] at hj
    split at hj
    · exact hj
    · cases hj
theorem Ls.tail {w : World} {b off n c k : Nat} {l : List α} (h : Ls E w (.slice (some ⟨b, off, none⟩) n c) l) (c2 : Nat) : Ls E w (.slice (some ⟨b, off + k * E.k, none⟩) (l.length - k) c2) (l.drop k) := by
  rcases h with ⟨_, h⟩ | ⟨b', off', c', hv, hb, ht⟩
  · cases h
  · cases hv
    refine Or.inr ⟨b, off + k * E.k, c2, by rw [List.length_drop], hb, fun j u hj => ?_⟩
    rw [← fl_drop, List.getElem?_drop] at hj
    rw [Nat.add_assoc]
    exact ht _ u hj
theorem Ls.void {w : World} {b off n c k : Nat} {l : List α} (h : Ls E w (.slice (some ⟨b, off, none⟩) n c) l) (hk : l.length ≤ k) (c2 : Nat) : Ls E w (.slice (some ⟨b, off, none⟩) (l.length - k) c2) (l.drop k) := by
  rcases h with ⟨_, h⟩ | ⟨b', off', c', hv, hb, ht⟩
  · cases h
  · cases hv
    refine Or.inr ⟨b, off, c2, by rw [List.length_drop], hb, fun j u hj => ?_⟩
    rw [List.drop_of_length_le hk] at hj
    simp [fl] at hj
end

/-- All blocks but those of S are as they were. -/
structure Kp (S : Nat → Prop) (w w' : World) : Prop where
  os : w'.os = w.os
  tape : w'.tape = w.tape
  output : w'.output = w.output
  size : w.heap.size ≤ w'.heap.size
  block : ∀ k, k < w.heap.size → ¬ S k → w'.heap[k]? = w.heap[k]?
theorem Kp.refl (S : Nat → Prop) (w : World) : Kp S w w := ⟨rfl, rfl, rfl, Nat.le_refl _, fun _ _ _ => rfl⟩
theorem Kp.trans {S T : Nat → Prop} {a b c : World} (h : Kp S a b) (k : Kp T b c) (hT : ∀ j, j < a.heap.size → T j → S j) : Kp S a c :=
  ⟨k.os.trans h.os, k.tape.trans h.tape, k.output.trans h.output, Nat.le_trans h.size k.size, fun i hi hS => (k.block i (Nat.lt_of_lt_of_le hi h.size) (fun ht => hS (hT i hi ht))).trans (h.block i hi hS)⟩
theorem Kp.of_below {S : Nat → Prop} {w w' : World} (h : Below w.heap.size w w') : Kp S w w' := ⟨h.os, h.tape, h.output, h.size, fun k hk _ => h.block k hk⟩
theorem Kp.of_gr {S : Nat → Prop} {w w' : World} (h : Gr w w') : Kp S w w' := Kp.of_below h.below
theorem Kp.mono {S T : Nat → Prop} {w w' : World} (h : Kp S w w') (hT : ∀ k, S k → T k) : Kp T w w' := ⟨h.os, h.tape, h.output, h.size, fun k hk ht => h.block k hk (fun hs => ht (hT k hs))⟩
theorem Kp.below {S : Nat → Prop} {B : Nat} {w w' : World} (h : Kp S w w') (hB : B ≤ w.heap.size) (hS : ∀ k, S k → B ≤ k) : Below B w w' :=
  ⟨h.os, h.tape, h.output, h.size, fun k hk => h.block k (Nat.lt_of_lt_of_le hk hB) (fun hs => absurd (hS k hs) (Nat.not_le.2 hk))⟩
theorem Kp.grownBy {S : Nat → Prop} {w w' : World} {r : Option Nat} (h : w.grownBy w' r) (hS : ∀ k, r = some k → S k) : Kp S w w' :=
  ⟨h.os, h.tape, h.output, h.size, fun k hk hs => h.block k hk (fun e => hs (hS k e.symm))⟩
theorem Kp.ls {α : Type} {E : El α} {S : Nat → Prop} {w w' : World} {v : Value} {l : List α} (h : Kp S w w') (hv : Ls E w v l) (hS : ∀ k, v.ownBlock = some k → ¬ S k) : Ls E w' v l :=
  hv.kept h.size fun g hg => h.block g (hv.blk g hg) (hS g hg)
theorem Kp.cell {S : Nat → Prop} {w w' : World} (h : Kp S w w') {b o : Nat} (hb : b < w.heap.size) (hS : ¬ S b) : w'.cell? ⟨b, o, none⟩ = w.cell? ⟨b, o, none⟩ :=
  World.cell?_of_block (a := ⟨b, o, none⟩) (h.block b hb hS)
theorem owns_kp {S : Nat → Prop} {w w' : World} {base : Nat} {e : TypeId} {size : Nat} {v : Value} {n : Nat} {xs : List Value} (h : Kp S w w') (ho : w.ownsRow base e size v n xs) (hS : ∀ k, v.ownBlock = some k → ¬ S k) : w'.ownsRow base e size v n xs := by
  obtain ⟨h1, h2⟩ := ho
  refine ⟨h1, ?_⟩
  rcases h2 with h2 | ⟨g, cap, cur, hv, hg, hh, r⟩
  · exact Or.inl h2
  · exact Or.inr ⟨g, cap, cur, hv, hg, by rw [h.block g (Array.getElem?_eq_some_iff.1 hh).1 (hS g (by rw [hv]; rfl))]; exact hh, r⟩
theorem owns_below {w w' : World} {base : Nat} {e : TypeId} {size : Nat} {v : Value} {n : Nat} {xs : List Value} (h : w.ownsRow base e size v n xs) (hb : Below w.heap.size w w') : w'.ownsRow base e size v n xs :=
  owns_kp (S := fun _ => False) (Kp.of_below hb) h fun _ _ hf => hf
theorem owns_base {w : World} {b b' : Nat} {e : TypeId} {size : Nat} {v : Value} {n : Nat} {xs : List Value} (h : w.ownsRow b e size v n xs) (hb : b' ≤ b) : w.ownsRow b' e size v n xs := by
  obtain ⟨h1, h2⟩ := h
  refine ⟨h1, ?_⟩
  rcases h2 with h2 | ⟨g, cap, cur, hv, hg, r⟩
  · exact Or.inl h2
  · exact Or.inr ⟨g, cap, cur, hv, Nat.le_trans hb hg, r⟩
theorem owns_re {w : World} {base : Nat} {e : TypeId} {s : Nat} {v : Value} {n n' : Nat} {xs xs' : List Value} (h : w.ownsRow base e s v n xs) (hn : n = n') (hx : xs = xs') : w.ownsRow base e s v n' xs' := by
  subst hn; subst hx; exact h
/-- An owned row's capacity. -/
theorem owns_cap {w : World} {base : Nat} {e : TypeId} {size : Nat} {p : Option Addr} {n n' cap : Nat} {xs : List Value} (h : w.ownsRow base e size (.slice p n' cap) n xs) : n ≤ cap ∧ cap ≤ maxLen := by
  obtain ⟨_, ⟨h0, h1⟩ | ⟨g', cap', cur, hv, _, _, hn, hm, _⟩⟩ := h
  · cases h0; subst h1; exact ⟨Nat.le_refl _, Nat.zero_le _⟩
  · cases hv; exact ⟨hn, hm⟩
theorem info_parts {P : Program} {t : TypeId} {z : Value} {s b : Nat} (h : (P.info? t).map (fun i => (i.zero, i.size, i.bytes)) = some (some z, s, b)) : ∃ i, P.info? t = some i ∧ i.zero = some z ∧ i.size = s ∧ i.bytes = b := by
  cases hq : P.info? t with
  | none => simp [hq] at h
  | some i =>
    simp [hq] at h
    exact ⟨i, rfl, h.1, h.2.1, h.2.2⟩
theorem heap_new' (w : World) (o : Obj) : (w.alloc o).heap[w.heap.size]? = some o := by
  rw [show (w.alloc o).heap = w.heap.push o from rfl]
  simp

section
variable {P : Program} {α : Type} (E : El α) {w : World} {ops : Array Oper} {rest : List Oper} {o : Oper} {a : Act} {Q : Exit → Act → World → Prop}
/-- 'append(own, x)': x lies in the newest block. -/
theorem wpApp1 {e sT : TypeId} {z : Value} {bt : Nat} (hu : P.underlying sT = some (.slice e)) (hI : (P.info? e).map (fun i => (i.zero, i.size, i.bytes)) = some (some z, E.k, bt)) (hz : z.cells.size = E.k) (hk : 0 < E.k)
    (hgd : o.guard = none) (s x : Operand) (ho : o.op = .call { callee := .builtin .append, args := #[s, x], argTypes := #[sT, sT] })
    (base : Nat) (v : Value) (n : Nat) (xs : List Value) (hs : a.eval s = v) (hown : w.ownsRow base e E.k v n xs)
    (t : α) (hx : a.eval x = .slice (some ⟨w.heap.size, 0, none⟩) 1 1) (hbig : (n + 1) * bt ≤ 140737488355328) (hmx : n + 1 ≤ maxLen) (hbase : base ≤ w.heap.size)
    (cs : Array Value) (hcs : cs.toList = E.enc t) (te : TypeId)
    (h : ∀ g cap w', w'.ownsRow base e E.k (.slice (some ⟨g, 0, none⟩) (n + 1) cap) (n + 1) (xs ++ E.enc t) → w.grownBy w' v.ownBlock → (v.ownBlock = some g ∨ w.heap.size ≤ g) → wpList P ops Q rest (a.put o.dst (.slice (some ⟨g, 0, none⟩) (n + 1) cap)) w') :
    wpList P ops Q (o :: rest) a (w.alloc (.cells cs te)) := by
  obtain ⟨i0, hi, hz0, hz1, hz2⟩ := info_parts hI
  refine wpList_append_lies _ hgd s x _ ho base e i0 _ E.k bt hu hi hz0 hz1 hz2 hz hk v n xs hs (hown.alloc _) ⟨w.heap.size, 0, none⟩ 1 1 (E.enc t) hx (by rw [E.len, Nat.one_mul]) (by have := World.news_of_block (heap_new' w (.cells cs te)); rw [hcs] at this; exact this) (E.one t) (by decide) hmx hbig (by simp; omega) _ rfl ?_
  intro g cap w' h1 h2 h3 _
  refine h g cap w' h1 ⟨h2.os, h2.tape, h2.output, Nat.le_trans (by simp) h2.size, fun k hk hne => (h2.block k (by simp; omega) hne).trans ((World.grownBy_alloc w _ none).block k hk (by simp))⟩ ?_
  rcases h3 with h3 | h3
  · exact Or.inl h3
  · right; rw [h3]; simp
/-- 'append(own, l...)'. -/
theorem wpAppL {e sT : TypeId} {z : Value} {bt : Nat} (hu : P.underlying sT = some (.slice e)) (hI : (P.info? e).map (fun i => (i.zero, i.size, i.bytes)) = some (some z, E.k, bt)) (hz : z.cells.size = E.k) (hk : 0 < E.k)
    (hgd : o.guard = none) (s x : Operand) (ho : o.op = .call { callee := .builtin .append, args := #[s, x], argTypes := #[sT, sT] })
    (base : Nat) (v : Value) (n : Nat) (xs : List Value) (hs : a.eval s = v) (hown : w.ownsRow base e E.k v n xs)
    (v1 : Value) (ts : List α) (hx : a.eval x = v1) (hv : Ls E w v1 ts) (hbig : (n + ts.length) * bt ≤ 140737488355328) (hmx : n + ts.length ≤ maxLen) (hbase : base ≤ w.heap.size)
    (h : ∀ v' w', w'.ownsRow base e E.k v' (n + ts.length) (xs ++ fl E ts) → w.grownBy w' v.ownBlock → wpList P ops Q rest (a.put o.dst v') w') : wpList P ops Q (o :: rest) a w := by
  obtain ⟨i0, hi, hz0, hz1, hz2⟩ := info_parts hI
  rcases hv with ⟨rfl, rfl⟩ | ⟨b, off, c, rfl, hb, ht⟩
  · refine wpList_append_own_none hgd s x _ ho base e i0 E.k hu hi v n xs hs hown hx ?_
    exact h v w (by rw [fl_nil, List.append_nil]; exact hown) ⟨rfl, rfl, rfl, Nat.le_refl _, fun _ _ _ => rfl⟩
  · refine wpList_append_own _ hgd s x _ ho base e i0 _ E.k bt hu hi hz0 hz1 hz2 hz hk v n xs hs hown ⟨b, off, none⟩ ts.length c (fl E ts) hx (fl_length E ts) (fun j u hj => by rw [addA]; exact ht j u hj) (fl_oneCell E ts) hmx hbig hbase ?_
    intro v' w' h1 h2 _
    exact h v' w' h1 h2
end

/-- 'copy' within rows of elements of several cells. -/
theorem run_copy_rowK {P : Program} (w : World) (dT sT ty elem : TypeId) (s g o dLen dCap : Nat) (a : Addr) (sLen sCap : Nat) (cur : Array Value) (t : TypeId) (cs : List Value)
    (hu : P.underlying dT = some (.slice elem)) (hs : (P.info? elem).map (·.size) = some s)
    (hg : w.heap[g]? = some (.cells cur t (0, 0))) (hn : cs.length = Nat.min sLen dLen * s)
    (hsrc : ∀ j v, cs[j]? = some v → w.cell? (a.add j) = some v) (hfit : o + cs.length ≤ cur.size) (h1 : ∀ v ∈ cs, v.oneCell' = true) :
    (Builtin.copy_ #[dT, sT] ty #[.slice (some ⟨g, o, none⟩) dLen dCap, .slice (some a) sLen sCap]).run P w =
      .ok (goInt (Nat.min sLen dLen)) (w.setRow g (cur.toList.take o ++ cs ++ cur.toList.drop (o + cs.length)).toArray) := by
  have hl := run_loadCells_list (P := P) w a cs hsrc
  have hst := run_storeCells_at P g o t cs 0 cur w hg (by simpa using hfit) h1
  cases hq : P.info? elem with
  | none => simp [hq] at hs
  | some i =>
    have hi : i.size = s := by simpa [hq] using hs
    simp [Builtin.copy_, run_underlying hu, Builtin.lenOf, Builtin.firstCells, sizeOf, typeInfo, hq, hi, ← hn, hl, hst]
end Go.Proofs.YtnpmmodcmfgbjaaGreat

namespace Go.Proofs.YtnpmmodcmfgbjaaGreat
open Go.RowKit Go.Sort Go.Maps

/-- A type of keys: how one lies in a slot, what it reads as. -/
structure KK (P : Program) (k : TypeId) (K : Type) where
  enc : K → Value
  lit : K → Lit
  law : Keyed P k
  key : ∀ s, keyOf P k (enc s) = some (lit s)
  inv : ∀ v l, keyOf P k v = some l → ∃ s, v = enc s ∧ l = lit s
  inj : ∀ s t, lit s = lit t → s = t

/-- A number as a map's element. -/
abbrev nd (n : Int) : DataW Unit := .lit (.int .i64 n)

section
variable {P : Program} {k e : TypeId} {K : Type} [DecidableEq K]
omit [DecidableEq K] in
theorem KK.isKey (Z : KK P k K) (s : K) : WideAt.IsKeyLit (Z.lit s) := Z.law.key (Z.key s)
theorem KK.same (Z : KK P k K) (s t : K) : (Z.lit s).sameKey (Z.lit t) = decide (s = t) := by
  have h := WideAt.sameKey_iff (a := Z.lit s) (Z.isKey t)
  by_cases e : s = t
  · subst e; rw [decide_eq_true rfl]; exact h.2 rfl
  · rw [decide_eq_false e]
    cases hq : (Z.lit s).sameKey (Z.lit t) with
    | false => rfl
    | true => exact absurd (Z.inj _ _ (h.1 hq)) e

/-- The counts with one of them set. -/
def upd (f : K → Int) (s : K) (v : Int) : K → Int := fun t => if t = s then v else f t
omit [DecidableEq K] in
theorem upd_same [DecidableEq K] (f : K → Int) (s : K) (v : Int) : upd f s v s = v := by simp [upd]
omit [DecidableEq K] in
theorem upd_other [DecidableEq K] (f : K → Int) {s t : K} (v : Int) (h : t ≠ s) : upd f s v t = f t := by simp [upd, h]

/-- Block b is a map of at most n entries: the counts f, none of them 0 there. -/
def Ta (Z : KK P k K) (e : TypeId) (w : World) (b n : Nat) (f : K → Int) : Prop :=
  ∃ D : DataW Unit, w.ownsMap P k (plainElem P e) b n D ∧ (∀ s, D.atKey (Z.lit s) (nd 0) = nd (f s)) ∧ ∀ s, Maps.has D (Z.lit s) = decide (f s ≠ 0)
/-- The keys that are in. -/
def Sup (f : K → Int) (ks : List K) : Prop := ks.Nodup ∧ ∀ s, s ∈ ks ↔ f s ≠ 0

variable {Z : KK P k K} {w w' : World} {b n : Nat} {f : K → Int} {D : DataW Unit}
omit [DecidableEq K] in
theorem Ta.lt (h : Ta Z e w b n f) : b < w.heap.size := by obtain ⟨D, h, _⟩ := h; exact h.lt
omit [DecidableEq K] in
theorem Ta.mono (h : Ta Z e w b n f) {m : Nat} (hm : n ≤ m) : Ta Z e w b m f := by obtain ⟨D, h1, h2⟩ := h; exact ⟨D, h1.mono hm, h2⟩
omit [DecidableEq K] in
theorem Ta.kept (h : Ta Z e w b n f) (hb : w'.heap[b]? = w.heap[b]?) : Ta Z e w' b n f := by
  obtain ⟨D, ⟨es, clock, h1, h2⟩, h3⟩ := h
  exact ⟨D, ⟨es, clock, hb.trans h1, h2⟩, h3⟩
omit [DecidableEq K] in
theorem Ta.made (w : World) : Ta Z e (w.alloc (.map #[] 0)) w.heap.size 0 fun _ => 0 :=
  ⟨.map [], World.ownsMap_made _ _ _ _, fun _ => rfl, fun _ => rfl⟩
theorem put_tied (hD : IsMap D) (h1 : ∀ s, D.atKey (Z.lit s) (nd 0) = nd (f s)) (h2 : ∀ s, Maps.has D (Z.lit s) = decide (f s ≠ 0)) (s : K) (v : Int) (hv : v ≠ 0) :
    (∀ t, (D.put (Z.lit s) (nd v)).atKey (Z.lit t) (nd 0) = nd (upd f s v t)) ∧ ∀ t, Maps.has (D.put (Z.lit s) (nd v)) (Z.lit t) = decide (upd f s v t ≠ 0) := by
  refine ⟨fun t => ?_, fun t => ?_⟩
  · by_cases ht : t = s
    · subst ht; rw [upd_same]; exact atKey_put_same hD (Z.isKey t) _ _
    · rw [upd_other _ _ ht, atKey_put_other (fun e => ht (Z.inj _ _ e))]; exact h1 t
  · by_cases ht : t = s
    · subst ht; rw [upd_same, has_put_same hD (Z.isKey t)]; simp [hv]
    · rw [upd_other _ _ ht, has_put_other (fun e => ht (Z.inj _ _ e))]; exact h2 t
theorem del_tied (h1 : ∀ s, D.atKey (Z.lit s) (nd 0) = nd (f s)) (h2 : ∀ s, Maps.has D (Z.lit s) = decide (f s ≠ 0)) (s : K) :
    (∀ t, (D.del (Z.lit s)).atKey (Z.lit t) (nd 0) = nd (upd f s 0 t)) ∧ ∀ t, Maps.has (D.del (Z.lit s)) (Z.lit t) = decide (upd f s 0 t ≠ 0) := by
  refine ⟨fun t => ?_, fun t => ?_⟩
  · by_cases ht : t = s
    · subst ht; rw [upd_same]; exact atKey_del_same _
    · rw [upd_other _ _ ht, atKey_del_other (fun e => ht (Z.inj _ _ e))]; exact h1 t
  · by_cases ht : t = s
    · subst ht; rw [upd_same, has_del_same]; simp
    · rw [upd_other _ _ ht, has_del_other (fun e => ht (Z.inj _ _ e))]; exact h2 t

/-- What was met of a map that is gone through. -/
def Coll (Z : KK P k K) (D : DataW Unit) (left : Lit → Bool) (ss : List K) : Prop := ss.Nodup ∧ ∀ x, x ∈ ss ↔ (Maps.has D (Z.lit x) = true ∧ left (Z.lit x) = false)
omit [DecidableEq K] in
theorem Coll.start (D : DataW Unit) : Coll Z D (Maps.has D) [] := ⟨List.nodup_nil, fun x => by cases Maps.has D (Z.lit x) <;> simp⟩
theorem Coll.step {left : Lit → Bool} {ss : List K} (h : Coll Z D left ss) {x : K} {y : DataW Unit} (hlk : left (Z.lit x) = true) (hat : ∀ zd, D.atKey (Z.lit x) zd = y) : Coll Z D (fun z => left z && !z.sameKey (Z.lit x)) (ss ++ [x]) := by
  have hhas : Maps.has D (Z.lit x) = true := has_true_of_atKey hat
  have hnew : x ∉ ss := fun hx => by have := ((h.2 x).1 hx).2; rw [hlk] at this; cases this
  refine ⟨List.nodup_append.2 ⟨h.1, by simp, fun a ha b hb => by simp at hb; subst hb; exact fun e => hnew (e ▸ ha)⟩, fun y => ?_⟩
  by_cases hy : y = x
  · subst hy; simp [hhas, Z.same]
  · simp [h.2 y, hy, Z.same]
omit [DecidableEq K] in
/-- At the end: the keys that are in. -/
theorem Coll.sup {left : Lit → Bool} {ss : List K} (h : Coll Z D left ss) (h2 : ∀ s, Maps.has D (Z.lit s) = decide (f s ≠ 0)) (hl : ∀ kl, left kl = false) : Sup f ss :=
  ⟨h.1, fun s => by rw [h.2 s, hl, h2]; simp⟩

theorem length_le_of_sub {α : Type} [DecidableEq α] : ∀ {l m : List α}, l.Nodup → (∀ x ∈ l, x ∈ m) → l.length ≤ m.length
  | [], _, _, _ => Nat.zero_le _
  | a :: l, m, hn, hs => by
    have hn' := List.nodup_cons.1 hn
    have h := length_le_of_sub (l := l) (m := m.erase a) hn'.2 (fun x hx => (List.mem_erase_of_ne (fun (e : x = a) => hn'.1 (e ▸ hx))).2 (hs x (List.mem_cons_of_mem _ hx)))
    have h2 := List.length_erase_of_mem (hs a List.mem_cons_self)
    have h3 := List.length_pos_of_mem (hs a List.mem_cons_self)
    simp only [List.length_cons]
    omega
theorem Sup.le {ks ms : List K} (h : Sup f ks) (hs : ∀ s, f s ≠ 0 → s ∈ ms) : ks.length ≤ ms.length := length_le_of_sub h.1 fun x hx => hs x ((h.2 x).1 hx)
omit [DecidableEq K] in
theorem Sup.perm {ks ms : List K} (h : Sup f ks) (h2 : Sup f ms) : ks.Perm ms := (List.perm_ext_iff_of_nodup h.1 h2.1).2 fun x => (h.2 x).trans (h2.2 x).symm
omit [DecidableEq K] in
/-- The keys of the datum. -/
theorem owns_sup (h : w.ownsMap P k (plainElem P e) b n D) (h2 : ∀ s, Maps.has D (Z.lit s) = decide (f s ≠ 0)) : ∃ ks, Sup f ks ∧ ks.length = Maps.size D := by
  obtain ⟨es, hD, hpw, hik⟩ := h.entries Z.law
  obtain ⟨es', clock, hb, F, _, hD'⟩ := h
  have hke : ∀ p ∈ es, ∃ s, p.1 = Z.lit s := fun p hp => by
    have e1 : es = (es'.toList.map (WideElems.rg P k (plainElem P e))).foldr DataW.insert [] := by rw [hD] at hD'; simpa using hD'
    rw [e1] at hp
    obtain ⟨v, hv⟩ := fit_keys F p (mem_sorted.1 hp)
    obtain ⟨s, _, hs⟩ := Z.inv v p.1 hv
    exact ⟨s, hs⟩
  subst hD
  clear hD'
  have key : ∀ l : List (Lit × DataW Unit), (∀ p ∈ l, ∃ s, p.1 = Z.lit s) → ∃ ks : List K, l.map (·.1) = ks.map Z.lit := by
    intro l
    induction l with
    | nil => exact fun _ => ⟨[], rfl⟩
    | cons p l ih =>
      intro hl
      obtain ⟨s, hs⟩ := hl p List.mem_cons_self
      obtain ⟨ks, hks⟩ := ih fun q hq => hl q (List.mem_cons_of_mem _ hq)
      exact ⟨s :: ks, by simp [hs, hks]⟩
  obtain ⟨ks, hks⟩ := key es hke
  refine ⟨ks, ⟨?_, fun s => ?_⟩, ?_⟩
  · have h1 : (es.map (·.1)).Pairwise (· ≠ ·) := List.pairwise_map.2 hpw
    rw [hks, List.pairwise_map] at h1
    exact h1.imp fun {a b} hne e => hne (by rw [e])
  · have h3 := h2 s
    rw [has_eq] at h3
    constructor
    · intro hs
      have hm : Z.lit s ∈ es.map (·.1) := by rw [hks]; exact List.mem_map_of_mem hs
      obtain ⟨p, hp, hpe⟩ := List.mem_map.1 hm
      have : es.any (fun p => p.1.sameKey (Z.lit s)) = true := List.any_eq_true.2 ⟨p, hp, by rw [hpe]; exact WideAt.sameKey_self (Z.isKey s)⟩
      rw [this] at h3
      simpa using h3.symm
    · intro hf
      rw [decide_eq_true hf] at h3
      obtain ⟨p, hp, hq⟩ := List.any_eq_true.1 h3
      have hpe := (WideAt.sameKey_iff (Z.isKey s)).1 hq
      have hm : p.1 ∈ es.map (·.1) := List.mem_map_of_mem hp
      rw [hks, hpe] at hm
      obtain ⟨t, ht, hte⟩ := List.mem_map.1 hm
      exact Z.inj _ _ hte ▸ ht
  · have := congrArg List.length hks
    simpa [Maps.size] using this.symm
/-- As many entries as there are keys. -/
theorem Ta.le (h : Ta Z e w b n f) {ms : List K} (hs : ∀ s, f s ≠ 0 → s ∈ ms) : Ta Z e w b ms.length f := by
  obtain ⟨D, h1, h2, h3⟩ := h
  obtain ⟨ks, hk, hl⟩ := owns_sup h1 h3
  have hle := hk.le hs
  obtain ⟨es, clock, hb, F, hn, hD⟩ := h1
  refine ⟨D, ⟨es, clock, hb, F, ?_, hD⟩, h2, h3⟩
  have e1 : Maps.size D = es.size := by rw [hD]; simp [Maps.size, length_sorted]
  omega
end
end Go.Proofs.YtnpmmodcmfgbjaaGreat

namespace Go.Proofs.YtnpmmodcmfgbjaaGreat
open Go.RowKit Go.Sort

/-- '==' of two times. -/
def teq (a b c x y z : Int) : Bool := (a == x) && ((b == y) && (c == z))
theorem teq_iff (a b c x y z : Int) : teq a b c x y z = true ↔ a = x ∧ b = y ∧ c = z := by simp [teq]

theorem run_eqT (a b c x y z : Int) (w : World) : Sem.run Tryz.prog (Op.equalIn 10000 37 (.agg #[.int .u64 a, .int .u64 b, .int .u64 c]) (.agg #[.int .u64 x, .int .u64 y, .int .u64 z])) w = .ok (teq a b c x y z) w := by
  have u3 := Tryz.underlying35
  have a3 := Tryz.isAgg35
  have z3 := Tryz.sizeOf35
  have hS : Tryz.prog.underlying 37 = some (.struct (Tryz.prog.fieldsOf 37)) := by kernel_rfl
  have hp : Tryz.prog.stoodInHeld 37 = false := by kernel_rfl
  rw [show (10000 : Nat) = 9999 + 1 from rfl, run_equalIn_agg w 9999 37 _ _ hS hp]
  simp only [Program.fieldsOf, Tryz.underlying37]
  go_simp
  by_cases h1 : a = x <;> by_cases h2 : b = y <;> by_cases h3 : c = z <;> simp [teq, h1, h2, h3]

theorem run_eqB3' (d : Nat) (p q r p' q' r' : Bool) (w : World) : Sem.run Tryz.prog (Op.equalIn (d + 2) 85 (.agg #[.bool p, .bool q, .bool r]) (.agg #[.bool p', .bool q', .bool r'])) w = .ok (p == p' && (q == q' && r == r')) w := by
  have u3 := Tryz.underlying4
  have a3 := Tryz.isAgg4
  have z3 := Tryz.sizeOf4
  have hu : Tryz.prog.underlying 85 = some (.array 3 4) := by kernel_rfl
  have hb : ∀ x y W, Sem.run Tryz.prog (Op.equalIn (d + 1) 4 (.bool x) (.bool y)) W = .ok (x == y) W := fun x y W => run_equalIn_bool' W d 4 x y u3
  rw [Op.equalIn]
  simp only [Sem.run_bind, run_underlying hu, Result.andThen_ok, Std.Legacy.Range.forIn_eq_forIn_range', Std.Legacy.Range.size]
  go_simp
  simp only [show List.range' 0 3 = [0, 1, 2] from rfl, List.forIn_cons, List.forIn_nil]
  cases p <;> cases p' <;> cases q <;> cases q' <;> cases r <;> cases r' <;> go_simp
theorem run_eqB3 (p q r p' q' r' : Bool) (w : World) : Sem.run Tryz.prog (Op.equalIn 10000 85 (.agg #[.bool p, .bool q, .bool r]) (.agg #[.bool p', .bool q', .bool r'])) w = .ok (p == p' && (q == q' && r == r')) w := run_eqB3' 9998 p q r p' q' r' w
end Go.Proofs.YtnpmmodcmfgbjaaGreat
