import Derived.Test.YtghpekkncfckaaaGr
import Derived.Laws.CopyOwn
import Derived.Deep.AppendLies
import Derived.Laws.AppendOwnNone
namespace Go.Proofs.Ytghpekkncfckaaa
open Go.RowKit Go.Sort

/-- A type of elements: the cells of one. -/
structure El (α : Type) where
  k : Nat
  enc : α → List Value
  len : ∀ x, (enc x).length = k
  one : ∀ x, ∀ u ∈ enc x, u.oneCell' = true
section
variable {α : Type} (E : El α)
/-- The cells of a list, one behind the other. -/
def fl (l : List α) : List Value := l.flatMap E.enc
theorem fl_nil : fl E [] = [] := rfl
theorem fl_cons (t : α) (ts : List α) : fl E (t :: ts) = E.enc t ++ fl E ts := rfl
theorem fl_append (a b : List α) : fl E (a ++ b) = fl E a ++ fl E b := by simp [fl]
theorem fl_one (t : α) : fl E [t] = E.enc t := by simp [fl]
theorem fl_length (ts : List α) : (fl E ts).length = ts.length * E.k := by
  induction ts with
  | nil => simp [fl]
  | cons t ts ih => rw [fl_cons, List.length_append, ih, E.len, List.length_cons, Nat.succ_mul, Nat.add_comm]
theorem fl_get (ts : List α) (j i : Nat) (t : α) (h : ts[j]? = some t) (hi : i < E.k) : (fl E ts)[j * E.k + i]? = (E.enc t)[i]? := by
  induction ts generalizing j with
  | nil => simp at h
  | cons s ts ih =>
    rw [fl_cons]
    cases j with
    | zero =>
      simp at h; subst h
      rw [Nat.zero_mul, Nat.zero_add, List.getElem?_append_left (by rw [E.len]; exact hi)]
    | succ j =>
      have e : (j + 1) * E.k + i = E.k + (j * E.k + i) := by rw [Nat.succ_mul]; omega
      rw [e, List.getElem?_append_right (by rw [E.len]; omega), E.len, Nat.add_sub_cancel_left]
      exact ih j (by simpa using h)
theorem fl_oneCell (ts : List α) : ∀ u ∈ fl E ts, u.oneCell' = true := by
  intro u hu
  simp only [fl, List.mem_flatMap] at hu
  obtain ⟨t, _, hu⟩ := hu
  exact E.one t u hu
theorem fl_take (l : List α) (n : Nat) : (fl E l).take (n * E.k) = fl E (l.take n) := by
  induction l generalizing n with
  | nil => simp [fl]
  | cons x l ih =>
    cases n with
    | zero => simp [fl]
    | succ n =>
      rw [fl_cons, List.take_succ_cons, fl_cons, Nat.succ_mul, List.take_append, List.take_of_length_le (by rw [E.len]; omega), E.len, Nat.add_sub_cancel, ih n]
theorem fl_drop (l : List α) (n : Nat) : (fl E l).drop (n * E.k) = fl E (l.drop n) := by
  induction l generalizing n with
  | nil => simp [fl]
  | cons x l ih =>
    cases n with
    | zero => simp [fl]
    | succ n =>
      rw [fl_cons, List.drop_succ_cons, Nat.succ_mul, List.drop_append, List.drop_of_length_le (by rw [E.len]; omega), E.len, Nat.add_sub_cancel, ih n, List.nil_append]
/-- One element is set anew. -/
theorem fl_set (L : List α) (n : Nat) (x : α) (hn : n < L.length) : (fl E L).take (n * E.k) ++ E.enc x ++ (fl E L).drop ((n + 1) * E.k) = fl E (L.set n x) := by
  rw [fl_take, fl_drop]
  induction L generalizing n with
  | nil => simp at hn
  | cons y L ih =>
    cases n with
    | zero => simp [fl]
    | succ n =>
      have h := ih n (by simpa using hn)
      rw [List.take_succ_cons, List.drop_succ_cons, List.set_cons_succ, fl_cons, fl_cons, ← h]
      simp

/-- The elements lie there. -/
def Lies (w : World) (b off : Nat) (ts : List α) : Prop := ∀ j u, (fl E ts)[j]? = some u → w.cell? ⟨b, off + j, none⟩ = some u
/-- A slice value that reads as these elements. -/
def Ls (w : World) (v : Value) (ts : List α) : Prop :=
  (ts = [] ∧ v = .slice none 0 0) ∨ ∃ b off c, v = .slice (some ⟨b, off, none⟩) ts.length c ∧ b < w.heap.size ∧ Lies E w b off ts
variable {E}
theorem Ls.kept {w w' : World} {v : Value} {ts : List α} (h : Ls E w v ts) (hs : w.heap.size ≤ w'.heap.size) (hb : ∀ g, v.ownBlock = some g → w'.heap[g]? = w.heap[g]?) : Ls E w' v ts := by
  rcases h with h | ⟨b, off, c, hv, hbs, ht⟩
  · exact Or.inl h
  · refine Or.inr ⟨b, off, c, hv, Nat.lt_of_lt_of_le hbs hs, fun j u hj => ?_⟩
    have := hb b (by rw [hv]; rfl)
    rw [World.cell?_of_block (a := ⟨b, off + j, none⟩) this]
    exact ht j u hj
theorem Ls.blk {w : World} {v : Value} {ts : List α} (h : Ls E w v ts) : ∀ g, v.ownBlock = some g → g < w.heap.size := by
  intro g hg
  rcases h with ⟨_, rfl⟩ | ⟨b, off, c, rfl, hbs, _⟩
  · simp [Value.ownBlock] at hg
  · simp [Value.ownBlock] at hg; omega
theorem Ls.below {w w' : World} {v : Value} {ts : List α} (h : Ls E w v ts) (hb : Below w.heap.size w w') : Ls E w' v ts :=
  h.kept hb.size fun g hg => hb.block g (h.blk g hg)
theorem Ls.nil (w : World) : Ls E w (.slice none 0 0) [] := Or.inl ⟨rfl, rfl⟩
theorem Ls.form {w : World} {v : Value} {ts : List α} (h : Ls E w v ts) : ∃ p c, v = .slice p ts.length c := by
  rcases h with ⟨rfl, rfl⟩ | ⟨b, off, c, hv, _, _⟩
  · exact ⟨_, _, rfl⟩
  · exact ⟨_, _, hv⟩
/-- The cells of the element at j. -/
theorem Ls.get {w : World} {v : Value} {ts : List α} (h : Ls E w v ts) {j : Nat} {t : α} (hj : ts[j]? = some t) :
    ∃ b off c, v = .slice (some ⟨b, off, none⟩) ts.length c ∧ b < w.heap.size ∧ ∀ i u, i < E.k → (E.enc t)[i]? = some u → w.cell? ⟨b, off + j * E.k + i, none⟩ = some u := by
  rcases h with ⟨rfl, _⟩ | ⟨b, off, c, hv, hb, ht⟩
  · simp at hj
  · exact ⟨b, off, c, hv, hb, fun i u hi hu => by rw [Nat.add_assoc]; exact ht _ _ ((fl_get E ts j i t hj hi).trans hu)⟩
theorem addA (b off i : Nat) : (⟨b, off, none⟩ : Addr).add i = ⟨b, off + i, none⟩ := by unfold Addr.add; split <;> simp_all
theorem owns_ls {w : World} {base : Nat} {e : TypeId} {v : Value} {ts : List α} (h : w.ownsRow base e E.k v ts.length (fl E ts)) : Ls E w v ts := by
  rcases h.2 with ⟨hv, h0⟩ | ⟨g, cap, cur, hv, hg, hh, _, _, _, htake⟩
  · exact Or.inl ⟨List.eq_nil_of_length_eq_zero h0, hv⟩
  · refine Or.inr ⟨g, 0, cap, hv, (Array.getElem?_eq_some_iff.1 hh).1, fun j u hj => ?_⟩
    have := h.cells (g := g) (by rw [hv]; rfl) j u hj
    rw [addA] at this
    exact this
/-- The beginning and the end of a list. -/
theorem Ls.cut {w : World} {b off n c k : Nat} {l : List α} (h : Ls E w (.slice (some ⟨b, off, none⟩) n c) l) (hk : k ≤ l.length) (c2 : Nat) : Ls E w (.slice (some ⟨b, off, none⟩) k c2) (l.take k) := by
  rcases h with ⟨_, h⟩ | ⟨b', off', c', hv, hb, ht⟩
  · cases h
  · cases hv
    refine Or.inr ⟨b, off, c2, by rw [List.length_take, Nat.min_eq_left hk], hb, fun j u hj => ht j u ?_⟩
    rw [← fl_take, List.getElem?_take] at hj
    split at hj
    · exact hj
    · cases hj
theorem Ls.tail {w : World} {b off n c k : Nat} {l : List α} (h : Ls E w (.slice (some ⟨b, off, none⟩) n c) l) (c2 : Nat) : Ls E w (.slice (some ⟨b, off + k * E.k, none⟩) (l.length - k) c2) (l.drop k) := by
  rcases h with ⟨_, h⟩ | ⟨b', off', c', hv, hb, ht⟩
  · cases h
  · cases hv
    refine Or.inr ⟨b, off + k * E.k, c2, by rw [List.length_drop], hb, fun j u hj => ?_⟩
    rw [← fl_drop, List.getElem?_drop] at hj
    rw [Nat.add_assoc]
    exact ht _ u hj
theorem Ls.void {w : World} {b off n c k : Nat} {l : List α} (h : Ls E w (.slice (some ⟨b, off, none⟩) n c) l) (hk : l.length ≤ k) (c2 : Nat) : Ls E w (.slice (some ⟨b, off, none⟩) (l.length - k) c2) (l.drop k) := by
  rcases h with ⟨_, h⟩ | ⟨b', off', c', hv, hb, ht⟩
  · cases h
  · cases hv
    refine Or.inr ⟨b, off, c2, by rw [List.length_drop], hb, fun j u hj => ?_⟩
    rw [List.drop_of_length_le hk] at hj
    simp [fl] at hj
end

/-- All blocks but those of S are as they were. -/
structure Kp (S : Nat → Prop) (w w' : World) : Prop where
  os : w'.os = w.os
  tape : w'.tape = w.tape
  output : w'.output = w.output
  size : w.heap.size ≤ w'.heap.size
  block : ∀ k, k < w.heap.size → ¬ S k → w'.heap[k]? = w.heap[k]?
theorem Kp.refl (S : Nat → Prop) (w : World) : Kp S w w := ⟨rfl, rfl, rfl, Nat.le_refl _, fun _ _ _ => rfl⟩
theorem Kp.trans {S T : Nat → Prop} {a b c : World} (h : Kp S a b) (k : Kp T b c) (hT : ∀ j, j < a.heap.size → T j → S j) : Kp S a c :=
  ⟨k.os.trans h.os, k.tape.trans h.tape, k.output.trans h.output, Nat.le_trans h.size k.size, fun i hi hS => (k.block i (Nat.lt_of_lt_of_le hi h.size) (fun ht => hS (hT i hi ht))).trans (h.block i hi hS)⟩
theorem Kp.of_below {S : Nat → Prop} {w w' : World} (h : Below w.heap.size w w') : Kp S w w' := ⟨h.os, h.tape, h.output, h.size, fun k hk _ => h.block k hk⟩
theorem Kp.of_gr {S : Nat → Prop} {w w' : World} (h : Gr w w') : Kp S w w' := Kp.of_below h.below
theorem Kp.mono {S T : Nat → Prop} {w w' : World} (h : Kp S w w') (hT : ∀ k, S k → T k) : Kp T w w' := ⟨h.os, h.tape, h.output, h.size, fun k hk ht => h.block k hk (fun hs => ht (hT k hs))⟩
theorem Kp.below {S : Nat → Prop} {B : Nat} {w w' : World} (h : Kp S w w') (hB : B ≤ w.heap.size) (hS : ∀ k, S k → B ≤ k) : Below B w w' :=
  ⟨h.os, h.tape, h.output, h.size, fun k hk => h.block k (Nat.lt_of_lt_of_le hk hB) (fun hs => absurd (hS k hs) (Nat.not_le.2 hk))⟩
theorem Kp.grownBy {S : Nat → Prop} {w w' : World} {r : Option Nat} (h : w.grownBy w' r) (hS : ∀ k, r = some k → S k) : Kp S w w' :=
  ⟨h.os, h.tape, h.output, h.size, fun k hk hs => h.block k hk (fun e => hs (hS k e.symm))⟩
theorem Kp.ls {α : Type} {E : El α} {S : Nat → Prop} {w w' : World} {v : Value} {l : List α} (h : Kp S w w') (hv : Ls E w v l) (hS : ∀ k, v.ownBlock = some k → ¬ S k) : Ls E w' v l :=
  hv.kept h.size fun g hg => h.block g (hv.blk g hg) (hS g hg)
theorem Kp.cell {S : Nat → Prop} {w w' : World} (h : Kp S w w') {b o : Nat} (hb : b < w.heap.size) (hS : ¬ S b) : w'.cell? ⟨b, o, none⟩ = w.cell? ⟨b, o, none⟩ :=
  World.cell?_of_block (a := ⟨b, o, none⟩) (h.block b hb hS)
theorem owns_kp {S : Nat → Prop} {w w' : World} {base : Nat} {e : TypeId} {size : Nat} {v : Value} {n : Nat} {xs : List Value} (h : Kp S w w') (ho : w.ownsRow base e size v n xs) (hS : ∀ k, v.ownBlock = some k → ¬ S k) : w'.ownsRow base e size v n xs := by
  obtain ⟨h1, h2⟩ := ho
  refine ⟨h1, ?_⟩
  rcases h2 with h2 | ⟨g, cap, cur, hv, hg, hh, r⟩
  · exact Or.inl h2
  · exact Or.inr ⟨g, cap, cur, hv, hg, by rw [h.block g (Array.getElem?_eq_some_iff.1 hh).1 (hS g (by rw [hv]; rfl))]; exact hh, r⟩
theorem owns_below {w w' : World} {base : Nat} {e : TypeId} {size : Nat} {v : Value} {n : Nat} {xs : List Value} (h : w.ownsRow base e size v n xs) (hb : Below w.heap.size w w') : w'.ownsRow base e size v n xs :=
  owns_kp (S := fun _ => False) (Kp.of_below hb) h fun _ _ hf => hf
theorem owns_base {w : World} {b b' : Nat} {e : TypeId} {size : Nat} {v : Value} {n : Nat} {xs : List Value} (h : w.ownsRow b e size v n xs) (hb : b' ≤ b) : w.ownsRow b' e size v n xs := by
  obtain ⟨h1, h2⟩ := h
  refine ⟨h1, ?_⟩
  rcases h2 with h2 | ⟨g, cap, cur, hv, hg, r⟩
  · exact Or.inl h2
  · exact Or.inr ⟨g, cap, cur, hv, Nat.le_trans hb hg, r⟩
theorem owns_re {w : World} {base : Nat} {e : TypeId} {s : Nat} {v : Value} {n n' : Nat} {xs xs' : List Value} (h : w.ownsRow base e s v n xs) (hn : n = n') (hx : xs = xs') : w.ownsRow base e s v n' xs' := by
  subst hn; subst hx; exact h
/-- An owned row's capacity. -/
theorem owns_cap {w : World} {base : Nat} {e : TypeId} {size : Nat} {p : Option Addr} {n n' cap : Nat} {xs : List Value} (h : w.ownsRow base e size (.slice p n' cap) n xs) : n ≤ cap ∧ cap ≤ maxLen := by
  obtain ⟨_, ⟨h0, h1⟩ | ⟨g', cap', cur, hv, _, _, hn, hm, _⟩⟩ := h
  · cases h0; subst h1; exact ⟨Nat.le_refl _, Nat.zero_le _⟩
  · cases hv; exact ⟨hn, hm⟩
theorem info_parts {P : Program} {t : TypeId} {z : Value} {s b : Nat} (h : (P.info? t).map (fun i => (i.zero, i.size, i.bytes)) = some (some z, s, b)) : ∃ i, P.info? t = some i ∧ i.zero = some z ∧ i.size = s ∧ i.bytes = b := by
  cases hq : P.info? t with
  | none => simp [hq] at h
  | some i =>
    simp [hq] at h
    exact ⟨i, rfl, h.1, h.2.1, h.2.2⟩
theorem heap_new' (w : World) (o : Obj) : (w.alloc o).heap[w.heap.size]? = some o := by
  rw [show (w.alloc o).heap = w.heap.push o from rfl]
  simp

section
variable {P : Program} {α : Type} (E : El α) {w : World} {ops : Array Oper} {rest : List Oper} {o : Oper} {a : Act} {Q : Exit → Act → World → Prop}
/-- 'append(own, x)': x lies in the newest block. -/
theorem wpApp1 {e sT : TypeId} {z : Value} {bt : Nat} (hu : P.underlying sT = some (.slice e)) (hI : (P.info? e).map (fun i => (i.zero, i.size, i.bytes)) = some (some z, E.k, bt)) (hz : z.cells.size = E.k) (hk : 0 < E.k)
    (hgd : o.guard = none) (s x : Operand) (ho : o.op = .call { callee := .builtin .append, args := #[s, x], argTypes := #[sT, sT] })
    (base : Nat) (v : Value) (n : Nat) (xs : List Value) (hs : a.eval s = v) (hown : w.ownsRow base e E.k v n xs)
    (t : α) (hx : a.eval x = .slice (some ⟨w.heap.size, 0, none⟩) 1 1) (hbig : (n + 1) * bt ≤ 140737488355328) (hmx : n + 1 ≤ maxLen) (hbase : base ≤ w.heap.size)
    (cs : Array Value) (hcs : cs.toList = E.enc t) (te : TypeId)
    (h : ∀ g cap w', w'.ownsRow base e E.k (.slice (some ⟨g, 0, none⟩) (n + 1) cap) (n + 1) (xs ++ E.enc t) → w.grownBy w' v.ownBlock → (v.ownBlock = some g ∨ w.heap.size ≤ g) → wpList P ops Q rest (a.put o.dst (.slice (some ⟨g, 0, none⟩) (n + 1) cap)) w') :
    wpList P ops Q (o :: rest) a (w.alloc (.cells cs te)) := by
  obtain ⟨i0, hi, hz0, hz1, hz2⟩ := info_parts hI
  refine wpList_append_lies _ hgd s x _ ho base e i0 _ E.k bt hu hi hz0 hz1 hz2 hz hk v n xs hs (hown.alloc _) ⟨w.heap.size, 0, none⟩ 1 1 (E.enc t) hx (by rw [E.len, Nat.one_mul]) (by have := World.news_of_block (heap_new' w (.cells cs te)); rw [hcs] at this; exact this) (E.one t) (by decide) hmx hbig (by simp; omega) _ rfl ?_
  intro g cap w' h1 h2 h3 _
  refine h g cap w' h1 ⟨h2.os, h2.tape, h2.output, Nat.le_trans (by simp) h2.size, fun k hk hne => (h2.block k (by simp; omega) hne).trans ((World.grownBy_alloc w _ none).block k hk (by simp))⟩ ?_
  rcases h3 with h3 | h3
  · exact Or.inl h3
  · right; rw [h3]; simp
/-- 'append(own, l...)'. -/
theorem wpAppL {e sT : TypeId} {z : Value} {bt : Nat} (hu : P.underlying sT = some (.slice e)) (hI : (P.info? e).map (fun i => (i.zero, i.size, i.bytes)) = some (some z, E.k, bt)) (hz : z.cells.size = E.k) (hk : 0 < E.k)
    (hgd : o.guard = none) (s x : Operand) (ho : o.op = .call { callee := .builtin .append, args := #[s, x], argTypes := #[sT, sT] })
    (base : Nat) (v : Value) (n : Nat) (xs : List Value) (hs : a.eval s = v) (hown : w.ownsRow base e E.k v n xs)
    (v1 : Value) (ts : List α) (hx : a.eval x = v1) (hv : Ls E w v1 ts) (hbig : (n + ts.length) * bt ≤ 140737488355328) (hmx : n + ts.length ≤ maxLen) (hbase : base ≤ w.heap.size)
    (h : ∀ v' w', w'.ownsRow base e E.k v' (n + ts.length) (xs ++ fl E ts) → w.grownBy w' v.ownBlock → wpList P ops Q rest (a.put o.dst v') w') : wpList P ops Q (o :: rest) a w := by
  obtain ⟨i0, hi, hz0, hz1, hz2⟩ := info_parts hI
  rcases hv with ⟨rfl, rfl⟩ | ⟨b, off, c, rfl, hb, ht⟩
  · refine wpList_append_own_none hgd s x _ ho base e i0 E.k hu hi v n xs hs hown hx ?_
    exact h v w (by rw [fl_nil, List.append_nil]; exact hown) ⟨rfl, rfl, rfl, Nat.le_refl _, fun _ _ _ => rfl⟩
  · refine wpList_append_own _ hgd s x _ ho base e i0 _ E.k bt hu hi hz0 hz1 hz2 hz hk v n xs hs hown ⟨b, off, none⟩ ts.length c (fl E ts) hx (fl_length E ts) (fun j u hj => by rw [addA]; exact ht j u hj) (fl_oneCell E ts) hmx hbig hbase ?_
    intro v' w' h1 h2 _
    exact h v' w' h1 h2
end

/-- 'copy' within rows of elements of several cells. -/
theorem run_copy_rowK {P : Program} (w : World) (dT sT ty elem : TypeId) (s g o dLen dCap : Nat) (a : Addr) (sLen sCap : Nat) (cur : Array Value) (t : TypeId) (cs : List Value)
    (hu : P.underlying dT = some (.slice elem)) (hs : (P.info? elem).map (·.size) = some s)
    (hg : w.heap[g]? = some (.cells cur t (0, 0))) (hn : cs.length = Nat.min sLen dLen * s)
    (hsrc : ∀ j v, cs[j]? = some v → w.cell? (a.add j) = some v) (hfit : o + cs.length ≤ cur.size) (h1 : ∀ v ∈ cs, v.oneCell' = true) :
    (Builtin.copy_ #[dT, sT] ty #[.slice (some ⟨g, o, none⟩) dLen dCap, .slice (some a) sLen sCap]).run P w =
      .ok (goInt (Nat.min sLen dLen)) (w.setRow g (cur.toList.take o ++ cs ++ cur.toList.drop (o + cs.length)).toArray) := by
  have hl := run_loadCells_list (P := P) w a cs hsrc
  have hst := run_storeCells_at P g o t cs 0 cur w hg (by simpa using hfit) h1
  cases hq : P.info? elem with
  | none => simp [hq] at hs
  | some i =>
    have hi : i.size = s := by simpa [hq] using hs
    simp [Builtin.copy_, run_underlying hu, Builtin.lenOf, Builtin.firstCells, sizeOf, typeInfo, hq, hi, ← hn, hl, hst]
end Go.Proofs.Ytghpekkncfckaaa
