import Derived.Test.YtpgodnaebkmhhaaGreatJ2
import Derived.Test.YtpgodnaebkmhhaaGreatLKeep
namespace Go.Proofs.YtpgodnaebkmhhaaGreat.Df
open Go.RowKit Go.Sort

theorem infoLI : (Tryz.prog.info? 33).map (fun i => (i.zero, i.size, i.bytes)) = some (some (.slice none 0 0), 1, 24) := by kernel_rfl
/-- The mark of list i. -/
def mkI (i : Nat) : Int := -10 - (i : Int)
theorem flI_set (L : List Int) (k : Nat) (x : Int) : (fl EI L).set k (.int .i64 x) = fl EI (L.set k x) := by
  rw [fl_I, fl_I, List.map_set]
theorem fam_markI {W : World} {n k g len cap i : Nat} {V : Nat → Value} {C : Nat → List Int} (h : Fam EI 3 W n V (stage mkI C k i)) (hk : k < n) (hV : V k = .slice (some ⟨g, 0, none⟩) len cap) (hl : (C k).length = len) (hi : i < (C k).length) :
    Fam EI 3 (W.setCell ⟨g, i, none⟩ (.int .i64 (mkI k))) n V (stage mkI C k (i + 1)) ∧ Kp (fun q => (V k).ownBlock = some q) W (W.setCell ⟨g, i, none⟩ (.int .i64 (mkI k))) := by
  have ho := h.own k hk
  have hsl := stage_len mkI C k i k (Nat.le_of_lt hi)
  rw [hV, hsl, hl] at ho
  obtain ⟨h1, h2⟩ := owns_cell0 (q := i) (.int .i64 (mkI k)) ho
  rw [flI_set] at h1
  exact h.set hk hV (mkI k) (stage_step mkI C k i hi) (by rw [hsl, hl]; exact h1) h2
theorem row_formI {w : World} {e : TypeId} {s : Value} {n : Nat} {V : Nat → Value} (h : w.ownsRow 0 e 1 s n ((List.range n).map V)) : ∃ p g c, s = .slice p n c ∧ ∀ i, i < n → p = some ⟨g, 0, none⟩ ∧ g < w.heap.size ∧ w.cell? ⟨g, i, none⟩ = some (V i) ∧ s.ownBlock = some g := by
  obtain ⟨_, ⟨h0, h1⟩ | ⟨ga, cap, cur, h0, hbg, hgg, _⟩⟩ := id h
  · exact ⟨none, 0, 0, by rw [h0, h1], fun i hi => by omega⟩
  · refine ⟨_, ga, _, h0, fun i hi => ⟨rfl, (Array.getElem?_eq_some_iff.1 hgg).1, ?_, by rw [h0]; rfl⟩⟩
    have := h.cells (g := ga) (by rw [h0]; rfl) i (V i) (by simp [hi])
    rw [addA, Nat.zero_add] at this
    exact this
/-- Blocks of a family. -/
def SqI (n : Nat) (V : Nat → Value) (q : Nat) : Prop := ∃ i, i < n ∧ (V i).ownBlock = some q
/-- 'append(own, x, y)', with the old list. -/
theorem wpAppKeep2 {P : Program} {α : Type} (E : El α) {e sT : TypeId} {z : Value} {bt : Nat} (hu : P.underlying sT = some (.slice e)) (hI : (P.info? e).map (fun i => (i.zero, i.size, i.bytes)) = some (some z, E.k, bt)) (hz : z.cells.size = E.k) (hk0 : 0 < E.k)
    {w : World} {ops : Array Oper} {rest : List Oper} {o : Oper} {a : Act} {Q : Exit → Act → World → Prop} (hgd : o.guard = none) (s y : Operand)
    (ho : o.op = .call { callee := .builtin .append, args := #[s, y], argTypes := #[sT, sT] })
    (v : Value) (n : Nat) (l : List α) (hs : a.eval s = v) (hown : w.ownsRow 0 e E.k v n (fl E l))
    (xs : List α) (m : Nat) (hxm : xs.length = m) (hm0 : 0 < m) (hx : a.eval y = .slice (some ⟨w.heap.size, 0, none⟩) m m) (hbig : (n + m) * bt ≤ 140737488355328) (hmx : n + m ≤ maxLen)
    (cs : Array Value) (hcs : cs.toList = fl E xs) (te : TypeId)
    (h : ∀ g cap w', w'.ownsRow 0 e E.k (.slice (some ⟨g, 0, none⟩) (n + m) cap) (n + m) (fl E l ++ fl E xs) → Kp (fun q => v.ownBlock = some q) w w' → (v.ownBlock = some g ∨ w.heap.size ≤ g) → (∀ q, v.ownBlock = some q → ∀ j u, (fl E l)[j]? = some u → w'.cell? ⟨q, j, none⟩ = some u) → wpList P ops Q rest (a.put o.dst (.slice (some ⟨g, 0, none⟩) (n + m) cap)) w') :
    wpList P ops Q (o :: rest) a (w.alloc (.cells cs te)) := by
  obtain ⟨i0, hi, hz0, hz1, hz2⟩ := info_parts hI
  have hown' := hown.alloc (.cells cs te)
  obtain ⟨g, cap, w', hr, h2, h3, h4, h5⟩ := app_keep (P := P) (w.alloc (.cells cs te)) sT o.type e i0 _ E.k bt hu hi hz0 hz1 hz2 hz hk0 v n (fl E l) hown' ⟨w.heap.size, 0, none⟩ m m (fl E xs) (by rw [fl_length, hxm]) (by have := World.news_of_block (heap_new' w (.cells cs te)); rw [hcs] at this; exact this) (fl_oneCell E xs) hm0 hmx hbig
  refine wpList_plain hgd fun K hK => ?_
  unfold Oper.wp execOp
  simp only [ho, resolve, invoke, builtin, Sem.run_bind, Sem.run_pure, Result.andThen_ok, List.map_toArray, List.map_cons, List.map_nil, hs, hx, hr]
  have hk : Kp (fun q => v.ownBlock = some q) w w' := (Kp.of_below ((Gr.refl w).alloc _).below).trans (Kp.grownBy (S := fun q => v.ownBlock = some q) h3 (fun _ h => h)) (fun _ _ h => h)
  refine hK _ _ (h g cap w' h2 hk (h4.imp id (fun e => by rw [e]; simp)) h5)
/-- Two more are put behind it. -/
theorem inn_two {α : Type} {E : El α} {e : TypeId} {W W' : World} {v : Value} {n g cap : Nat} {a : α}
    (ho : W'.ownsRow 0 e E.k (.slice (some ⟨g, 0, none⟩) (n + 2) cap) (n + 2) (fl E (List.replicate n a) ++ fl E [a, a])) (hk : Kp (fun q => v.ownBlock = some q) W W') (hl : v.ownBlock = some g ∨ W.heap.size ≤ g)
    (hold : ∀ q, v.ownBlock = some q → ∀ j u, (fl E (List.replicate n a))[j]? = some u → W'.cell? ⟨q, j, none⟩ = some u) : Inn E e W v n a W' (.slice (some ⟨g, 0, none⟩) (n + 2) cap) 2 := by
  refine ⟨?_, hold, fun g' hg' => ?_, hk⟩
  · rw [show List.replicate (n + 2) a = List.replicate n a ++ [a, a] by rw [List.replicate_succ', List.replicate_succ', List.append_assoc]; rfl, fl_append]
    exact ho
  · have : g = g' := by simpa [Value.ownBlock] using hg'
    exact this ▸ hl
end Go.Proofs.YtpgodnaebkmhhaaGreat.Df
