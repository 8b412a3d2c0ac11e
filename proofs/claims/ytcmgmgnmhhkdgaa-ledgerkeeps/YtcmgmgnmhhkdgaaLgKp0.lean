import Derived.Test.YtcmgmgnmhhkdgaaLgAp0
import Derived.Test.YtcmgmgnmhhkdgaaLgLk0
namespace Go.Proofs.Ytcmgmgnmhhkdgaa
open Go.RowKit Go.Sort Go.Maps Go.Shelf
open Tt (addc addf)

/-- A row, and between which blocks it lies. -/
structure Own (W : World) (e : TypeId) (s : Nat) (v : Value) (n : Nat) (xs : List Value) (lo hi : Nat) : Prop where
  row : W.ownsRow lo e s v n xs
  up : ∀ g, v.ownBlock = some g → g < hi
section
variable {W W' : World} {e : TypeId} {s : Nat} {v : Value} {n : Nat} {xs : List Value} {lo hi : Nat}
theorem Own.kp {S : Nat → Prop} (h : Own W e s v n xs lo hi) (hk : Kp S W W') (hS : ∀ k, S k → k < lo ∨ hi ≤ k) : Own W' e s v n xs lo hi :=
  ⟨owns_kp hk h.row (fun k hk' e => by have h1 := (h.row.lt k hk').1; have h2 := h.up k hk'; rcases hS k e with h3 | h3 <;> omega), h.up⟩
theorem Own.below (h : Own W e s v n xs lo hi) (hb : Below W.heap.size W W') : Own W' e s v n xs lo hi := ⟨owns_below h.row hb, h.up⟩
theorem Own.gr (h : Own W e s v n xs lo hi) (hb : Gr W W') : Own W' e s v n xs lo hi := h.below hb.below
theorem Own.mk' (h : W.ownsRow lo e s v n xs) : Own W e s v n xs lo W.heap.size := ⟨h, fun g hg => (h.lt g hg).2⟩
theorem Own.bd (h : Own W e s v n xs lo hi) {g : Nat} (hg : v.ownBlock = some g) : lo ≤ g ∧ g < hi := ⟨(h.row.lt g hg).1, h.up g hg⟩
theorem Own.z (h : Own W e s v n xs lo hi) : W.ownsRow 0 e s v n xs := owns_base h.row (Nat.zero_le _)
end
/-- Rows as elements. -/
abbrev Vw := { v : Value // v.oneCell' = true }
instance : Inhabited Vw := ⟨⟨.slice none 0 0, rfl⟩⟩
def EV : El Vw where
  k := 1
  enc v := [v.1]
  len _ := rfl
  one x u hu := by simp at hu; subst hu; exact x.2
def vw (p : Option Addr) (n c : Nat) : Vw := ⟨.slice p n c, rfl⟩
theorem fl_V3 (a b c : Vw) : fl EV [a, b, c] = [a.1, b.1, c.1] := rfl
theorem fl_V2 (a b : Vw) : fl EV [a, b] = [a.1, b.1] := rfl
theorem lit_ls {w : World} {cs : Array Value} {T : TypeId} {l : List Vw} (h : fl EV l = cs.toList) : Ls EV (w.alloc (.cells cs T)) (.slice (some ⟨w.heap.size, 0, none⟩) l.length l.length) l := by
  refine Or.inr ⟨w.heap.size, 0, l.length, rfl, by simp, fun j u hj => ?_⟩
  rw [h] at hj
  have hh := heap_new' w (.cells cs T)
  rw [Nat.zero_add]
  simp only [World.cell?, hh]
  simpa using hj
theorem len300 (l : List Opx) : (l.take 300).length ≤ 300 := by rw [List.length_take]; omega
/-- What the second ledger has behind i steps. -/
def mo (sc mr : List Opx) (i : Nat) : List Cg := wr (sc.take 300) ++ wr ((mr.take 300).take i)
theorem mo_ones (sc mr : List Opx) (i : Nat) : Ones (mo sc mr i) := (wr_ones _).append (wr_ones _)
theorem mo_len (sc mr : List Opx) (i : Nat) : (mo sc mr i).length ≤ 600 := by
  unfold mo
  rw [List.length_append, wr_length, wr_length, List.length_take, List.length_take, List.length_take]
  omega
theorem mo_zero (sc mr : List Opx) : mo sc mr 0 = wr (sc.take 300) := by simp [mo, wr]
theorem mo_succ {sc mr : List Opx} {i : Nat} {o : Opx} (h : mr[i]? = some o) (hi : i < 300) : mo sc mr (i + 1) = mo sc mr i ++ [(o.s, sg o.k)] := by
  have h1 : wr ((mr.take 300).take (i + 1)) = wr ((mr.take 300).take i) ++ [(o.s, sg o.k)] := wr_take_succ (by rw [List.getElem?_take_of_lt hi]; exact h)
  unfold mo
  rw [h1, List.append_assoc]
theorem mo_stay {sc mr : List Opx} {i : Nat} (hi : 300 ≤ i) : mo sc mr (i + 1) = mo sc mr i := by
  have h1 : (mr.take 300).take (i + 1) = mr.take 300 := List.take_of_length_le (by rw [List.length_take]; omega)
  have h2 : (mr.take 300).take i = mr.take 300 := List.take_of_length_le (by rw [List.length_take]; omega)
  unfold mo
  rw [h1, h2]
/-- 'append(own, x, y)', with the old list. -/
theorem wpAppKeep2 {P : Program} {α : Type} (E : El α) {e sT : TypeId} {z : Value} {bt : Nat} (hu : P.underlying sT = some (.slice e)) (hI : (P.info? e).map (fun i => (i.zero, i.size, i.bytes)) = some (some z, E.k, bt)) (hz : z.cells.size = E.k) (hk0 : 0 < E.k)
    {w : World} {ops : Array Oper} {rest : List Oper} {o : Oper} {a : Act} {Q : Exit → Act → World → Prop} (hgd : o.guard = none) (s y : Operand)
    (ho : o.op = .call { callee := .builtin .append, args := #[s, y], argTypes := #[sT, sT] })
    (v : Value) (n : Nat) (l : List α) (hs : a.eval s = v) (hown : w.ownsRow 0 e E.k v n (fl E l))
    (xs : List α) (m : Nat) (hxm : xs.length = m) (hm0 : 0 < m) (hx : a.eval y = .slice (some ⟨w.heap.size, 0, none⟩) m m) (hbig : (n + m) * bt ≤ 140737488355328) (hmx : n + m ≤ maxLen)
    (cs : Array Value) (hcs : cs.toList = fl E xs) (te : TypeId)
    (h : ∀ g cap w', w'.ownsRow 0 e E.k (.slice (some ⟨g, 0, none⟩) (n + m) cap) (n + m) (fl E l ++ fl E xs) → Kp (fun q => v.ownBlock = some q) w w' → (v.ownBlock = some g ∨ w.heap.size ≤ g) → (∀ q, v.ownBlock = some q → ∀ j u, (fl E l)[j]? = some u → w'.cell? ⟨q, j, none⟩ = some u) → wpList P ops Q rest (a.put o.dst (.slice (some ⟨g, 0, none⟩) (n + m) cap)) w') :
    wpList P ops Q (o :: rest) a (w.alloc (.cells cs te)) := by
  obtain ⟨i0, hi, hz0, hz1, hz2⟩ := info_parts hI
  have hown' := hown.alloc (.cells cs te)
  obtain ⟨g, cap, w', hr, h2, h3, h4, h5⟩ := app_keep (P := P) (w.alloc (.cells cs te)) sT o.type e i0 _ E.k bt hu hi hz0 hz1 hz2 hz hk0 v n (fl E l) hown' ⟨w.heap.size, 0, none⟩ m m (fl E xs) (by rw [fl_length, hxm]) (by have := World.news_of_block (heap_new' w (.cells cs te)); rw [hcs] at this; exact this) (fl_oneCell E xs) hm0 hmx hbig
  refine wpList_plain hgd fun K hK => ?_
  unfold Oper.wp execOp
  simp only [ho, resolve, invoke, builtin, Sem.run_bind, Sem.run_pure, Result.andThen_ok, List.map_toArray, List.map_cons, List.map_nil, hs, hx, hr]
  have hk : Kp (fun q => v.ownBlock = some q) w w' := (Kp.of_below ((Gr.refl w).alloc _).below).trans (Kp.grownBy (S := fun q => v.ownBlock = some q) h3 (fun _ h => h)) (fun _ _ h => h)
  refine hK _ _ (h g cap w' h2 hk (h4.imp id (fun e => by rw [e]; simp)) h5)
/-- The cells of a row of rows. -/
theorem rows_at {w : World} {base : Nat} {e : TypeId} {p : Option Addr} {n c : Nat} {l : List Vw} (h : w.ownsRow base e 1 (.slice p n c) n (fl EV l)) (hn : 0 < n) : ∃ g, p = some ⟨g, 0, none⟩ ∧ g < w.heap.size ∧ ∀ i v, l[i]? = some v → w.cell? ⟨g, i, none⟩ = some v.1 := by
  obtain ⟨_, ⟨_, h1⟩ | ⟨ga, cap, cur, h0, hbg, hgg, _⟩⟩ := id h
  · omega
  · simp only [Value.slice.injEq] at h0
    refine ⟨ga, h0.1, (Array.getElem?_eq_some_iff.1 hgg).1, fun i v hv => ?_⟩
    have h2 := fl_get EV l i 0 v hv (by decide)
    have := h.cells (g := ga) (by rw [h0.1]; rfl) i v.1 (by simpa [EV] using h2)
    rw [addA, Nat.zero_add] at this
    exact this
theorem cap_ok {w : World} {base : Nat} {e : TypeId} {s : Nat} {p : Option Addr} {n c : Nat} {xs : List Value} (h : w.ownsRow base e s (.slice p n c) n xs) : n ≤ c := (owns_cap h).1
end Go.Proofs.Ytcmgmgnmhhkdgaa
