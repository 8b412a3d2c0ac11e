import Derived.Test.YtghofmhlmkpkcaaDoorBTold
import Derived.Test.YtghofmhlmkpkcaaDoorBPuts0
import Derived.Test.YtghofmhlmkpkcaaDoorLKeep
namespace Go.Proofs.YtghofmhlmkpkcaaDoor.Wi
open Go.RowKit Go.Sort
attribute [local go_sem ↓] Go.wp_at_zero Go.wp_at_succ

/-- The list that Get answered; none with an error. -/
def lst (x : Except Er (List Cx)) : List Cx :=
  match x with
  | .ok l => l
  | .error _ => []
theorem Ans.row {w : World} {base : Nat} {x : Except Er (List Cx)} {vl ve : Value} (h : Ans w base x vl ve) : w.ownsRow base 43 5 vl (lst x).length (fl EC (lst x)) := by
  match x, h with
  | .ok l, ⟨h1, _⟩ => exact h1
  | .error (p, e), ⟨h1, _⟩ => rw [h1]; exact World.ownsRow_nil _ _ _ _
theorem lst_le {L : List UInt8} : 5 * (lst (bget L)).length ≤ L.length := by
  cases h : bget L with
  | ok l => exact (bget_ok h).2.2.2
  | error e => exact Nat.zero_le _
/-- What Get answered, between two blocks. -/
structure An (lo hi : Nat) (w : World) (x : Except Er (List Cx)) (vl ve : Value) : Prop where
  an : Ans w lo x vl ve
  rng : ∀ k, vl.ownBlock = some k → k < hi
  rnf : ∀ fb, ve = .iface 51 (.pointer (some ⟨fb, 0, none⟩)) → fb < hi
theorem An.mk' {lo : Nat} {w : World} {x : Except Er (List Cx)} {vl ve : Value} (h : Ans w lo x vl ve) : An lo w.heap.size w x vl ve := by
  refine ⟨h, fun k hk => (h.row.lt k hk).2, ?_⟩
  match x, h with
  | .ok l, ⟨_, h2⟩ => intro fb e; rw [h2] at e; cases e
  | .error (p, e), ⟨_, fb, h2, _, h4⟩ =>
    intro fb' e
    rw [h2] at e
    cases e
    exact (Array.getElem?_eq_some_iff.1 h4).1
theorem An.kp {lo hi : Nat} {w w' : World} {x : Except Er (List Cx)} {vl ve : Value} {S : Nat → Prop} (h : An lo hi w x vl ve) (hk : Kp S w w') (hS : ∀ k, lo ≤ k → k < hi → ¬ S k) : An lo hi w' x vl ve := by
  refine ⟨?_, h.rng, h.rnf⟩
  have hr := h.rng
  have hf := h.rnf
  match x, h.an with
  | .ok l, ⟨h1, h2⟩ => exact ⟨owns_kp hk h1 (fun k hk => hS k (h1.lt k hk).1 (hr k hk)), h2⟩
  | .error (p, e), ⟨h1, fb, h2, h3, h4⟩ => exact ⟨h1, fb, h2, h3, (hk.block fb (Array.getElem?_eq_some_iff.1 h4).1 (hS fb h3 (hf fb h2))).trans h4⟩
theorem An.below {lo hi : Nat} {w w' : World} {x : Except Er (List Cx)} {vl ve : Value} (h : An lo hi w x vl ve) (hb : Below w.heap.size w w') : An lo hi w' x vl ve := h.kp (Kp.of_below hb) (fun _ _ _ h => h)
/-- The marks. -/
def mk5 : Cx := ⟨0, 0, 0, 0, -5, by decide⟩
def mk6 : Cx := ⟨0, 0, 0, 0, -6, by decide⟩
/-- A list while it is marked. -/
def mkd (c : Cx) (l : List Cx) (k : Nat) : List Cx := List.replicate k c ++ l.drop k
theorem mkd_len {c : Cx} {l : List Cx} {k : Nat} (h : k ≤ l.length) : (mkd c l k).length = l.length := by unfold mkd; simp; omega
theorem mkd_zero {c : Cx} {l : List Cx} : mkd c l 0 = l := by simp [mkd]
theorem mkd_set {c : Cx} {l : List Cx} {k : Nat} (h : k < l.length) : (mkd c l k).set k c = mkd c l (k + 1) := by
  unfold mkd
  rw [List.set_append_right _ _ (by simp), List.length_replicate, Nat.sub_self, List.drop_eq_getElem_cons h, List.set_cons_zero, List.replicate_succ']
  simp
theorem mkd_all {c : Cx} {l : List Cx} {n : Nat} (h : l.length = n) : mkd c l n = List.replicate n c := by
  unfold mkd
  rw [List.drop_of_length_le (by omega), List.append_nil]
theorem flC_set (L : List Cx) (k : Nat) (c : Cx) (h : k < L.length) : (((((fl EC L).set (k * 5) (.int .i64 c.pl)).set (k * 5 + 1) (.int .u64 (c.A : Nat))).set (k * 5 + 2) (.int .u64 (c.B : Nat))).set (k * 5 + 3) (.int .u64 (c.C : Nat))).set (k * 5 + 4) (.int .i64 c.N) = fl EC (L.set k c) := by
  induction L generalizing k with
  | nil => simp at h
  | cons x L ih =>
    cases k with
    | zero => rfl
    | succ k =>
      have h' : k < L.length := by simpa using h
      rw [List.set_cons_succ, fl_cons, fl_cons, ← ih k h']
      have e0 : (k + 1) * 5 = 5 + k * 5 := by omega
      rw [e0, Nat.add_assoc 5, Nat.add_assoc 5, Nat.add_assoc 5, Nat.add_assoc 5]
      have hl : (EC.enc x).length = 5 := rfl
      rw [List.set_append_right _ _ (by rw [hl]; omega), List.set_append_right _ _ (by rw [hl]; omega), List.set_append_right _ _ (by rw [hl]; omega), List.set_append_right _ _ (by rw [hl]; omega), List.set_append_right _ _ (by rw [hl]; omega), hl]
      simp
/-- 'x[k] = c', cell by cell. -/
theorem owns_set5 {w : World} {g n cap k : Nat} {l : List Cx} (c : Cx) (hk : k < l.length) (h : w.ownsRow 0 43 5 (.slice (some ⟨g, 0, none⟩) n cap) n (fl EC l)) :
    (((((w.setCell ⟨g, k * 5, none⟩ (.int .i64 c.pl)).setCell ⟨g, k * 5 + 1, none⟩ (.int .u64 (c.A : Nat))).setCell ⟨g, k * 5 + 2, none⟩ (.int .u64 (c.B : Nat))).setCell ⟨g, k * 5 + 3, none⟩ (.int .u64 (c.C : Nat))).setCell ⟨g, k * 5 + 4, none⟩ (.int .i64 c.N)).ownsRow 0 43 5 (.slice (some ⟨g, 0, none⟩) n cap) n (fl EC (l.set k c)) ∧
      Kp (fun q => (Value.slice (some ⟨g, 0, none⟩) n cap).ownBlock = some q) w (((((w.setCell ⟨g, k * 5, none⟩ (.int .i64 c.pl)).setCell ⟨g, k * 5 + 1, none⟩ (.int .u64 (c.A : Nat))).setCell ⟨g, k * 5 + 2, none⟩ (.int .u64 (c.B : Nat))).setCell ⟨g, k * 5 + 3, none⟩ (.int .u64 (c.C : Nat))).setCell ⟨g, k * 5 + 4, none⟩ (.int .i64 c.N)) := by
  obtain ⟨a0, b0⟩ := owns_cell0 (q := k * 5) (.int .i64 c.pl) h
  obtain ⟨a1, b1⟩ := owns_cell0 (q := k * 5 + 1) (.int .u64 (c.A : Nat)) a0
  obtain ⟨a2, b2⟩ := owns_cell0 (q := k * 5 + 2) (.int .u64 (c.B : Nat)) a1
  obtain ⟨a3, b3⟩ := owns_cell0 (q := k * 5 + 3) (.int .u64 (c.C : Nat)) a2
  obtain ⟨a4, b4⟩ := owns_cell0 (q := k * 5 + 4) (.int .i64 c.N) a3
  rw [flC_set l k c hk] at a4
  have kk := (((b0.trans b1 (fun _ _ h => h)).trans b2 (fun _ _ h => h)).trans b3 (fun _ _ h => h)).trans b4 (fun _ _ h => h)
  exact ⟨a4, (Kp.of_gr (S := fun q => (Value.slice (some ⟨g, 0, none⟩) n cap).ownBlock = some q) (Gr.refl w)).trans kk (fun q _ e => by rw [e]; rfl)⟩
/-- The cells and the freedom of a row. -/
theorem owns_five {w : World} {g n cap k : Nat} {l : List Cx} (hn : l.length = n) (hk : k < l.length) (h : w.ownsRow 0 43 5 (.slice (some ⟨g, 0, none⟩) n cap) n (fl EC l)) :
    ∃ d : Cx, w.cell? ⟨g, k * 5, none⟩ = some (.int .i64 d.pl) ∧ w.cell? ⟨g, k * 5 + 1, none⟩ = some (.int .u64 (d.A : Nat)) ∧ w.cell? ⟨g, k * 5 + 2, none⟩ = some (.int .u64 (d.B : Nat)) ∧ w.cell? ⟨g, k * 5 + 3, none⟩ = some (.int .u64 (d.C : Nat)) ∧ w.cell? ⟨g, k * 5 + 4, none⟩ = some (.int .i64 d.N) ∧ (∀ o, w.frozen? ⟨g, o, none⟩ = false) ∧ g < w.heap.size := by
  subst hn
  obtain ⟨d, hd⟩ : ∃ d, l[k]? = some d := ⟨l[k], by simp⟩
  obtain ⟨b, off, c, e, z, x0, x1, x2, x3, x4⟩ := ls_atC (owns_ls (E := EC) h) hd
  simp only [Value.slice.injEq, Option.some.injEq, Addr.mk.injEq] at e
  obtain ⟨⟨rfl, rfl, -⟩, -, -⟩ := e
  rw [Nat.zero_add] at x0 x1 x2 x3 x4
  refine ⟨d, x0, x1, x2, x3, x4, fun o => ?_, z⟩
  obtain ⟨_, ⟨h0, _⟩ | ⟨g', cap', cur, hv, _, hh, _⟩⟩ := h
  · cases h0
  · cases hv
    exact (tk_store hh).2 o
/-- A list that is read, behind an append onto it. -/
theorem ls_keep {w w' : World} {v : Value} {n : Nat} {l : List Cx} (hn : l.length = n) (h : w.ownsRow 0 43 5 v n (fl EC l)) (hs : w.heap.size ≤ w'.heap.size) (hc : ∀ q, v.ownBlock = some q → ∀ j u, (fl EC l)[j]? = some u → w'.cell? ⟨q, j, none⟩ = some u) : Ls EC w' v l := by
  obtain ⟨h1, ⟨h0, h2⟩ | ⟨g, cap, cur, hv, _, hh, _⟩⟩ := h
  · exact Or.inl ⟨List.eq_nil_of_length_eq_zero (by omega), h0⟩
  · subst hv
    refine Or.inr ⟨g, 0, cap, by rw [hn], Nat.lt_of_lt_of_le (Array.getElem?_eq_some_iff.1 hh).1 hs, fun j u hj => ?_⟩
    rw [Nat.zero_add]
    exact hc g rfl j u hj
section
variable {w : World} {ops : Array Oper} {rest : List Oper} {o : Oper} {a : Act} {Q : Exit → Act → World → Prop}
/-- 'append(x, c, c)', of which nothing is kept: x reads as it did. -/
theorem wpC2 (hgd : o.guard = none) (s y : Operand) (ho : o.op = .call { callee := .builtin .append, args := #[s, y], argTypes := #[24, 24] })
    (v : Value) (n : Nat) (l : List Cx) (hs : a.eval s = v) (hown : w.ownsRow 0 43 5 v n (fl EC l)) (hn : l.length = n) (c : Cx) (hx : a.eval y = .slice (some ⟨w.heap.size, 0, none⟩) 2 2) (hbig : n ≤ 1048576)
    (cs : Array Value) (hcs : cs.toList = fl EC [c, c]) (te : TypeId)
    (h : ∀ v' w', Hid (Ls EC w' v l) → Hid (Kp (fun q => v.ownBlock = some q) w w') → wpList Tryd.prog ops Q rest (a.put o.dst v') w') :
    wpList Tryd.prog ops Q (o :: rest) a (w.alloc (.cells cs te)) := by
  obtain ⟨i0, hi, hz0, hz1, hz2⟩ := info_parts infoC
  have hown' := hown.alloc (.cells cs te)
  obtain ⟨g, cap, w', hr, h2, h3, h4, h5⟩ := app_keep (P := Tryd.prog) (w.alloc (.cells cs te)) 24 o.type 43 i0 _ 5 40 Tryd.underlying24 hi hz0 hz1 hz2 rfl (by decide) v n (fl EC l) hown' ⟨w.heap.size, 0, none⟩ 2 2 (fl EC [c, c]) rfl (by have := World.news_of_block (heap_new' w (.cells cs te)); rw [hcs] at this; exact this) (fl_oneCell EC [c, c]) (by decide) (by unfold maxLen; omega) (by omega)
  refine wpList_plain hgd fun K hK => ?_
  unfold Oper.wp execOp
  simp only [ho, resolve, invoke, builtin, Sem.run_bind, Sem.run_pure, Result.andThen_ok, List.map_toArray, List.map_cons, List.map_nil, hs, hx, hr]
  have hk : Kp (fun q => v.ownBlock = some q) w w' := (Kp.of_below ((Gr.refl w).alloc _).below).trans (Kp.grownBy (S := fun q => v.ownBlock = some q) h3 (fun _ h => h)) (fun _ _ h => h)
  exact hK _ _ (h _ w' (ls_keep hn hown hk.size h5) hk)
end
theorem xor_byte1 (y : Int) : ∃ x : UInt8, bits .xor .u8 y 1 = (x.toNat : Int) := by
  obtain ⟨n, hn⟩ : ∃ n : Int, bits .xor .u8 y 1 = IntKind.u8.wrap n := ⟨_, rfl⟩
  rw [hn, IntKind.wrap_u8]
  exact ⟨UInt8.ofNat (n % 256).toNat, by rw [u8_of (by omega)]; omega⟩
end Go.Proofs.YtghofmhlmkpkcaaDoor.Wi
