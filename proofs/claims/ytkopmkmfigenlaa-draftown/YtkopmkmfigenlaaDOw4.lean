import Derived.Test.YtkopmkmfigenlaaDOw1
import Derived.Test.YtkopmkmfigenlaaLHold
import Derived.Test.YtkopmkmfigenlaaLStep
namespace Go.Proofs.Ytkopmkmfigenlaa.Df
open Go.RowKit Go.Sort Wi
attribute [local go_sem ↓] Go.wp_at_zero Go.wp_at_succ

/-- Rows of types other than those of the book's own. -/
structure Oth (w w' : World) : Prop where
  get : ∀ {B' : Nat} {e : TypeId} {size n : Nat} {u : Value} {xs : List Value}, w.ownsRow B' e size u n xs → e ≠ 61 → e ≠ 65 → e ≠ 22 → e ≠ 23 → e ≠ 43 → w'.ownsRow B' e size u n xs
theorem infoL0 : (Try.prog.info? 61).map (fun i => (i.zero, i.size, i.bytes)) = some (some (.slice none 0 0), 1, 24) := by kernel_rfl
theorem infoL1 : (Try.prog.info? 65).map (fun i => (i.zero, i.size, i.bytes)) = some (some (.slice none 0 0), 1, 24) := by kernel_rfl
theorem infoL2 : (Try.prog.info? 22).map (fun i => (i.zero, i.size, i.bytes)) = some (some (.slice none 0 0), 1, 24) := by kernel_rfl
theorem infoL3 : (Try.prog.info? 23).map (fun i => (i.zero, i.size, i.bytes)) = some (some (.slice none 0 0), 1, 24) := by kernel_rfl
theorem Bk.addO {B : Nat} {w w1 : World} {kb : Nat} {cO cC cN cD : LV} {vO : List LV} {lO : List (List Opd)} {vC : List LV} {lC : List (List Con)} {vN : List LV} {lN : List (List NV)} {vD : List LV} {lD : List (List Edg)} (h : Bk B w kb cO cC cN cD vO lO vC lC vN lN vD lD) {v c' : LV} {l : List Opd} (ho : w.ownsRow B 78 2 v.v l.length (fl EO l)) (hn : ∀ u ∈ vO, ∀ b, v.v.ownBlock = some b → u.v.ownBlock ≠ some b) (h1 : w1.ownsRow B 61 1 c'.v (vO.length + 1) (fl EL vO ++ [v.v])) (h2 : w.grownBy w1 cO.v.ownBlock) : Bk B (w1.setCell ⟨kb, 0, none⟩ c'.v) kb c' cC cN cD (vO ++ [v]) (lO ++ [l]) vC lC vN lN vD lD ∧ Kp (fun k => B ≤ k) w (w1.setCell ⟨kb, 0, none⟩ c'.v) ∧ Oth w (w1.setCell ⟨kb, 0, none⟩ c'.v) := by
  have k2 := Kp.grownBy (S := fun k => cO.v.ownBlock = some k) h2 (fun _ h => h)
  have hne : ∀ {B' : Nat} {e : TypeId} {size n : Nat} {u : Value} {xs : List Value}, w.ownsRow B' e size u n xs → e ≠ 61 → w1.ownsRow B' e size u n xs := fun ho hT => owns_kp k2 ho (fun b e e2 => owns_ne_own ho h.rO hT b e e2)
  have hb := (k2.block _ (tk_lt h.blk) (fun e => owns_ne_blk h.rO h.blk (by decide) kb e rfl)).trans h.blk
  have sk := tk_set hb 0 c'.v
  have hn2 : ∀ {B' : Nat} {e : TypeId} {size n : Nat} {u : Value} {xs : List Value}, w1.ownsRow B' e size u n xs → e ≠ 43 → (w1.setCell ⟨kb, 0, none⟩ c'.v).ownsRow B' e size u n xs := fun ho hT => owns_kp sk.2 ho (fun b e e2 => owns_ne_blk ho hb hT b e e2)
  have fam : ∀ {α : Type} {E : El α} {T : TypeId} {vs : List LV} {ls : List (List α)}, Fm E T B w vs ls → T ≠ 61 → T ≠ 43 → Fm E T B (w1.setCell ⟨kb, 0, none⟩ c'.v) vs ls := fun hf hT hT2 => ⟨hf.len, fun i v l hv hl => hn2 (hne (hf.each i v l hv hl) hT) hT2, hf.apart⟩
  refine ⟨⟨sk.1, h.low, hn2 (owns_re h1 (by simp) (by rw [fl_append, fl_one]; rfl)) (by decide), hn2 (hne h.rC (by decide)) (by decide), hn2 (hne h.rN (by decide)) (by decide), hn2 (hne h.rD (by decide)) (by decide), (fam h.fO (by decide) (by decide)).snoc (hn2 (hne ho (by decide)) (by decide)) hn, fam h.fC (by decide) (by decide), fam h.fN (by decide) (by decide), fam h.fD (by decide) (by decide)⟩, (k2.mono (T := fun j => B ≤ j) (fun j e => (owns_rd h.rO j e).1)).trans sk.2 (fun j _ e => by rw [e]; exact h.low), ⟨fun ho e0 e1 e2 e3 e4 => hn2 (hne ho e0) e4⟩⟩
theorem Bk.addC {B : Nat} {w w1 : World} {kb : Nat} {cO cC cN cD : LV} {vO : List LV} {lO : List (List Opd)} {vC : List LV} {lC : List (List Con)} {vN : List LV} {lN : List (List NV)} {vD : List LV} {lD : List (List Edg)} (h : Bk B w kb cO cC cN cD vO lO vC lC vN lN vD lD) {v c' : LV} {l : List Con} (ho : w.ownsRow B 80 5 v.v l.length (fl EC l)) (hn : ∀ u ∈ vC, ∀ b, v.v.ownBlock = some b → u.v.ownBlock ≠ some b) (h1 : w1.ownsRow B 65 1 c'.v (vC.length + 1) (fl EL vC ++ [v.v])) (h2 : w.grownBy w1 cC.v.ownBlock) : Bk B (w1.setCell ⟨kb, 1, none⟩ c'.v) kb cO c' cN cD vO lO (vC ++ [v]) (lC ++ [l]) vN lN vD lD ∧ Kp (fun k => B ≤ k) w (w1.setCell ⟨kb, 1, none⟩ c'.v) ∧ Oth w (w1.setCell ⟨kb, 1, none⟩ c'.v) := by
  have k2 := Kp.grownBy (S := fun k => cC.v.ownBlock = some k) h2 (fun _ h => h)
  have hne : ∀ {B' : Nat} {e : TypeId} {size n : Nat} {u : Value} {xs : List Value}, w.ownsRow B' e size u n xs → e ≠ 65 → w1.ownsRow B' e size u n xs := fun ho hT => owns_kp k2 ho (fun b e e2 => owns_ne_own ho h.rC hT b e e2)
  have hb := (k2.block _ (tk_lt h.blk) (fun e => owns_ne_blk h.rC h.blk (by decide) kb e rfl)).trans h.blk
  have sk := tk_set hb 1 c'.v
  have hn2 : ∀ {B' : Nat} {e : TypeId} {size n : Nat} {u : Value} {xs : List Value}, w1.ownsRow B' e size u n xs → e ≠ 43 → (w1.setCell ⟨kb, 1, none⟩ c'.v).ownsRow B' e size u n xs := fun ho hT => owns_kp sk.2 ho (fun b e e2 => owns_ne_blk ho hb hT b e e2)
  have fam : ∀ {α : Type} {E : El α} {T : TypeId} {vs : List LV} {ls : List (List α)}, Fm E T B w vs ls → T ≠ 65 → T ≠ 43 → Fm E T B (w1.setCell ⟨kb, 1, none⟩ c'.v) vs ls := fun hf hT hT2 => ⟨hf.len, fun i v l hv hl => hn2 (hne (hf.each i v l hv hl) hT) hT2, hf.apart⟩
  refine ⟨⟨sk.1, h.low, hn2 (hne h.rO (by decide)) (by decide), hn2 (owns_re h1 (by simp) (by rw [fl_append, fl_one]; rfl)) (by decide), hn2 (hne h.rN (by decide)) (by decide), hn2 (hne h.rD (by decide)) (by decide), fam h.fO (by decide) (by decide), (fam h.fC (by decide) (by decide)).snoc (hn2 (hne ho (by decide)) (by decide)) hn, fam h.fN (by decide) (by decide), fam h.fD (by decide) (by decide)⟩, (k2.mono (T := fun j => B ≤ j) (fun j e => (owns_rd h.rC j e).1)).trans sk.2 (fun j _ e => by rw [e]; exact h.low), ⟨fun ho e0 e1 e2 e3 e4 => hn2 (hne ho e1) e4⟩⟩
theorem Bk.addN {B : Nat} {w w1 : World} {kb : Nat} {cO cC cN cD : LV} {vO : List LV} {lO : List (List Opd)} {vC : List LV} {lC : List (List Con)} {vN : List LV} {lN : List (List NV)} {vD : List LV} {lD : List (List Edg)} (h : Bk B w kb cO cC cN cD vO lO vC lC vN lN vD lD) {v c' : LV} {l : List NV} (ho : w.ownsRow B 67 10 v.v l.length (fl EV l)) (hn : ∀ u ∈ vN, ∀ b, v.v.ownBlock = some b → u.v.ownBlock ≠ some b) (h1 : w1.ownsRow B 22 1 c'.v (vN.length + 1) (fl EL vN ++ [v.v])) (h2 : w.grownBy w1 cN.v.ownBlock) : Bk B (w1.setCell ⟨kb, 2, none⟩ c'.v) kb cO cC c' cD vO lO vC lC (vN ++ [v]) (lN ++ [l]) vD lD ∧ Kp (fun k => B ≤ k) w (w1.setCell ⟨kb, 2, none⟩ c'.v) ∧ Oth w (w1.setCell ⟨kb, 2, none⟩ c'.v) := by
  have k2 := Kp.grownBy (S := fun k => cN.v.ownBlock = some k) h2 (fun _ h => h)
  have hne : ∀ {B' : Nat} {e : TypeId} {size n : Nat} {u : Value} {xs : List Value}, w.ownsRow B' e size u n xs → e ≠ 22 → w1.ownsRow B' e size u n xs := fun ho hT => owns_kp k2 ho (fun b e e2 => owns_ne_own ho h.rN hT b e e2)
  have hb := (k2.block _ (tk_lt h.blk) (fun e => owns_ne_blk h.rN h.blk (by decide) kb e rfl)).trans h.blk
  have sk := tk_set hb 2 c'.v
  have hn2 : ∀ {B' : Nat} {e : TypeId} {size n : Nat} {u : Value} {xs : List Value}, w1.ownsRow B' e size u n xs → e ≠ 43 → (w1.setCell ⟨kb, 2, none⟩ c'.v).ownsRow B' e size u n xs := fun ho hT => owns_kp sk.2 ho (fun b e e2 => owns_ne_blk ho hb hT b e e2)
  have fam : ∀ {α : Type} {E : El α} {T : TypeId} {vs : List LV} {ls : List (List α)}, Fm E T B w vs ls → T ≠ 22 → T ≠ 43 → Fm E T B (w1.setCell ⟨kb, 2, none⟩ c'.v) vs ls := fun hf hT hT2 => ⟨hf.len, fun i v l hv hl => hn2 (hne (hf.each i v l hv hl) hT) hT2, hf.apart⟩
  refine ⟨⟨sk.1, h.low, hn2 (hne h.rO (by decide)) (by decide), hn2 (hne h.rC (by decide)) (by decide), hn2 (owns_re h1 (by simp) (by rw [fl_append, fl_one]; rfl)) (by decide), hn2 (hne h.rD (by decide)) (by decide), fam h.fO (by decide) (by decide), fam h.fC (by decide) (by decide), (fam h.fN (by decide) (by decide)).snoc (hn2 (hne ho (by decide)) (by decide)) hn, fam h.fD (by decide) (by decide)⟩, (k2.mono (T := fun j => B ≤ j) (fun j e => (owns_rd h.rN j e).1)).trans sk.2 (fun j _ e => by rw [e]; exact h.low), ⟨fun ho e0 e1 e2 e3 e4 => hn2 (hne ho e2) e4⟩⟩
theorem Bk.addD {B : Nat} {w w1 : World} {kb : Nat} {cO cC cN cD : LV} {vO : List LV} {lO : List (List Opd)} {vC : List LV} {lC : List (List Con)} {vN : List LV} {lN : List (List NV)} {vD : List LV} {lD : List (List Edg)} (h : Bk B w kb cO cC cN cD vO lO vC lC vN lN vD lD) {v c' : LV} {l : List Edg} (ho : w.ownsRow B 69 5 v.v l.length (fl ED l)) (hn : ∀ u ∈ vD, ∀ b, v.v.ownBlock = some b → u.v.ownBlock ≠ some b) (h1 : w1.ownsRow B 23 1 c'.v (vD.length + 1) (fl EL vD ++ [v.v])) (h2 : w.grownBy w1 cD.v.ownBlock) : Bk B (w1.setCell ⟨kb, 3, none⟩ c'.v) kb cO cC cN c' vO lO vC lC vN lN (vD ++ [v]) (lD ++ [l]) ∧ Kp (fun k => B ≤ k) w (w1.setCell ⟨kb, 3, none⟩ c'.v) ∧ Oth w (w1.setCell ⟨kb, 3, none⟩ c'.v) := by
  have k2 := Kp.grownBy (S := fun k => cD.v.ownBlock = some k) h2 (fun _ h => h)
  have hne : ∀ {B' : Nat} {e : TypeId} {size n : Nat} {u : Value} {xs : List Value}, w.ownsRow B' e size u n xs → e ≠ 23 → w1.ownsRow B' e size u n xs := fun ho hT => owns_kp k2 ho (fun b e e2 => owns_ne_own ho h.rD hT b e e2)
  have hb := (k2.block _ (tk_lt h.blk) (fun e => owns_ne_blk h.rD h.blk (by decide) kb e rfl)).trans h.blk
  have sk := tk_set hb 3 c'.v
  have hn2 : ∀ {B' : Nat} {e : TypeId} {size n : Nat} {u : Value} {xs : List Value}, w1.ownsRow B' e size u n xs → e ≠ 43 → (w1.setCell ⟨kb, 3, none⟩ c'.v).ownsRow B' e size u n xs := fun ho hT => owns_kp sk.2 ho (fun b e e2 => owns_ne_blk ho hb hT b e e2)
  have fam : ∀ {α : Type} {E : El α} {T : TypeId} {vs : List LV} {ls : List (List α)}, Fm E T B w vs ls → T ≠ 23 → T ≠ 43 → Fm E T B (w1.setCell ⟨kb, 3, none⟩ c'.v) vs ls := fun hf hT hT2 => ⟨hf.len, fun i v l hv hl => hn2 (hne (hf.each i v l hv hl) hT) hT2, hf.apart⟩
  refine ⟨⟨sk.1, h.low, hn2 (hne h.rO (by decide)) (by decide), hn2 (hne h.rC (by decide)) (by decide), hn2 (hne h.rN (by decide)) (by decide), hn2 (owns_re h1 (by simp) (by rw [fl_append, fl_one]; rfl)) (by decide), fam h.fO (by decide) (by decide), fam h.fC (by decide) (by decide), fam h.fN (by decide) (by decide), (fam h.fD (by decide) (by decide)).snoc (hn2 (hne ho (by decide)) (by decide)) hn⟩, (k2.mono (T := fun j => B ≤ j) (fun j e => (owns_rd h.rD j e).1)).trans sk.2 (fun j _ e => by rw [e]; exact h.low), ⟨fun ho e0 e1 e2 e3 e4 => hn2 (hne ho e3) e4⟩⟩
/-- A graph whose lists are to be written down: its blocks lie at H and behind. -/
structure Go (H : Nat) (w : World) (nv ev : LV) (xs : List NV) (es : List Edg) : Prop where
  nodes : w.ownsRow H 67 10 nv.v xs.length (fl EV xs)
  edges : w.ownsRow H 69 5 ev.v es.length (fl ED es)
  each : ∀ x ∈ xs, w.ownsRow H 78 2 x.cv x.n.code.length (fl EO x.n.code) ∧ w.ownsRow H 80 5 x.dv x.n.conns.length (fl EC x.n.conns)
  dup : ∀ (i j : Nat) (x y : NV) (b : Nat), xs[i]? = some x → xs[j]? = some y → (x.cv.ownBlock = some b → y.cv.ownBlock = some b → i = j) ∧ (x.dv.ownBlock = some b → y.dv.ownBlock = some b → i = j)
theorem Go.oth {H : Nat} {w w' : World} {nv ev : LV} {xs : List NV} {es : List Edg} (h : Go H w nv ev xs es) (ho : Oth w w') : Go H w' nv ev xs es :=
  ⟨ho.get h.nodes (by decide) (by decide) (by decide) (by decide) (by decide), ho.get h.edges (by decide) (by decide) (by decide) (by decide) (by decide), fun x hx => ⟨ho.get (h.each x hx).1 (by decide) (by decide) (by decide) (by decide) (by decide), ho.get (h.each x hx).2 (by decide) (by decide) (by decide) (by decide) (by decide)⟩, h.dup⟩
theorem Go.below {H : Nat} {w w' : World} {nv ev : LV} {xs : List NV} {es : List Edg} (h : Go H w nv ev xs es) (hb : Below w.heap.size w w') : Go H w' nv ev xs es :=
  ⟨owns_below h.nodes hb, owns_below h.edges hb, fun x hx => ⟨owns_below (h.each x hx).1 hb, owns_below (h.each x hx).2 hb⟩, h.dup⟩
theorem Bk.below {B : Nat} {w w1 : World} {kb : Nat} {cO cC cN cD : LV} {vO : List LV} {lO : List (List Opd)} {vC : List LV} {lC : List (List Con)} {vN : List LV} {lN : List (List NV)} {vD : List LV} {lD : List (List Edg)} (h : Bk B w kb cO cC cN cD vO lO vC lC vN lN vD lD) (hb : Below w.heap.size w w1) : Bk B w1 kb cO cC cN cD vO lO vC lC vN lN vD lD :=
  ⟨(hb.block _ (tk_lt h.blk)).trans h.blk, h.low, owns_below h.rO hb, owns_below h.rC hb, owns_below h.rN hb, owns_below h.rD hb, h.fO.below hb, h.fC.below hb, h.fN.below hb, h.fD.below hb⟩
def Lw (H : Nat) (vs : List LV) : Prop := ∀ v ∈ vs, ∀ b, v.v.ownBlock = some b → b < H
def cvL (x : NV) : LV := ⟨x.cq, x.cm, x.cc⟩
def dvL (x : NV) : LV := ⟨x.dq, x.dm, x.dc⟩
/-- What add leaves. -/
def Add (B : Nat) (w : World) (kb : Nat) (vO : List LV) (lO : List (List Opd)) (vC : List LV) (lC : List (List Con)) (vN : List LV) (lN : List (List NV)) (vD : List LV) (lD : List (List Edg)) (nv ev : LV) (xs : List NV) (es : List Edg) (r : Ending) (w' : World) : Prop := r = .returned (.tuple #[]) ∧ ∃ cO cC cN cD, Bk B w' kb cO cC cN cD (vO ++ xs.map cvL) (lO ++ xs.map (fun x => x.n.code)) (vC ++ xs.map dvL) (lC ++ xs.map (fun x => x.n.conns)) (vN ++ [nv]) (lN ++ [xs]) (vD ++ [ev]) (lD ++ [es]) ∧ Kp (fun k => B ≤ k) w w' ∧ Oth w w'
theorem Oth.refl (w : World) : Oth w w := ⟨fun h _ _ _ _ _ => h⟩
theorem Oth.trans {a b c : World} (h : Oth a b) (k : Oth b c) : Oth a c := ⟨fun ho e0 e1 e2 e3 e4 => k.get (h.get ho e0 e1 e2 e3 e4) e0 e1 e2 e3 e4⟩
theorem Oth.of_below {a b : World} (h : Below a.heap.size a b) : Oth a b := ⟨fun ho _ _ _ _ _ => owns_below ho h⟩
/-- A list that is not in the book yet. -/
theorem new_of {H j : Nat} {vs : List LV} {xs : List NV} {x : NV} {g : NV → LV} (hl : Lw H vs) (hlow : ∀ b, (g x).v.ownBlock = some b → H ≤ b) (hd : ∀ (i : Nat) (y : NV) (b : Nat), xs[i]? = some y → (g y).v.ownBlock = some b → (g x).v.ownBlock = some b → i = j) : ∀ u ∈ vs ++ (xs.take j).map g, ∀ b, (g x).v.ownBlock = some b → u.v.ownBlock ≠ some b := fun u hu b hb hc => by
  rcases List.mem_append.1 hu with hu | hu
  · have h1 := hl u hu b hc
    have h2 := hlow b hb
    omega
  · obtain ⟨y, hy, rfl⟩ := List.mem_map.1 hu
    obtain ⟨i, hi, rfl⟩ := List.mem_iff_getElem.1 hy
    have hij : i < j ∧ i < xs.length := by simp at hi; omega
    have := hd i (xs.take j)[i] b (by simp [hij.2]) hc hb
    omega
set_option maxRecDepth 100000 in
set_option maxHeartbeats 8000000 in
theorem add_any {B H kb : Nat} {a : Int} {cO cC cN cD : LV} {vO : List LV} {lO : List (List Opd)} {vC : List LV} {lC : List (List Con)} {vN : List LV} {lN : List (List NV)} {vD : List LV} {lD : List (List Edg)} {nv ev : LV} {xs : List NV} {es : List Edg} (w : World) (hB : Bk B w kb cO cC cN cD vO lO vC lC vN lN vD lD) (hG : Go H w nv ev xs es) (hBH : B ≤ H) (hO : Lw H vO) (hC : Lw H vC) (hN : Lw H vN) (hD : Lw H vD) (hz : vO.length ≤ 500 ∧ vC.length ≤ 500 ∧ vN.length ≤ 500 ∧ vD.length ≤ 500 ∧ xs.length ≤ 24) : Calls Try.prog 12 #[.pointer (some ⟨kb, 0, none⟩), .agg (gvc a nv.v ev.v)] w (Add B w kb vO lO vC lC vN lN vD lD nv ev xs es) := by
  have hmx : Try.prog.follows .mixedOrders = true := by kernel_rfl
  obtain ⟨nq, nm, nc⟩ := nv
  obtain ⟨eq, em, ec⟩ := ev
  have hnm : nm = xs.length := (owns_caps hG.nodes _ _ _ rfl).1
  subst hnm
  have g0 := (Gr.refl w).alloc (.cells (gvc a (.slice nq xs.length nc) (.slice eq em ec)) 25)
  have HB0 := hid (heap_new' w (.cells (gvc a (.slice nq xs.length nc) (.slice eq em ec)) 25))
  obtain ⟨gb, hgb⟩ : ∃ b, b = w.heap.size := ⟨_, rfl⟩
  obtain ⟨W0, hW0⟩ : ∃ W, W = w.alloc (.cells (gvc a (.slice nq xs.length nc) (.slice eq em ec)) 25) := ⟨_, rfl⟩
  have HW : Hid (w.alloc (.cells #[.int .i64 a, .slice nq xs.length nc, .slice eq em ec] 25) = W0 ∧ w.heap.size = gb) := ⟨hW0.symm, hgb.symm⟩
  rw [← hW0, ← hgb] at HB0
  rw [← hW0] at g0
  have I0 : Hid ((Bk B W0 kb cO cC cN cD vO lO vC lC vN lN vD lD ∧ Go H W0 ⟨nq, xs.length, nc⟩ ⟨eq, em, ec⟩ xs es ∧ W0.heap[gb]? = some (.cells (gvc a (.slice nq xs.length nc) (.slice eq em ec)) 25 (0, 0))) ∧ Kp (fun k => B ≤ k) w W0 ∧ Oth w W0) := ⟨⟨hB.below g0.below, hG.below g0.below, HB0.out⟩, Kp.of_gr g0, Oth.of_below g0.below⟩
  have HL : Hid (Lw H vO ∧ Lw H vC ∧ Lw H vN ∧ Lw H vD ∧ B ≤ H) := ⟨hO, hC, hN, hD, hBH⟩
  have HZ := hid hz
  have hz24 : xs.length ≤ 24 := hz.2.2.2.2
  clear hB hG hO hC hN hD hBH hz g0 hW0 hgb
  have c0 := (tk_store HB0.out).1
  have l0 := tk_lt HB0.out
  go_enter Try.func12, Try.ntmps12
  go_upto_region 1 with fail
  rw [HW.out.1, HW.out.2]
  clear HW
  go_wp2_with fail
  clear c0 l0 HB0
  generalize hxn : xs.length = xn at *
  go_loopw [9] (fun s wr => ∃ (j : Nat) (cO cC : LV), j ≤ xn ∧ s = .int .i64 (j : Nat) ∧ Hid ((Bk B wr kb cO cC cN cD (vO ++ (xs.take j).map cvL) (lO ++ (xs.take j).map (fun x => x.n.code)) (vC ++ (xs.take j).map dvL) (lC ++ (xs.take j).map (fun x => x.n.conns)) vN lN vD lD ∧ Go H wr ⟨nq, xn, nc⟩ ⟨eq, em, ec⟩ xs es ∧ wr.heap[gb]? = some (.cells (gvc a (.slice nq xn nc) (.slice eq em ec)) 25 (0, 0))) ∧ Kp (fun k => B ≤ k) w wr ∧ Oth w wr)) (fun s _ => xn - (RowKit.intOf s).toNat)
  case atStart => exact ⟨0, cO, cC, Nat.zero_le _, rfl, by rw [List.take_zero]; simp only [List.map_nil, List.append_nil]; exact I0.out⟩
  case round =>
    clear I0 cO cC
    obtain ⟨j, ⟨qO, mO, kO⟩, ⟨qC, mC, kC⟩, hj, rfl, HI⟩ := hrel
    obtain ⟨qN, mN, kN⟩ := cN
    obtain ⟨qD, mD, kD⟩ := cD
    by_cases hlt : j < xn
    · have hltz : (j : Int) < (xn : Int) := by omega
      have hj0 : (0 : Int) ≤ (j : Int) := by omega
      obtain ⟨y, hy⟩ : ∃ y, xs[j]? = some y := ⟨xs[j]'(by omega), List.getElem?_eq_getElem (by omega)⟩
      have hym := List.mem_of_getElem? hy
      obtain ⟨b1, o1, q1, e1, zz1, x0, x1, x2, x3, x4, x5, x6, x7, x8, x9⟩ := ls_atV (owns_ls (E := EV) HI.out.1.2.1.nodes) hy
      simp only [LV.v, Value.slice.injEq] at e1
      have HY : Hid (xs[j]? = some y ∧ y ∈ xs) := ⟨hy, hym⟩
      have hq1 := e1.1
      have hq2 := e1.2.2
      obtain ⟨yb, hyb⟩ : ∃ b, b = wr.heap.size := ⟨_, rfl⟩
      obtain ⟨W5, hW5⟩ : ∃ W, W = wr.alloc (.cells y.cells 67) := ⟨_, rfl⟩
      have P5 : Hid ((Bk B W5 kb ⟨qO, mO, kO⟩ ⟨qC, mC, kC⟩ ⟨qN, mN, kN⟩ ⟨qD, mD, kD⟩ (vO ++ (xs.take j).map cvL) (lO ++ (xs.take j).map (fun x => x.n.code)) (vC ++ (xs.take j).map dvL) (lC ++ (xs.take j).map (fun x => x.n.conns)) vN lN vD lD ∧ Go H W5 ⟨nq, xn, nc⟩ ⟨eq, em, ec⟩ xs es ∧ W5.heap[gb]? = some (.cells (gvc a (.slice nq xn nc) (.slice eq em ec)) 25 (0, 0))) ∧ (Kp (fun k => B ≤ k) w W5 ∧ Oth w W5) ∧ W5.heap[yb]? = some (.cells y.cells 67 (0, 0))) := by
        have g5 := ((Gr.refl wr).alloc (.cells y.cells 67)).below
        rw [hW5, hyb]
        exact ⟨⟨HI.out.1.1.below g5, HI.out.1.2.1.below g5, (g5.block _ (tk_lt HI.out.1.2.2)).trans HI.out.1.2.2⟩, ⟨HI.out.2.1.trans (Kp.of_below g5) (fun _ _ h => h), HI.out.2.2.trans (Oth.of_below g5)⟩, heap_new' _ _⟩
      have HW5 : Hid (wr.alloc (.cells #[.int .i64 y.n.kind, .int .i64 y.n.ins, .int .i64 y.n.outs, .slice y.cq y.cm y.cc, .int .u64 (y.n.via.1 : Nat), .int .u64 (y.n.via.2.1 : Nat), .int .u64 (y.n.via.2.2 : Nat), .int .u64 (y.n.bound : Nat), .slice y.dq y.dm y.dc, .bool y.n.start] 67) = W5 ∧ wr.heap.size = yb) := ⟨hW5.symm, hyb.symm⟩
      clear hW5 hyb hy hym e1
      rw [hq1, hq2]
      go_upto_region 4 with fail
      rw [HW5.out.1, HW5.out.2]
      clear HW5 x0 x1 x2 x3 x4 x5 x6 x7 x8 x9 zz1
      have B1 : Hid (Bk B W5 kb ⟨qO, mO, kO⟩ ⟨qC, mC, kC⟩ ⟨qN, mN, kN⟩ ⟨qD, mD, kD⟩ (vO ++ (xs.take j).map cvL) (lO ++ (xs.take j).map (fun x => x.n.code)) (vC ++ (xs.take j).map dvL) (lC ++ (xs.take j).map (fun x => x.n.conns)) vN lN vD lD ∧ W5.heap[yb]? = some (.cells y.cells 67 (0, 0))) := ⟨P5.out.1.1, P5.out.2.2⟩
      have hS1 : W5.drew.heap[kb]? = some (.cells #[LV.v ⟨qO, mO, kO⟩, LV.v ⟨qC, mC, kC⟩, LV.v ⟨qN, mN, kN⟩, LV.v ⟨qD, mD, kD⟩] 43 (0, 0)) ∧ W5.drew.heap[yb]? = some (.cells y.cells 67 (0, 0)) := ⟨B1.out.1.blk, B1.out.2⟩
      obtain ⟨n1, hn1⟩ : ∃ n, n = ((vO ++ (xs.take j).map cvL)).length := ⟨_, rfl⟩
      have HN1 := hid hn1
      have hn91 : n1 ≤ 600 := by rw [hn1]; have := HZ.out.1; simp; omega
      clear hn1
      refine wp_regionD (S := fun W => W.heap[kb]? = some (.cells #[LV.v ⟨qO, mO, kO⟩, LV.v ⟨qC, mC, kC⟩, LV.v ⟨qN, mN, kN⟩, LV.v ⟨qD, mD, kD⟩] 43 (0, 0)) ∧ W.heap[yb]? = some (.cells y.cells 67 (0, 0))) (D := [11]) hmx ?_
      refine' wpAnyD_take (i := 0) (oi := { dst := some 13, op := Go.Op.move (Go.Operand.tmp 0), type := 37, pos := "outright.go:96", after := #[], guard := none }) (v := _) rfl (by kernel_rfl) (by kernel_rfl) (by kernel_rfl) (fun _ _ _ h => h) (by kernel_rfl) (Or.inl ⟨by rfl, ?hy1⟩) hS1 ?rest1
      case hy1 => (intro W hSw; go_simp; try (with_reducible rfl))
      try simp only [Act.put, List.setIfInBounds_toArray, List.set_cons_zero, List.set_cons_succ]
      refine' wpAnyD_take (i := 1) (oi := { dst := some 14, op := Go.Op.move (Go.Operand.tmp 0), type := 37, pos := "outright.go:96", after := #[], guard := none }) (v := _) rfl (by kernel_rfl) (by kernel_rfl) (by kernel_rfl) (fun _ _ _ h => h) (by kernel_rfl) (Or.inl ⟨by rfl, ?hy2⟩) hS1 ?rest2
      case hy2 => (intro W hSw; go_simp; try (with_reducible rfl))
      try simp only [Act.put, List.setIfInBounds_toArray, List.set_cons_zero, List.set_cons_succ]
      refine' wpAnyD_take (i := 2) (oi := { dst := some 15, op := Go.Op.nilCheck (Go.Operand.tmp 14), type := 0, pos := "outright.go:96", after := #[{ on := 1, ground := Go.Ground.data }], guard := none }) (v := _) rfl (by kernel_rfl) (by kernel_rfl) (by kernel_rfl) (fun _ _ _ h => h) (by kernel_rfl) (Or.inl ⟨by rfl, ?hy3⟩) hS1 ?rest3
      case hy3 => (intro W hSw; go_simp; try (with_reducible rfl))
      try simp only [Act.put, List.setIfInBounds_toArray, List.set_cons_zero, List.set_cons_succ]
      refine' wpAnyD_take (i := 3) (oi := { dst := some 16, op := Go.Op.fieldAddr 43 (Go.Operand.tmp 15) 0, type := 0, pos := "outright.go:96", after := #[{ on := 2, ground := Go.Ground.data }], guard := none }) (v := _) rfl (by kernel_rfl) (by kernel_rfl) (by kernel_rfl) (fun _ _ _ h => h) (by kernel_rfl) (Or.inl ⟨by rfl, ?hy4⟩) hS1 ?rest4
      case hy4 => (intro W hSw; go_simp; try (with_reducible rfl))
      try simp only [Act.put, List.setIfInBounds_toArray, List.set_cons_zero, List.set_cons_succ]
      refine' wpAnyD_take (i := 4) (oi := { dst := some 17, op := Go.Op.load 38 (Go.Operand.tmp 16), type := 38, pos := "outright.go:96", after := #[{ on := 3, ground := Go.Ground.data }], guard := none }) (v := _) rfl (by kernel_rfl) (by kernel_rfl) (by kernel_rfl) (fun _ _ _ h => h) (by kernel_rfl) (Or.inl ⟨by rfl, ?hy5⟩) hS1 ?rest5
      case hy5 => (intro W hSw; have hc := (tk_store hSw.1).1; simp only [LV.v] at hc; have hl := tk_lt hSw.1; go_simp; try (with_reducible rfl))
      try simp only [Act.put, List.setIfInBounds_toArray, List.set_cons_zero, List.set_cons_succ]
      refine' wpAnyD_take (i := 5) (oi := { dst := some 18, op := Go.Op.fieldAddr 67 (Go.Operand.tmp 5) 3, type := 0, pos := "outright.go:96", after := #[], guard := none }) (v := _) rfl (by kernel_rfl) (by kernel_rfl) (by kernel_rfl) (fun _ _ _ h => h) (by kernel_rfl) (Or.inl ⟨by rfl, ?hy6⟩) hS1 ?rest6
      case hy6 => (intro W hSw; go_simp; try (with_reducible rfl))
      try simp only [Act.put, List.setIfInBounds_toArray, List.set_cons_zero, List.set_cons_succ]
      refine' wpAnyD_take (i := 6) (oi := { dst := some 19, op := Go.Op.load 61 (Go.Operand.tmp 18), type := 61, pos := "outright.go:96", after := #[{ on := 5, ground := Go.Ground.data }], guard := none }) (v := _) rfl (by kernel_rfl) (by kernel_rfl) (by kernel_rfl) (fun _ _ _ h => h) (by kernel_rfl) (Or.inl ⟨by rfl, ?hy7⟩) hS1 ?rest7
      case hy7 => (intro W hSw; have hc := (tk_store hSw.2).1; have hl := tk_lt hSw.2; go_simp; try (with_reducible rfl))
      try simp only [Act.put, List.setIfInBounds_toArray, List.set_cons_zero, List.set_cons_succ]
      refine wpAnyD_one (i := 7) (o := { dst := some 20, op := Go.Op.buildSlice 38 1 #[(0, Go.Operand.tmp 19)], type := 38, pos := "outright.go:96", after := #[{ on := 6, ground := Go.Ground.data }], guard := none }) (by kernel_rfl) rfl (fun K hK => ?_)
      go_simp
      have b7 := ((Gr.refl W5).drew.alloc (.cells #[.slice y.cq y.cm y.cc] 61)).below
      have hU1 := (show _ ∧ _ from ⟨(b7.block _ (tk_lt hS1.1)).trans hS1.1, (b7.block _ (tk_lt hS1.2)).trans hS1.2⟩)
      clear b7
      refine hK.out _ _ (fun hD => hU1) ?_
      clear hK K
      try simp only [Act.put, List.setIfInBounds_toArray, List.set_cons_zero, List.set_cons_succ]
      refine wpAnyD_one (i := 8) (o := { dst := some 21, op := Go.Op.call { callee := Go.Callee.builtin Go.Builtin.append, args := #[Go.Operand.tmp 17, Go.Operand.tmp 20], argTypes := #[38, 38] }, type := 38, pos := "outright.go:96", after := #[{ on := 4, ground := Go.Ground.data }, { on := 7, ground := Go.Ground.data }], guard := none }) (by kernel_rfl) rfl (fun K hK => ?_)
      refine step_app1 EL Try.underlying38 infoL0 rfl (by decide) rfl _ _ rfl B (LV.v ⟨qO, mO, kO⟩) n1 (fl EL ((vO ++ (xs.take j).map cvL))) rfl (show (W5.drew).ownsRow B 61 1 (LV.v ⟨qO, mO, kO⟩) n1 (fl EL ((vO ++ (xs.take j).map cvL))) from owns_re B1.out.1.rO HN1.out.symm rfl) (cvL y) (by first | rfl | simp) (by omega) (by unfold maxLen; omega) (Nat.le_trans B1.out.1.low (Nat.le_of_lt (tk_lt B1.out.1.blk))) _ rfl _ ?_
      intro g1 cap1 w1 h1 k1 _
      have KK1 := Kp.grownBy (S := fun k => (LV.v ⟨qO, mO, kO⟩).ownBlock = some k) k1.out (fun _ h => h)
      have NB1 := Bk.addO (w := W5.drew) (c' := ⟨some ⟨g1, 0, none⟩, n1 + 1, cap1⟩) (v := (cvL y)) (l := y.n.code) (B1.out.1.below (Gr.refl W5).drew.below) (show (W5.drew).ownsRow _ _ _ _ _ _ from owns_base (P5.out.1.2.1.each y HY.out.2).1 HL.out.2.2.2.2) (new_of (g := cvL) (x := y) HL.out.1 (fun b e => (owns_rd (P5.out.1.2.1.each y HY.out.2).1 b e).1) (fun i z b hz e1 e2 => (P5.out.1.2.1.dup i j z y b hz HY.out.1).1 e1 e2)) (owns_re h1.out (by rw [HN1.out]) rfl) k1.out
      have ST1 : Hid (Bk B (w1.setCell ⟨kb, 0, none⟩ (.slice (some ⟨g1, 0, none⟩) (n1 + 1) cap1)) kb ⟨some ⟨g1, 0, none⟩, n1 + 1, cap1⟩ ⟨qC, mC, kC⟩ ⟨qN, mN, kN⟩ ⟨qD, mD, kD⟩ ((vO ++ (xs.take j).map cvL) ++ [(cvL y)]) ((lO ++ (xs.take j).map (fun x => x.n.code)) ++ [y.n.code]) (vC ++ (xs.take j).map dvL) (lC ++ (xs.take j).map (fun x => x.n.conns)) vN lN vD lD ∧ Kp (fun k => B ≤ k) W5 (w1.setCell ⟨kb, 0, none⟩ (.slice (some ⟨g1, 0, none⟩) (n1 + 1) cap1)) ∧ Oth W5 (w1.setCell ⟨kb, 0, none⟩ (.slice (some ⟨g1, 0, none⟩) (n1 + 1) cap1))) := ⟨NB1.1, (Kp.of_gr (Gr.refl W5).drew).trans NB1.2.1 (fun _ _ h => h), (Oth.of_below (Gr.refl W5).drew.below).trans NB1.2.2⟩
      have hT1 : w1.heap[kb]? = some (.cells #[LV.v ⟨qO, mO, kO⟩, LV.v ⟨qC, mC, kC⟩, LV.v ⟨qN, mN, kN⟩, LV.v ⟨qD, mD, kD⟩] 43 (0, 0)) ∧ w1.heap[yb]? = some (.cells y.cells 67 (0, 0)) := ⟨(KK1.block _ (tk_lt hS1.1) (fun e => owns_ne_blk B1.out.1.rO hS1.1 (by decide) kb e rfl)).trans hS1.1, (KK1.block _ (tk_lt hS1.2) (fun e => owns_ne_blk B1.out.1.rO hS1.2 (by decide) yb e rfl)).trans hS1.2⟩
      have hQYB1 : W5.drew.heap[yb]? = some (.cells y.cells 67 (0, 0)) := P5.out.2.2
      have hQGB1 : W5.drew.heap[gb]? = some (.cells (gvc a (.slice nq xn nc) (.slice eq em ec)) 25 (0, 0)) := P5.out.1.2.2
      have YB1 : Hid ((w1.setCell ⟨kb, 0, none⟩ (.slice (some ⟨g1, 0, none⟩) (n1 + 1) cap1)).heap[yb]? = some (.cells y.cells 67 (0, 0))) := ((tk_set hT1.1 0 _).2.block yb (Nat.lt_of_lt_of_le (tk_lt P5.out.2.2) KK1.size) (fun e => by rw [e] at hQYB1; have h9 := hQYB1; rw [hS1.1] at h9; simp only [Option.some.injEq, Obj.cells.injEq] at h9; exact absurd h9.2.1 (by decide))).trans ((KK1.block _ (tk_lt P5.out.2.2) (fun e => owns_ne_blk B1.out.1.rO P5.out.2.2 (by decide) yb e rfl)).trans P5.out.2.2)
      have GB1 : Hid ((w1.setCell ⟨kb, 0, none⟩ (.slice (some ⟨g1, 0, none⟩) (n1 + 1) cap1)).heap[gb]? = some (.cells (gvc a (.slice nq xn nc) (.slice eq em ec)) 25 (0, 0))) := ((tk_set hT1.1 0 _).2.block gb (Nat.lt_of_lt_of_le (tk_lt P5.out.1.2.2) KK1.size) (fun e => by rw [e] at hQGB1; have h9 := hQGB1; rw [hS1.1] at h9; simp only [Option.some.injEq, Obj.cells.injEq] at h9; exact absurd h9.2.1 (by decide))).trans ((KK1.block _ (tk_lt P5.out.1.2.2) (fun e => owns_ne_blk B1.out.1.rO P5.out.1.2.2 (by decide) gb e rfl)).trans P5.out.1.2.2)
      clear NB1 h1 k1
      refine hK.out _ _ (fun hD => hT1) ?_
      clear hK K
      try simp only [Act.put, List.setIfInBounds_toArray, List.set_cons_zero, List.set_cons_succ]
      refine wpAnyD_one (i := 9) (o := { dst := some 22, op := Go.Op.nilCheck (Go.Operand.tmp 13), type := 0, pos := "outright.go:96", after := #[{ on := 0, ground := Go.Ground.data }, { on := 0, ground := Go.Ground.phase }, { on := 1, ground := Go.Ground.phase }, { on := 2, ground := Go.Ground.phase }, { on := 3, ground := Go.Ground.phase }, { on := 4, ground := Go.Ground.phase }, { on := 5, ground := Go.Ground.phase }, { on := 6, ground := Go.Ground.phase }, { on := 7, ground := Go.Ground.phase }, { on := 8, ground := Go.Ground.phase }], guard := none }) (by kernel_rfl) rfl (fun K hK => ?_)
      go_simp
      refine hK.out _ _ (fun hD => hT1) ?_
      clear hK K
      try simp only [Act.put, List.setIfInBounds_toArray, List.set_cons_zero, List.set_cons_succ]
      refine' wpAnyD_take (i := 10) (oi := { dst := some 23, op := Go.Op.fieldAddr 43 (Go.Operand.tmp 22) 0, type := 0, pos := "outright.go:96", after := #[{ on := 9, ground := Go.Ground.data }, { on := 0, ground := Go.Ground.phase }, { on := 1, ground := Go.Ground.phase }, { on := 2, ground := Go.Ground.phase }, { on := 3, ground := Go.Ground.phase }, { on := 4, ground := Go.Ground.phase }, { on := 5, ground := Go.Ground.phase }, { on := 6, ground := Go.Ground.phase }, { on := 7, ground := Go.Ground.phase }, { on := 8, ground := Go.Ground.phase }], guard := none }) (v := _) rfl (by kernel_rfl) (by kernel_rfl) (by kernel_rfl) (fun _ _ _ h => h) (by kernel_rfl) (Or.inl ⟨by rfl, ?hy11⟩) hT1 ?rest11
      case hy11 => (intro W hSw; go_simp; try (with_reducible rfl))
      try simp only [Act.put, List.setIfInBounds_toArray, List.set_cons_zero, List.set_cons_succ]
      refine wpAnyD_one (i := 11) (o := { dst := none, op := Go.Op.store 38 (Go.Operand.tmp 23) (Go.Operand.tmp 21), type := 0, pos := "outright.go:96", after := #[{ on := 10, ground := Go.Ground.data }, { on := 8, ground := Go.Ground.data }, { on := 8, ground := Go.Ground.chain }, { on := 0, ground := Go.Ground.phase }, { on := 1, ground := Go.Ground.phase }, { on := 2, ground := Go.Ground.phase }, { on := 3, ground := Go.Ground.phase }, { on := 4, ground := Go.Ground.phase }, { on := 5, ground := Go.Ground.phase }, { on := 6, ground := Go.Ground.phase }, { on := 7, ground := Go.Ground.phase }, { on := 8, ground := Go.Ground.phase }], guard := none }) (by kernel_rfl) rfl (fun K hK => ?_)
      have c8 := (tk_store hT1.1).1
      simp only [LV.v] at c8
      have f8 := (tk_store hT1.1).2
      have l8 := tk_lt hT1.1
      go_simp
      generalize (w1.setCell ⟨kb, 0, none⟩ (.slice (some ⟨g1, 0, none⟩) (n1 + 1) cap1)) = V1 at ST1 YB1 GB1 ⊢
      clear c8 f8 l8
      refine hK.out _ _ (fun hD => absurd (by decide) hD) ?_
      clear hK K
      try simp only [Act.put, List.setIfInBounds_toArray, List.set_cons_zero, List.set_cons_succ]
      refine wpAnyD_done (by kernel_rfl) ?_ _
      clear hS1 hU1 hT1 KK1 hQYB1 hQGB1
      go_upto_region 5 with fail
      have G1 := hid (P5.out.1.2.1.oth ST1.out.2.2)
      have B2 : Hid (Bk B V1 kb ⟨some ⟨g1, 0, none⟩, n1 + 1, cap1⟩ ⟨qC, mC, kC⟩ ⟨qN, mN, kN⟩ ⟨qD, mD, kD⟩ ((vO ++ (xs.take j).map cvL) ++ [(cvL y)]) ((lO ++ (xs.take j).map (fun x => x.n.code)) ++ [y.n.code]) (vC ++ (xs.take j).map dvL) (lC ++ (xs.take j).map (fun x => x.n.conns)) vN lN vD lD ∧ V1.heap[yb]? = some (.cells y.cells 67 (0, 0))) := ⟨ST1.out.1, YB1.out⟩
      have hS2 : V1.drew.heap[kb]? = some (.cells #[LV.v ⟨some ⟨g1, 0, none⟩, n1 + 1, cap1⟩, LV.v ⟨qC, mC, kC⟩, LV.v ⟨qN, mN, kN⟩, LV.v ⟨qD, mD, kD⟩] 43 (0, 0)) ∧ V1.drew.heap[yb]? = some (.cells y.cells 67 (0, 0)) := ⟨B2.out.1.blk, B2.out.2⟩
      obtain ⟨n2, hn2⟩ : ∃ n, n = ((vC ++ (xs.take j).map dvL)).length := ⟨_, rfl⟩
      have HN2 := hid hn2
      have hn92 : n2 ≤ 600 := by rw [hn2]; have := HZ.out.2.1; simp; omega
      clear hn2
      refine wp_regionD (S := fun W => W.heap[kb]? = some (.cells #[LV.v ⟨some ⟨g1, 0, none⟩, n1 + 1, cap1⟩, LV.v ⟨qC, mC, kC⟩, LV.v ⟨qN, mN, kN⟩, LV.v ⟨qD, mD, kD⟩] 43 (0, 0)) ∧ W.heap[yb]? = some (.cells y.cells 67 (0, 0))) (D := [11]) hmx ?_
      refine' wpAnyD_take (i := 0) (oi := { dst := some 24, op := Go.Op.move (Go.Operand.tmp 0), type := 37, pos := "outright.go:97", after := #[], guard := none }) (v := _) rfl (by kernel_rfl) (by kernel_rfl) (by kernel_rfl) (fun _ _ _ h => h) (by kernel_rfl) (Or.inl ⟨by rfl, ?hy13⟩) hS2 ?rest13
      case hy13 => (intro W hSw; go_simp; try (with_reducible rfl))
      try simp only [Act.put, List.setIfInBounds_toArray, List.set_cons_zero, List.set_cons_succ]
      refine' wpAnyD_take (i := 1) (oi := { dst := some 25, op := Go.Op.move (Go.Operand.tmp 0), type := 37, pos := "outright.go:97", after := #[], guard := none }) (v := _) rfl (by kernel_rfl) (by kernel_rfl) (by kernel_rfl) (fun _ _ _ h => h) (by kernel_rfl) (Or.inl ⟨by rfl, ?hy14⟩) hS2 ?rest14
      case hy14 => (intro W hSw; go_simp; try (with_reducible rfl))
      try simp only [Act.put, List.setIfInBounds_toArray, List.set_cons_zero, List.set_cons_succ]
      refine' wpAnyD_take (i := 2) (oi := { dst := some 26, op := Go.Op.nilCheck (Go.Operand.tmp 25), type := 0, pos := "outright.go:97", after := #[{ on := 1, ground := Go.Ground.data }], guard := none }) (v := _) rfl (by kernel_rfl) (by kernel_rfl) (by kernel_rfl) (fun _ _ _ h => h) (by kernel_rfl) (Or.inl ⟨by rfl, ?hy15⟩) hS2 ?rest15
      case hy15 => (intro W hSw; go_simp; try (with_reducible rfl))
      try simp only [Act.put, List.setIfInBounds_toArray, List.set_cons_zero, List.set_cons_succ]
      refine' wpAnyD_take (i := 3) (oi := { dst := some 27, op := Go.Op.fieldAddr 43 (Go.Operand.tmp 26) 1, type := 0, pos := "outright.go:97", after := #[{ on := 2, ground := Go.Ground.data }], guard := none }) (v := _) rfl (by kernel_rfl) (by kernel_rfl) (by kernel_rfl) (fun _ _ _ h => h) (by kernel_rfl) (Or.inl ⟨by rfl, ?hy16⟩) hS2 ?rest16
      case hy16 => (intro W hSw; go_simp; try (with_reducible rfl))
      try simp only [Act.put, List.setIfInBounds_toArray, List.set_cons_zero, List.set_cons_succ]
      refine' wpAnyD_take (i := 4) (oi := { dst := some 28, op := Go.Op.load 39 (Go.Operand.tmp 27), type := 39, pos := "outright.go:97", after := #[{ on := 3, ground := Go.Ground.data }], guard := none }) (v := _) rfl (by kernel_rfl) (by kernel_rfl) (by kernel_rfl) (fun _ _ _ h => h) (by kernel_rfl) (Or.inl ⟨by rfl, ?hy17⟩) hS2 ?rest17
      case hy17 => (intro W hSw; have hc := (tk_store hSw.1).1; simp only [LV.v] at hc; have hl := tk_lt hSw.1; go_simp; try (with_reducible rfl))
      try simp only [Act.put, List.setIfInBounds_toArray, List.set_cons_zero, List.set_cons_succ]
      refine' wpAnyD_take (i := 5) (oi := { dst := some 29, op := Go.Op.fieldAddr 67 (Go.Operand.tmp 5) 6, type := 0, pos := "outright.go:97", after := #[], guard := none }) (v := _) rfl (by kernel_rfl) (by kernel_rfl) (by kernel_rfl) (fun _ _ _ h => h) (by kernel_rfl) (Or.inl ⟨by rfl, ?hy18⟩) hS2 ?rest18
      case hy18 => (intro W hSw; go_simp; try (with_reducible rfl))
      try simp only [Act.put, List.setIfInBounds_toArray, List.set_cons_zero, List.set_cons_succ]
      refine' wpAnyD_take (i := 6) (oi := { dst := some 30, op := Go.Op.load 65 (Go.Operand.tmp 29), type := 65, pos := "outright.go:97", after := #[{ on := 5, ground := Go.Ground.data }], guard := none }) (v := _) rfl (by kernel_rfl) (by kernel_rfl) (by kernel_rfl) (fun _ _ _ h => h) (by kernel_rfl) (Or.inl ⟨by rfl, ?hy19⟩) hS2 ?rest19
      case hy19 => (intro W hSw; have hc := (tk_store hSw.2).1; have hl := tk_lt hSw.2; go_simp; try (with_reducible rfl))
      try simp only [Act.put, List.setIfInBounds_toArray, List.set_cons_zero, List.set_cons_succ]
      refine wpAnyD_one (i := 7) (o := { dst := some 31, op := Go.Op.buildSlice 39 1 #[(0, Go.Operand.tmp 30)], type := 39, pos := "outright.go:97", after := #[{ on := 6, ground := Go.Ground.data }], guard := none }) (by kernel_rfl) rfl (fun K hK => ?_)
      go_simp
      have b7 := ((Gr.refl V1).drew.alloc (.cells #[.slice y.dq y.dm y.dc] 65)).below
      have hU2 := (show _ ∧ _ from ⟨(b7.block _ (tk_lt hS2.1)).trans hS2.1, (b7.block _ (tk_lt hS2.2)).trans hS2.2⟩)
      clear b7
      refine hK.out _ _ (fun hD => hU2) ?_
      clear hK K
      try simp only [Act.put, List.setIfInBounds_toArray, List.set_cons_zero, List.set_cons_succ]
      refine wpAnyD_one (i := 8) (o := { dst := some 32, op := Go.Op.call { callee := Go.Callee.builtin Go.Builtin.append, args := #[Go.Operand.tmp 28, Go.Operand.tmp 31], argTypes := #[39, 39] }, type := 39, pos := "outright.go:97", after := #[{ on := 4, ground := Go.Ground.data }, { on := 7, ground := Go.Ground.data }], guard := none }) (by kernel_rfl) rfl (fun K hK => ?_)
      refine step_app1 EL Try.underlying39 infoL1 rfl (by decide) rfl _ _ rfl B (LV.v ⟨qC, mC, kC⟩) n2 (fl EL ((vC ++ (xs.take j).map dvL))) rfl (show (V1.drew).ownsRow B 65 1 (LV.v ⟨qC, mC, kC⟩) n2 (fl EL ((vC ++ (xs.take j).map dvL))) from owns_re B2.out.1.rC HN2.out.symm rfl) (dvL y) (by first | rfl | simp) (by omega) (by unfold maxLen; omega) (Nat.le_trans B2.out.1.low (Nat.le_of_lt (tk_lt B2.out.1.blk))) _ rfl _ ?_
      intro g2 cap2 w2 h2 k2 _
      have KK2 := Kp.grownBy (S := fun k => (LV.v ⟨qC, mC, kC⟩).ownBlock = some k) k2.out (fun _ h => h)
      have NB2 := Bk.addC (w := V1.drew) (c' := ⟨some ⟨g2, 0, none⟩, n2 + 1, cap2⟩) (v := (dvL y)) (l := y.n.conns) (B2.out.1.below (Gr.refl V1).drew.below) (show (V1.drew).ownsRow _ _ _ _ _ _ from owns_base (G1.out.each y HY.out.2).2 HL.out.2.2.2.2) (new_of (g := dvL) (x := y) HL.out.2.1 (fun b e => (owns_rd (G1.out.each y HY.out.2).2 b e).1) (fun i z b hz e1 e2 => (G1.out.dup i j z y b hz HY.out.1).2 e1 e2)) (owns_re h2.out (by rw [HN2.out]) rfl) k2.out
      have ST2 : Hid (Bk B (w2.setCell ⟨kb, 1, none⟩ (.slice (some ⟨g2, 0, none⟩) (n2 + 1) cap2)) kb ⟨some ⟨g1, 0, none⟩, n1 + 1, cap1⟩ ⟨some ⟨g2, 0, none⟩, n2 + 1, cap2⟩ ⟨qN, mN, kN⟩ ⟨qD, mD, kD⟩ ((vO ++ (xs.take j).map cvL) ++ [(cvL y)]) ((lO ++ (xs.take j).map (fun x => x.n.code)) ++ [y.n.code]) ((vC ++ (xs.take j).map dvL) ++ [(dvL y)]) ((lC ++ (xs.take j).map (fun x => x.n.conns)) ++ [y.n.conns]) vN lN vD lD ∧ Kp (fun k => B ≤ k) V1 (w2.setCell ⟨kb, 1, none⟩ (.slice (some ⟨g2, 0, none⟩) (n2 + 1) cap2)) ∧ Oth V1 (w2.setCell ⟨kb, 1, none⟩ (.slice (some ⟨g2, 0, none⟩) (n2 + 1) cap2))) := ⟨NB2.1, (Kp.of_gr (Gr.refl V1).drew).trans NB2.2.1 (fun _ _ h => h), (Oth.of_below (Gr.refl V1).drew.below).trans NB2.2.2⟩
      have hT2 : w2.heap[kb]? = some (.cells #[LV.v ⟨some ⟨g1, 0, none⟩, n1 + 1, cap1⟩, LV.v ⟨qC, mC, kC⟩, LV.v ⟨qN, mN, kN⟩, LV.v ⟨qD, mD, kD⟩] 43 (0, 0)) ∧ w2.heap[yb]? = some (.cells y.cells 67 (0, 0)) := ⟨(KK2.block _ (tk_lt hS2.1) (fun e => owns_ne_blk B2.out.1.rC hS2.1 (by decide) kb e rfl)).trans hS2.1, (KK2.block _ (tk_lt hS2.2) (fun e => owns_ne_blk B2.out.1.rC hS2.2 (by decide) yb e rfl)).trans hS2.2⟩
      have hQGB2 : V1.drew.heap[gb]? = some (.cells (gvc a (.slice nq xn nc) (.slice eq em ec)) 25 (0, 0)) := GB1.out
      have GB2 : Hid ((w2.setCell ⟨kb, 1, none⟩ (.slice (some ⟨g2, 0, none⟩) (n2 + 1) cap2)).heap[gb]? = some (.cells (gvc a (.slice nq xn nc) (.slice eq em ec)) 25 (0, 0))) := ((tk_set hT2.1 1 _).2.block gb (Nat.lt_of_lt_of_le (tk_lt GB1.out) KK2.size) (fun e => by rw [e] at hQGB2; have h9 := hQGB2; rw [hS2.1] at h9; simp only [Option.some.injEq, Obj.cells.injEq] at h9; exact absurd h9.2.1 (by decide))).trans ((KK2.block _ (tk_lt GB1.out) (fun e => owns_ne_blk B2.out.1.rC GB1.out (by decide) gb e rfl)).trans GB1.out)
      clear NB2 h2 k2
      refine hK.out _ _ (fun hD => hT2) ?_
      clear hK K
      try simp only [Act.put, List.setIfInBounds_toArray, List.set_cons_zero, List.set_cons_succ]
      refine wpAnyD_one (i := 9) (o := { dst := some 33, op := Go.Op.nilCheck (Go.Operand.tmp 24), type := 0, pos := "outright.go:97", after := #[{ on := 0, ground := Go.Ground.data }, { on := 0, ground := Go.Ground.phase }, { on := 1, ground := Go.Ground.phase }, { on := 2, ground := Go.Ground.phase }, { on := 3, ground := Go.Ground.phase }, { on := 4, ground := Go.Ground.phase }, { on := 5, ground := Go.Ground.phase }, { on := 6, ground := Go.Ground.phase }, { on := 7, ground := Go.Ground.phase }, { on := 8, ground := Go.Ground.phase }], guard := none }) (by kernel_rfl) rfl (fun K hK => ?_)
      go_simp
      refine hK.out _ _ (fun hD => hT2) ?_
      clear hK K
      try simp only [Act.put, List.setIfInBounds_toArray, List.set_cons_zero, List.set_cons_succ]
      refine' wpAnyD_take (i := 10) (oi := { dst := some 34, op := Go.Op.fieldAddr 43 (Go.Operand.tmp 33) 1, type := 0, pos := "outright.go:97", after := #[{ on := 9, ground := Go.Ground.data }, { on := 0, ground := Go.Ground.phase }, { on := 1, ground := Go.Ground.phase }, { on := 2, ground := Go.Ground.phase }, { on := 3, ground := Go.Ground.phase }, { on := 4, ground := Go.Ground.phase }, { on := 5, ground := Go.Ground.phase }, { on := 6, ground := Go.Ground.phase }, { on := 7, ground := Go.Ground.phase }, { on := 8, ground := Go.Ground.phase }], guard := none }) (v := _) rfl (by kernel_rfl) (by kernel_rfl) (by kernel_rfl) (fun _ _ _ h => h) (by kernel_rfl) (Or.inl ⟨by rfl, ?hy23⟩) hT2 ?rest23
      case hy23 => (intro W hSw; go_simp; try (with_reducible rfl))
      try simp only [Act.put, List.setIfInBounds_toArray, List.set_cons_zero, List.set_cons_succ]
      refine wpAnyD_one (i := 11) (o := { dst := none, op := Go.Op.store 39 (Go.Operand.tmp 34) (Go.Operand.tmp 32), type := 0, pos := "outright.go:97", after := #[{ on := 10, ground := Go.Ground.data }, { on := 8, ground := Go.Ground.data }, { on := 8, ground := Go.Ground.chain }, { on := 0, ground := Go.Ground.phase }, { on := 1, ground := Go.Ground.phase }, { on := 2, ground := Go.Ground.phase }, { on := 3, ground := Go.Ground.phase }, { on := 4, ground := Go.Ground.phase }, { on := 5, ground := Go.Ground.phase }, { on := 6, ground := Go.Ground.phase }, { on := 7, ground := Go.Ground.phase }, { on := 8, ground := Go.Ground.phase }], guard := none }) (by kernel_rfl) rfl (fun K hK => ?_)
      have c8 := (tk_store hT2.1).1
      simp only [LV.v] at c8
      have f8 := (tk_store hT2.1).2
      have l8 := tk_lt hT2.1
      go_simp
      generalize (w2.setCell ⟨kb, 1, none⟩ (.slice (some ⟨g2, 0, none⟩) (n2 + 1) cap2)) = V2 at ST2 GB2 ⊢
      clear c8 f8 l8
      refine hK.out _ _ (fun hD => absurd (by decide) hD) ?_
      clear hK K
      try simp only [Act.put, List.setIfInBounds_toArray, List.set_cons_zero, List.set_cons_succ]
      refine wpAnyD_done (by kernel_rfl) ?_ _
      clear hS2 hU2 hT2 KK2 hQGB2
      have FIN : Hid ((Bk B V2 kb ⟨some ⟨g1, 0, none⟩, n1 + 1, cap1⟩ ⟨some ⟨g2, 0, none⟩, n2 + 1, cap2⟩ ⟨qN, mN, kN⟩ ⟨qD, mD, kD⟩ (vO ++ (xs.take (j + 1)).map cvL) (lO ++ (xs.take (j + 1)).map (fun x => x.n.code)) (vC ++ (xs.take (j + 1)).map dvL) (lC ++ (xs.take (j + 1)).map (fun x => x.n.conns)) vN lN vD lD ∧ Go H V2 ⟨nq, xn, nc⟩ ⟨eq, em, ec⟩ xs es ∧ V2.heap[gb]? = some (.cells (gvc a (.slice nq xn nc) (.slice eq em ec)) 25 (0, 0))) ∧ Kp (fun k => B ≤ k) w V2 ∧ Oth w V2) := by
        have ht : xs.take (j + 1) = xs.take j ++ [y] := by rw [List.take_add_one, HY.out.1]; rfl
        refine ⟨⟨?_, G1.out.oth ST2.out.2.2, GB2.out⟩, (P5.out.2.1.1.trans ST1.out.2.1 (fun _ _ h => h)).trans ST2.out.2.1 (fun _ _ h => h), (P5.out.2.1.2.trans ST1.out.2.2).trans ST2.out.2.2⟩
        have h := ST2.out.1
        rw [ht]
        simp only [List.map_append, List.map_cons, List.map_nil, ← List.append_assoc]
        exact h
      go_wp2_with fail
      go_roundw
      case rel =>
        rw [← hq1, ← hq2]
        exact ⟨j + 1, _, _, by omega, by go_num, FIN.out⟩
      case measure => simp [RowKit.intOf]; omega
    · have hltz : ¬ (j : Int) < (xn : Int) := by omega
      have P5 : Hid ((Bk B wr kb ⟨qO, mO, kO⟩ ⟨qC, mC, kC⟩ ⟨qN, mN, kN⟩ ⟨qD, mD, kD⟩ (vO ++ xs.map cvL) (lO ++ xs.map (fun x => x.n.code)) (vC ++ xs.map dvL) (lC ++ xs.map (fun x => x.n.conns)) vN lN vD lD ∧ Go H wr ⟨nq, xn, nc⟩ ⟨eq, em, ec⟩ xs es ∧ wr.heap[gb]? = some (.cells (gvc a (.slice nq xn nc) (.slice eq em ec)) 25 (0, 0))) ∧ Kp (fun k => B ≤ k) w wr ∧ Oth w wr) := by
        have h := HI.out
        rw [List.take_of_length_le (by omega)] at h
        exact h
      go_upto_region 7 with fail
      have B3 : Hid (Bk B wr kb ⟨qO, mO, kO⟩ ⟨qC, mC, kC⟩ ⟨qN, mN, kN⟩ ⟨qD, mD, kD⟩ (vO ++ xs.map cvL) (lO ++ xs.map (fun x => x.n.code)) (vC ++ xs.map dvL) (lC ++ xs.map (fun x => x.n.conns)) vN lN vD lD ∧ wr.heap[gb]? = some (.cells (gvc a (.slice nq xn nc) (.slice eq em ec)) 25 (0, 0))) := ⟨P5.out.1.1, P5.out.1.2.2⟩
      have hS3 : wr.drew.heap[kb]? = some (.cells #[LV.v ⟨qO, mO, kO⟩, LV.v ⟨qC, mC, kC⟩, LV.v ⟨qN, mN, kN⟩, LV.v ⟨qD, mD, kD⟩] 43 (0, 0)) ∧ wr.drew.heap[gb]? = some (.cells (gvc a (.slice nq xn nc) (.slice eq em ec)) 25 (0, 0)) := ⟨B3.out.1.blk, B3.out.2⟩
      obtain ⟨n3, hn3⟩ : ∃ n, n = (vN).length := ⟨_, rfl⟩
      have HN3 := hid hn3
      have hn93 : n3 ≤ 600 := by rw [hn3]; have := HZ.out.2.2.1; omega
      clear hn3
      refine wp_regionD (S := fun W => W.heap[kb]? = some (.cells #[LV.v ⟨qO, mO, kO⟩, LV.v ⟨qC, mC, kC⟩, LV.v ⟨qN, mN, kN⟩, LV.v ⟨qD, mD, kD⟩] 43 (0, 0)) ∧ W.heap[gb]? = some (.cells (gvc a (.slice nq xn nc) (.slice eq em ec)) 25 (0, 0))) (D := [11]) hmx ?_
      refine' wpAnyD_take (i := 0) (oi := { dst := some 36, op := Go.Op.move (Go.Operand.tmp 0), type := 37, pos := "outright.go:99", after := #[], guard := none }) (v := _) rfl (by kernel_rfl) (by kernel_rfl) (by kernel_rfl) (fun _ _ _ h => h) (by kernel_rfl) (Or.inl ⟨by rfl, ?hy25⟩) hS3 ?rest25
      case hy25 => (intro W hSw; go_simp; try (with_reducible rfl))
      try simp only [Act.put, List.setIfInBounds_toArray, List.set_cons_zero, List.set_cons_succ]
      refine' wpAnyD_take (i := 1) (oi := { dst := some 37, op := Go.Op.move (Go.Operand.tmp 0), type := 37, pos := "outright.go:99", after := #[], guard := none }) (v := _) rfl (by kernel_rfl) (by kernel_rfl) (by kernel_rfl) (fun _ _ _ h => h) (by kernel_rfl) (Or.inl ⟨by rfl, ?hy26⟩) hS3 ?rest26
      case hy26 => (intro W hSw; go_simp; try (with_reducible rfl))
      try simp only [Act.put, List.setIfInBounds_toArray, List.set_cons_zero, List.set_cons_succ]
      refine' wpAnyD_take (i := 2) (oi := { dst := some 38, op := Go.Op.nilCheck (Go.Operand.tmp 37), type := 0, pos := "outright.go:99", after := #[{ on := 1, ground := Go.Ground.data }], guard := none }) (v := _) rfl (by kernel_rfl) (by kernel_rfl) (by kernel_rfl) (fun _ _ _ h => h) (by kernel_rfl) (Or.inl ⟨by rfl, ?hy27⟩) hS3 ?rest27
      case hy27 => (intro W hSw; go_simp; try (with_reducible rfl))
      try simp only [Act.put, List.setIfInBounds_toArray, List.set_cons_zero, List.set_cons_succ]
      refine' wpAnyD_take (i := 3) (oi := { dst := some 39, op := Go.Op.fieldAddr 43 (Go.Operand.tmp 38) 2, type := 0, pos := "outright.go:99", after := #[{ on := 2, ground := Go.Ground.data }], guard := none }) (v := _) rfl (by kernel_rfl) (by kernel_rfl) (by kernel_rfl) (fun _ _ _ h => h) (by kernel_rfl) (Or.inl ⟨by rfl, ?hy28⟩) hS3 ?rest28
      case hy28 => (intro W hSw; go_simp; try (with_reducible rfl))
      try simp only [Act.put, List.setIfInBounds_toArray, List.set_cons_zero, List.set_cons_succ]
      refine' wpAnyD_take (i := 4) (oi := { dst := some 40, op := Go.Op.load 40 (Go.Operand.tmp 39), type := 40, pos := "outright.go:99", after := #[{ on := 3, ground := Go.Ground.data }], guard := none }) (v := _) rfl (by kernel_rfl) (by kernel_rfl) (by kernel_rfl) (fun _ _ _ h => h) (by kernel_rfl) (Or.inl ⟨by rfl, ?hy29⟩) hS3 ?rest29
      case hy29 => (intro W hSw; have hc := (tk_store hSw.1).1; simp only [LV.v] at hc; have hl := tk_lt hSw.1; go_simp; try (with_reducible rfl))
      try simp only [Act.put, List.setIfInBounds_toArray, List.set_cons_zero, List.set_cons_succ]
      refine' wpAnyD_take (i := 5) (oi := { dst := some 41, op := Go.Op.fieldAddr 25 (Go.Operand.tmp 3) 1, type := 0, pos := "outright.go:99", after := #[], guard := none }) (v := _) rfl (by kernel_rfl) (by kernel_rfl) (by kernel_rfl) (fun _ _ _ h => h) (by kernel_rfl) (Or.inl ⟨by rfl, ?hy30⟩) hS3 ?rest30
      case hy30 => (intro W hSw; go_simp; try (with_reducible rfl))
      try simp only [Act.put, List.setIfInBounds_toArray, List.set_cons_zero, List.set_cons_succ]
      refine' wpAnyD_take (i := 6) (oi := { dst := some 42, op := Go.Op.load 22 (Go.Operand.tmp 41), type := 22, pos := "outright.go:99", after := #[{ on := 5, ground := Go.Ground.data }], guard := none }) (v := _) rfl (by kernel_rfl) (by kernel_rfl) (by kernel_rfl) (fun _ _ _ h => h) (by kernel_rfl) (Or.inl ⟨by rfl, ?hy31⟩) hS3 ?rest31
      case hy31 => (intro W hSw; have hc := (tk_store hSw.2).1; have hl := tk_lt hSw.2; go_simp; try (with_reducible rfl))
      try simp only [Act.put, List.setIfInBounds_toArray, List.set_cons_zero, List.set_cons_succ]
      refine wpAnyD_one (i := 7) (o := { dst := some 43, op := Go.Op.buildSlice 40 1 #[(0, Go.Operand.tmp 42)], type := 40, pos := "outright.go:99", after := #[{ on := 6, ground := Go.Ground.data }], guard := none }) (by kernel_rfl) rfl (fun K hK => ?_)
      go_simp
      have b7 := ((Gr.refl wr).drew.alloc (.cells #[.slice nq xn nc] 22)).below
      have hU3 := (show _ ∧ _ from ⟨(b7.block _ (tk_lt hS3.1)).trans hS3.1, (b7.block _ (tk_lt hS3.2)).trans hS3.2⟩)
      clear b7
      refine hK.out _ _ (fun hD => hU3) ?_
      clear hK K
      try simp only [Act.put, List.setIfInBounds_toArray, List.set_cons_zero, List.set_cons_succ]
      refine wpAnyD_one (i := 8) (o := { dst := some 44, op := Go.Op.call { callee := Go.Callee.builtin Go.Builtin.append, args := #[Go.Operand.tmp 40, Go.Operand.tmp 43], argTypes := #[40, 40] }, type := 40, pos := "outright.go:99", after := #[{ on := 4, ground := Go.Ground.data }, { on := 7, ground := Go.Ground.data }], guard := none }) (by kernel_rfl) rfl (fun K hK => ?_)
      refine step_app1 EL Try.underlying40 infoL2 rfl (by decide) rfl _ _ rfl B (LV.v ⟨qN, mN, kN⟩) n3 (fl EL (vN)) rfl (show (wr.drew).ownsRow B 22 1 (LV.v ⟨qN, mN, kN⟩) n3 (fl EL (vN)) from owns_re B3.out.1.rN HN3.out.symm rfl) ⟨nq, xn, nc⟩ (by first | rfl | simp) (by omega) (by unfold maxLen; omega) (Nat.le_trans B3.out.1.low (Nat.le_of_lt (tk_lt B3.out.1.blk))) _ rfl _ ?_
      intro g3 cap3 w3 h3 k3 _
      have KK3 := Kp.grownBy (S := fun k => (LV.v ⟨qN, mN, kN⟩).ownBlock = some k) k3.out (fun _ h => h)
      have NB3 := Bk.addN (w := wr.drew) (c' := ⟨some ⟨g3, 0, none⟩, n3 + 1, cap3⟩) (v := ⟨nq, xn, nc⟩) (l := xs) (B3.out.1.below (Gr.refl wr).drew.below) (show (wr.drew).ownsRow _ _ _ _ _ _ from owns_base P5.out.1.2.1.nodes HL.out.2.2.2.2) (fun u hu b e e2 => by have h1 := HL.out.2.2.1 u hu b e2; have h2 := (owns_rd P5.out.1.2.1.nodes b e).1; omega) (owns_re h3.out (by rw [HN3.out]) rfl) k3.out
      have ST3 : Hid (Bk B (w3.setCell ⟨kb, 2, none⟩ (.slice (some ⟨g3, 0, none⟩) (n3 + 1) cap3)) kb ⟨qO, mO, kO⟩ ⟨qC, mC, kC⟩ ⟨some ⟨g3, 0, none⟩, n3 + 1, cap3⟩ ⟨qD, mD, kD⟩ (vO ++ xs.map cvL) (lO ++ xs.map (fun x => x.n.code)) (vC ++ xs.map dvL) (lC ++ xs.map (fun x => x.n.conns)) (vN ++ [⟨nq, xn, nc⟩]) (lN ++ [xs]) vD lD ∧ Kp (fun k => B ≤ k) wr (w3.setCell ⟨kb, 2, none⟩ (.slice (some ⟨g3, 0, none⟩) (n3 + 1) cap3)) ∧ Oth wr (w3.setCell ⟨kb, 2, none⟩ (.slice (some ⟨g3, 0, none⟩) (n3 + 1) cap3))) := ⟨NB3.1, (Kp.of_gr (Gr.refl wr).drew).trans NB3.2.1 (fun _ _ h => h), (Oth.of_below (Gr.refl wr).drew.below).trans NB3.2.2⟩
      have hT3 : w3.heap[kb]? = some (.cells #[LV.v ⟨qO, mO, kO⟩, LV.v ⟨qC, mC, kC⟩, LV.v ⟨qN, mN, kN⟩, LV.v ⟨qD, mD, kD⟩] 43 (0, 0)) ∧ w3.heap[gb]? = some (.cells (gvc a (.slice nq xn nc) (.slice eq em ec)) 25 (0, 0)) := ⟨(KK3.block _ (tk_lt hS3.1) (fun e => owns_ne_blk B3.out.1.rN hS3.1 (by decide) kb e rfl)).trans hS3.1, (KK3.block _ (tk_lt hS3.2) (fun e => owns_ne_blk B3.out.1.rN hS3.2 (by decide) gb e rfl)).trans hS3.2⟩
      have hQGB3 : wr.drew.heap[gb]? = some (.cells (gvc a (.slice nq xn nc) (.slice eq em ec)) 25 (0, 0)) := P5.out.1.2.2
      have GB3 : Hid ((w3.setCell ⟨kb, 2, none⟩ (.slice (some ⟨g3, 0, none⟩) (n3 + 1) cap3)).heap[gb]? = some (.cells (gvc a (.slice nq xn nc) (.slice eq em ec)) 25 (0, 0))) := ((tk_set hT3.1 2 _).2.block gb (Nat.lt_of_lt_of_le (tk_lt P5.out.1.2.2) KK3.size) (fun e => by rw [e] at hQGB3; have h9 := hQGB3; rw [hS3.1] at h9; simp only [Option.some.injEq, Obj.cells.injEq] at h9; exact absurd h9.2.1 (by decide))).trans ((KK3.block _ (tk_lt P5.out.1.2.2) (fun e => owns_ne_blk B3.out.1.rN P5.out.1.2.2 (by decide) gb e rfl)).trans P5.out.1.2.2)
      clear NB3 h3 k3
      refine hK.out _ _ (fun hD => hT3) ?_
      clear hK K
      try simp only [Act.put, List.setIfInBounds_toArray, List.set_cons_zero, List.set_cons_succ]
      refine wpAnyD_one (i := 9) (o := { dst := some 45, op := Go.Op.nilCheck (Go.Operand.tmp 36), type := 0, pos := "outright.go:99", after := #[{ on := 0, ground := Go.Ground.data }, { on := 0, ground := Go.Ground.phase }, { on := 1, ground := Go.Ground.phase }, { on := 2, ground := Go.Ground.phase }, { on := 3, ground := Go.Ground.phase }, { on := 4, ground := Go.Ground.phase }, { on := 5, ground := Go.Ground.phase }, { on := 6, ground := Go.Ground.phase }, { on := 7, ground := Go.Ground.phase }, { on := 8, ground := Go.Ground.phase }], guard := none }) (by kernel_rfl) rfl (fun K hK => ?_)
      go_simp
      refine hK.out _ _ (fun hD => hT3) ?_
      clear hK K
      try simp only [Act.put, List.setIfInBounds_toArray, List.set_cons_zero, List.set_cons_succ]
      refine' wpAnyD_take (i := 10) (oi := { dst := some 46, op := Go.Op.fieldAddr 43 (Go.Operand.tmp 45) 2, type := 0, pos := "outright.go:99", after := #[{ on := 9, ground := Go.Ground.data }, { on := 0, ground := Go.Ground.phase }, { on := 1, ground := Go.Ground.phase }, { on := 2, ground := Go.Ground.phase }, { on := 3, ground := Go.Ground.phase }, { on := 4, ground := Go.Ground.phase }, { on := 5, ground := Go.Ground.phase }, { on := 6, ground := Go.Ground.phase }, { on := 7, ground := Go.Ground.phase }, { on := 8, ground := Go.Ground.phase }], guard := none }) (v := _) rfl (by kernel_rfl) (by kernel_rfl) (by kernel_rfl) (fun _ _ _ h => h) (by kernel_rfl) (Or.inl ⟨by rfl, ?hy35⟩) hT3 ?rest35
      case hy35 => (intro W hSw; go_simp; try (with_reducible rfl))
      try simp only [Act.put, List.setIfInBounds_toArray, List.set_cons_zero, List.set_cons_succ]
      refine wpAnyD_one (i := 11) (o := { dst := none, op := Go.Op.store 40 (Go.Operand.tmp 46) (Go.Operand.tmp 44), type := 0, pos := "outright.go:99", after := #[{ on := 10, ground := Go.Ground.data }, { on := 8, ground := Go.Ground.data }, { on := 8, ground := Go.Ground.chain }, { on := 0, ground := Go.Ground.phase }, { on := 1, ground := Go.Ground.phase }, { on := 2, ground := Go.Ground.phase }, { on := 3, ground := Go.Ground.phase }, { on := 4, ground := Go.Ground.phase }, { on := 5, ground := Go.Ground.phase }, { on := 6, ground := Go.Ground.phase }, { on := 7, ground := Go.Ground.phase }, { on := 8, ground := Go.Ground.phase }], guard := none }) (by kernel_rfl) rfl (fun K hK => ?_)
      have c8 := (tk_store hT3.1).1
      simp only [LV.v] at c8
      have f8 := (tk_store hT3.1).2
      have l8 := tk_lt hT3.1
      go_simp
      generalize (w3.setCell ⟨kb, 2, none⟩ (.slice (some ⟨g3, 0, none⟩) (n3 + 1) cap3)) = V3 at ST3 GB3 ⊢
      clear c8 f8 l8
      refine hK.out _ _ (fun hD => absurd (by decide) hD) ?_
      clear hK K
      try simp only [Act.put, List.setIfInBounds_toArray, List.set_cons_zero, List.set_cons_succ]
      refine wpAnyD_done (by kernel_rfl) ?_ _
      clear hS3 hU3 hT3 KK3 hQGB3
      go_upto_region 8 with fail
      have G3 := hid (P5.out.1.2.1.oth ST3.out.2.2)
      have B4 : Hid (Bk B V3 kb ⟨qO, mO, kO⟩ ⟨qC, mC, kC⟩ ⟨some ⟨g3, 0, none⟩, n3 + 1, cap3⟩ ⟨qD, mD, kD⟩ (vO ++ xs.map cvL) (lO ++ xs.map (fun x => x.n.code)) (vC ++ xs.map dvL) (lC ++ xs.map (fun x => x.n.conns)) (vN ++ [⟨nq, xn, nc⟩]) (lN ++ [xs]) vD lD ∧ V3.heap[gb]? = some (.cells (gvc a (.slice nq xn nc) (.slice eq em ec)) 25 (0, 0))) := ⟨ST3.out.1, GB3.out⟩
      have hS4 : V3.drew.heap[kb]? = some (.cells #[LV.v ⟨qO, mO, kO⟩, LV.v ⟨qC, mC, kC⟩, LV.v ⟨some ⟨g3, 0, none⟩, n3 + 1, cap3⟩, LV.v ⟨qD, mD, kD⟩] 43 (0, 0)) ∧ V3.drew.heap[gb]? = some (.cells (gvc a (.slice nq xn nc) (.slice eq em ec)) 25 (0, 0)) := ⟨B4.out.1.blk, B4.out.2⟩
      obtain ⟨n4, hn4⟩ : ∃ n, n = (vD).length := ⟨_, rfl⟩
      have HN4 := hid hn4
      have hn94 : n4 ≤ 600 := by rw [hn4]; have := HZ.out.2.2.2.1; omega
      clear hn4
      refine wp_regionD (S := fun W => W.heap[kb]? = some (.cells #[LV.v ⟨qO, mO, kO⟩, LV.v ⟨qC, mC, kC⟩, LV.v ⟨some ⟨g3, 0, none⟩, n3 + 1, cap3⟩, LV.v ⟨qD, mD, kD⟩] 43 (0, 0)) ∧ W.heap[gb]? = some (.cells (gvc a (.slice nq xn nc) (.slice eq em ec)) 25 (0, 0))) (D := [11]) hmx ?_
      refine' wpAnyD_take (i := 0) (oi := { dst := some 47, op := Go.Op.move (Go.Operand.tmp 0), type := 37, pos := "outright.go:100", after := #[], guard := none }) (v := _) rfl (by kernel_rfl) (by kernel_rfl) (by kernel_rfl) (fun _ _ _ h => h) (by kernel_rfl) (Or.inl ⟨by rfl, ?hy37⟩) hS4 ?rest37
      case hy37 => (intro W hSw; go_simp; try (with_reducible rfl))
      try simp only [Act.put, List.setIfInBounds_toArray, List.set_cons_zero, List.set_cons_succ]
      refine' wpAnyD_take (i := 1) (oi := { dst := some 48, op := Go.Op.move (Go.Operand.tmp 0), type := 37, pos := "outright.go:100", after := #[], guard := none }) (v := _) rfl (by kernel_rfl) (by kernel_rfl) (by kernel_rfl) (fun _ _ _ h => h) (by kernel_rfl) (Or.inl ⟨by rfl, ?hy38⟩) hS4 ?rest38
      case hy38 => (intro W hSw; go_simp; try (with_reducible rfl))
      try simp only [Act.put, List.setIfInBounds_toArray, List.set_cons_zero, List.set_cons_succ]
      refine' wpAnyD_take (i := 2) (oi := { dst := some 49, op := Go.Op.nilCheck (Go.Operand.tmp 48), type := 0, pos := "outright.go:100", after := #[{ on := 1, ground := Go.Ground.data }], guard := none }) (v := _) rfl (by kernel_rfl) (by kernel_rfl) (by kernel_rfl) (fun _ _ _ h => h) (by kernel_rfl) (Or.inl ⟨by rfl, ?hy39⟩) hS4 ?rest39
      case hy39 => (intro W hSw; go_simp; try (with_reducible rfl))
      try simp only [Act.put, List.setIfInBounds_toArray, List.set_cons_zero, List.set_cons_succ]
      refine' wpAnyD_take (i := 3) (oi := { dst := some 50, op := Go.Op.fieldAddr 43 (Go.Operand.tmp 49) 3, type := 0, pos := "outright.go:100", after := #[{ on := 2, ground := Go.Ground.data }], guard := none }) (v := _) rfl (by kernel_rfl) (by kernel_rfl) (by kernel_rfl) (fun _ _ _ h => h) (by kernel_rfl) (Or.inl ⟨by rfl, ?hy40⟩) hS4 ?rest40
      case hy40 => (intro W hSw; go_simp; try (with_reducible rfl))
      try simp only [Act.put, List.setIfInBounds_toArray, List.set_cons_zero, List.set_cons_succ]
      refine' wpAnyD_take (i := 4) (oi := { dst := some 51, op := Go.Op.load 41 (Go.Operand.tmp 50), type := 41, pos := "outright.go:100", after := #[{ on := 3, ground := Go.Ground.data }], guard := none }) (v := _) rfl (by kernel_rfl) (by kernel_rfl) (by kernel_rfl) (fun _ _ _ h => h) (by kernel_rfl) (Or.inl ⟨by rfl, ?hy41⟩) hS4 ?rest41
      case hy41 => (intro W hSw; have hc := (tk_store hSw.1).1; simp only [LV.v] at hc; have hl := tk_lt hSw.1; go_simp; try (with_reducible rfl))
      try simp only [Act.put, List.setIfInBounds_toArray, List.set_cons_zero, List.set_cons_succ]
      refine' wpAnyD_take (i := 5) (oi := { dst := some 52, op := Go.Op.fieldAddr 25 (Go.Operand.tmp 3) 2, type := 0, pos := "outright.go:100", after := #[], guard := none }) (v := _) rfl (by kernel_rfl) (by kernel_rfl) (by kernel_rfl) (fun _ _ _ h => h) (by kernel_rfl) (Or.inl ⟨by rfl, ?hy42⟩) hS4 ?rest42
      case hy42 => (intro W hSw; go_simp; try (with_reducible rfl))
      try simp only [Act.put, List.setIfInBounds_toArray, List.set_cons_zero, List.set_cons_succ]
      refine' wpAnyD_take (i := 6) (oi := { dst := some 53, op := Go.Op.load 23 (Go.Operand.tmp 52), type := 23, pos := "outright.go:100", after := #[{ on := 5, ground := Go.Ground.data }], guard := none }) (v := _) rfl (by kernel_rfl) (by kernel_rfl) (by kernel_rfl) (fun _ _ _ h => h) (by kernel_rfl) (Or.inl ⟨by rfl, ?hy43⟩) hS4 ?rest43
      case hy43 => (intro W hSw; have hc := (tk_store hSw.2).1; have hl := tk_lt hSw.2; go_simp; try (with_reducible rfl))
      try simp only [Act.put, List.setIfInBounds_toArray, List.set_cons_zero, List.set_cons_succ]
      refine wpAnyD_one (i := 7) (o := { dst := some 54, op := Go.Op.buildSlice 41 1 #[(0, Go.Operand.tmp 53)], type := 41, pos := "outright.go:100", after := #[{ on := 6, ground := Go.Ground.data }], guard := none }) (by kernel_rfl) rfl (fun K hK => ?_)
      go_simp
      have b7 := ((Gr.refl V3).drew.alloc (.cells #[.slice eq em ec] 23)).below
      have hU4 := (show _ ∧ _ from ⟨(b7.block _ (tk_lt hS4.1)).trans hS4.1, (b7.block _ (tk_lt hS4.2)).trans hS4.2⟩)
      clear b7
      refine hK.out _ _ (fun hD => hU4) ?_
      clear hK K
      try simp only [Act.put, List.setIfInBounds_toArray, List.set_cons_zero, List.set_cons_succ]
      refine wpAnyD_one (i := 8) (o := { dst := some 55, op := Go.Op.call { callee := Go.Callee.builtin Go.Builtin.append, args := #[Go.Operand.tmp 51, Go.Operand.tmp 54], argTypes := #[41, 41] }, type := 41, pos := "outright.go:100", after := #[{ on := 4, ground := Go.Ground.data }, { on := 7, ground := Go.Ground.data }], guard := none }) (by kernel_rfl) rfl (fun K hK => ?_)
      refine step_app1 EL Try.underlying41 infoL3 rfl (by decide) rfl _ _ rfl B (LV.v ⟨qD, mD, kD⟩) n4 (fl EL (vD)) rfl (show (V3.drew).ownsRow B 23 1 (LV.v ⟨qD, mD, kD⟩) n4 (fl EL (vD)) from owns_re B4.out.1.rD HN4.out.symm rfl) ⟨eq, em, ec⟩ (by first | rfl | simp) (by omega) (by unfold maxLen; omega) (Nat.le_trans B4.out.1.low (Nat.le_of_lt (tk_lt B4.out.1.blk))) _ rfl _ ?_
      intro g4 cap4 w4 h4 k4 _
      have KK4 := Kp.grownBy (S := fun k => (LV.v ⟨qD, mD, kD⟩).ownBlock = some k) k4.out (fun _ h => h)
      have NB4 := Bk.addD (w := V3.drew) (c' := ⟨some ⟨g4, 0, none⟩, n4 + 1, cap4⟩) (v := ⟨eq, em, ec⟩) (l := es) (B4.out.1.below (Gr.refl V3).drew.below) (show (V3.drew).ownsRow _ _ _ _ _ _ from owns_base G3.out.edges HL.out.2.2.2.2) (fun u hu b e e2 => by have h1 := HL.out.2.2.2.1 u hu b e2; have h2 := (owns_rd G3.out.edges b e).1; omega) (owns_re h4.out (by rw [HN4.out]) rfl) k4.out
      have ST4 : Hid (Bk B (w4.setCell ⟨kb, 3, none⟩ (.slice (some ⟨g4, 0, none⟩) (n4 + 1) cap4)) kb ⟨qO, mO, kO⟩ ⟨qC, mC, kC⟩ ⟨some ⟨g3, 0, none⟩, n3 + 1, cap3⟩ ⟨some ⟨g4, 0, none⟩, n4 + 1, cap4⟩ (vO ++ xs.map cvL) (lO ++ xs.map (fun x => x.n.code)) (vC ++ xs.map dvL) (lC ++ xs.map (fun x => x.n.conns)) (vN ++ [⟨nq, xn, nc⟩]) (lN ++ [xs]) (vD ++ [⟨eq, em, ec⟩]) (lD ++ [es]) ∧ Kp (fun k => B ≤ k) V3 (w4.setCell ⟨kb, 3, none⟩ (.slice (some ⟨g4, 0, none⟩) (n4 + 1) cap4)) ∧ Oth V3 (w4.setCell ⟨kb, 3, none⟩ (.slice (some ⟨g4, 0, none⟩) (n4 + 1) cap4))) := ⟨NB4.1, (Kp.of_gr (Gr.refl V3).drew).trans NB4.2.1 (fun _ _ h => h), (Oth.of_below (Gr.refl V3).drew.below).trans NB4.2.2⟩
      have hT4 : w4.heap[kb]? = some (.cells #[LV.v ⟨qO, mO, kO⟩, LV.v ⟨qC, mC, kC⟩, LV.v ⟨some ⟨g3, 0, none⟩, n3 + 1, cap3⟩, LV.v ⟨qD, mD, kD⟩] 43 (0, 0)) ∧ w4.heap[gb]? = some (.cells (gvc a (.slice nq xn nc) (.slice eq em ec)) 25 (0, 0)) := ⟨(KK4.block _ (tk_lt hS4.1) (fun e => owns_ne_blk B4.out.1.rD hS4.1 (by decide) kb e rfl)).trans hS4.1, (KK4.block _ (tk_lt hS4.2) (fun e => owns_ne_blk B4.out.1.rD hS4.2 (by decide) gb e rfl)).trans hS4.2⟩
      skip
      clear NB4 h4 k4
      refine hK.out _ _ (fun hD => hT4) ?_
      clear hK K
      try simp only [Act.put, List.setIfInBounds_toArray, List.set_cons_zero, List.set_cons_succ]
      refine wpAnyD_one (i := 9) (o := { dst := some 56, op := Go.Op.nilCheck (Go.Operand.tmp 47), type := 0, pos := "outright.go:100", after := #[{ on := 0, ground := Go.Ground.data }, { on := 0, ground := Go.Ground.phase }, { on := 1, ground := Go.Ground.phase }, { on := 2, ground := Go.Ground.phase }, { on := 3, ground := Go.Ground.phase }, { on := 4, ground := Go.Ground.phase }, { on := 5, ground := Go.Ground.phase }, { on := 6, ground := Go.Ground.phase }, { on := 7, ground := Go.Ground.phase }, { on := 8, ground := Go.Ground.phase }], guard := none }) (by kernel_rfl) rfl (fun K hK => ?_)
      go_simp
      refine hK.out _ _ (fun hD => hT4) ?_
      clear hK K
      try simp only [Act.put, List.setIfInBounds_toArray, List.set_cons_zero, List.set_cons_succ]
      refine' wpAnyD_take (i := 10) (oi := { dst := some 57, op := Go.Op.fieldAddr 43 (Go.Operand.tmp 56) 3, type := 0, pos := "outright.go:100", after := #[{ on := 9, ground := Go.Ground.data }, { on := 0, ground := Go.Ground.phase }, { on := 1, ground := Go.Ground.phase }, { on := 2, ground := Go.Ground.phase }, { on := 3, ground := Go.Ground.phase }, { on := 4, ground := Go.Ground.phase }, { on := 5, ground := Go.Ground.phase }, { on := 6, ground := Go.Ground.phase }, { on := 7, ground := Go.Ground.phase }, { on := 8, ground := Go.Ground.phase }], guard := none }) (v := _) rfl (by kernel_rfl) (by kernel_rfl) (by kernel_rfl) (fun _ _ _ h => h) (by kernel_rfl) (Or.inl ⟨by rfl, ?hy47⟩) hT4 ?rest47
      case hy47 => (intro W hSw; go_simp; try (with_reducible rfl))
      try simp only [Act.put, List.setIfInBounds_toArray, List.set_cons_zero, List.set_cons_succ]
      refine wpAnyD_one (i := 11) (o := { dst := none, op := Go.Op.store 41 (Go.Operand.tmp 57) (Go.Operand.tmp 55), type := 0, pos := "outright.go:100", after := #[{ on := 10, ground := Go.Ground.data }, { on := 8, ground := Go.Ground.data }, { on := 8, ground := Go.Ground.chain }, { on := 0, ground := Go.Ground.phase }, { on := 1, ground := Go.Ground.phase }, { on := 2, ground := Go.Ground.phase }, { on := 3, ground := Go.Ground.phase }, { on := 4, ground := Go.Ground.phase }, { on := 5, ground := Go.Ground.phase }, { on := 6, ground := Go.Ground.phase }, { on := 7, ground := Go.Ground.phase }, { on := 8, ground := Go.Ground.phase }], guard := none }) (by kernel_rfl) rfl (fun K hK => ?_)
      have c8 := (tk_store hT4.1).1
      simp only [LV.v] at c8
      have f8 := (tk_store hT4.1).2
      have l8 := tk_lt hT4.1
      go_simp
      generalize (w4.setCell ⟨kb, 3, none⟩ (.slice (some ⟨g4, 0, none⟩) (n4 + 1) cap4)) = V4 at ST4 ⊢
      clear c8 f8 l8
      refine hK.out _ _ (fun hD => absurd (by decide) hD) ?_
      clear hK K
      try simp only [Act.put, List.setIfInBounds_toArray, List.set_cons_zero, List.set_cons_succ]
      refine wpAnyD_done (by kernel_rfl) ?_ _
      clear hS4 hU4 hT4 KK4
      go_wp2_with fail
      go_end0
      exact ⟨rfl, _, _, _, _, ST4.out.1, (P5.out.2.1.trans ST3.out.2.1 (fun _ _ h => h)).trans ST4.out.2.1 (fun _ _ h => h), (P5.out.2.2.trans ST3.out.2.2).trans ST4.out.2.2⟩
end Go.Proofs.Ytkopmkmfigenlaa.Df
