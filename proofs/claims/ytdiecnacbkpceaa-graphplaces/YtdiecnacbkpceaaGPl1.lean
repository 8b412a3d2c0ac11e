import Derived.Test.YtdiecnacbkpceaaGPl0
namespace Go.Proofs.Ytdiecnacbkpceaa.Df
open Go.RowKit Go.Sort

theorem fl_EIset (S : List Int) (e : Nat) (x : Int) : (fl EI S).set e (.int .i64 x) = fl EI (S.set e x) := by rw [fl_EJ, fl_EJ, List.map_set]
theorem keeps_kp {B b : Nat} {W W' : World} {cur : Array Value} {T : TypeId} (hb : W.heap[b]? = some (.cells cur T (0, 0))) (k : Kp (fun k => k = b) W W') : KeepsFrom B W W' :=
  ⟨k.size, fun j o _ hj ho => (k.block j (tk_lt hj) (fun e => by rw [e, hb] at hj; cases hj; cases ho)).trans hj⟩
theorem keeps_below {B : Nat} {W W' : World} (h : Below W.heap.size W W') : KeepsFrom B W W' := ⟨h.size, fun j _ _ hj _ => (h.block j (tk_lt hj)).trans hj⟩
/-- What stands in the loops: the box of i, the box and the row of what has been seen, the marks. -/
structure Pw (V : World) (Ds : List Nat) (W : World) (ib s7 : Nat) (q : Option Addr) (el c : Nat) (i : Int) (S : List Int) : Prop where
  bl : Below V.heap.size V W
  ibx : W.heap[ib]? = some (.cells #[.int .i64 i] 3 (0, 0))
  ilo : V.heap.size ≤ ib
  sbx : W.heap[s7]? = some (.cells #[.slice q el c] 32 (0, 0))
  slo : V.heap.size ≤ s7
  row : W.ownsRow V.heap.size 3 1 (.slice q el c) S.length (fl EI S)
  far : ∀ k, (Value.slice q el c).ownBlock = some k → k ≠ ib
  dok : Dok V.heap.size Ds W
/-- In the range: the boxes of port, in and last. -/
structure Pb (V : World) (Ds : List Nat) (W : World) (ib s7 : Nat) (q : Option Addr) (el c : Nat) (i : Int) (S : List Int) (pb nb lb : Nat) (port : Int) (inn : Bool) (last : Int) : Prop where
  pw : Pw V Ds W ib s7 q el c i S
  pbx : W.heap[pb]? = some (.cells #[.int .i64 port] 3 (0, 0))
  nbx : W.heap[nb]? = some (.cells #[.bool inn] 4 (0, 0))
  lbx : W.heap[lb]? = some (.cells #[.int .i64 last] 3 (0, 0))
  plo : V.heap.size ≤ pb
  nlo : V.heap.size ≤ nb
  llo : V.heap.size ≤ lb
  fp : ∀ k, (Value.slice q el c).ownBlock = some k → k ≠ pb
  fl : ∀ k, (Value.slice q el c).ownBlock = some k → k ≠ lb
  li : lb ≠ ib
  lp : lb ≠ pb
section
variable {V : World} {Ds : List Nat} {W W' : World} {ib s7 : Nat} {q : Option Addr} {el c : Nat} {i : Int} {S : List Int} {pb nb lb : Nat} {port : Int} {inn : Bool} {last : Int}
theorem Pw.below (h : Pw V Ds W ib s7 q el c i S) (hb : Below W.heap.size W W') : Pw V Ds W' ib s7 q el c i S :=
  ⟨h.bl.trans (hb.mono h.bl.size), (hb.block _ (tk_lt h.ibx)).trans h.ibx, h.ilo, (hb.block _ (tk_lt h.sbx)).trans h.sbx, h.slo, owns_below h.row hb, h.far, h.dok.below hb⟩
theorem Pb.below (h : Pb V Ds W ib s7 q el c i S pb nb lb port inn last) (hb : Below W.heap.size W W') : Pb V Ds W' ib s7 q el c i S pb nb lb port inn last :=
  ⟨h.pw.below hb, (hb.block _ (tk_lt h.pbx)).trans h.pbx, (hb.block _ (tk_lt h.nbx)).trans h.nbx, (hb.block _ (tk_lt h.lbx)).trans h.lbx, h.plo, h.nlo, h.llo, h.fp, h.fl, h.li, h.lp⟩
theorem Pw.len (h : Pw V Ds W ib s7 q el c i S) : S.length = el := (owns_caps h.row _ _ _ rfl).1.symm
/-- What a walk's own objects do not touch. -/
theorem Pb.own {B : Nat} {row : Option Nat} (hV : V.heap.size ≤ B) (hD : ∀ D ∈ Ds, D < B) (h : Pb V Ds W ib s7 q el c i S pb nb lb port inn last) (hg : W.grownBy W' row) (hr : ∀ r, row = some r → B ≤ r ∧ ∃ o : Obj, W.heap[r]? = some o ∧ o.isCells = false) : Pb V Ds W' ib s7 q el c i S pb nb lb port inn last := by
  have hc : ∀ {k : Nat} {cur : Array Value} {T : TypeId} {z : Nat × Nat}, W.heap[k]? = some (.cells cur T z) → W'.heap[k]? = W.heap[k]? := fun {k cur T z} hk => hg.block k (tk_lt hk) (fun e => by
    obtain ⟨_, o, h1, h2⟩ := hr k e.symm
    rw [hk] at h1
    cases h1
    cases h2)
  have hk : Kp (fun k => row = some k) W W' := Kp.grownBy hg (fun _ h => h)
  have hrow : ∀ k, (Value.slice q el c).ownBlock = some k → ¬ row = some k := fun k e e2 => by
    obtain ⟨c1, f, h1⟩ := Lib.ownsRow_kind h.pw.row k e
    obtain ⟨_, o, h2, h3⟩ := hr k e2
    rw [h1] at h2
    cases h2
    cases h3
  exact ⟨⟨h.pw.bl.trans (hk.below h.pw.bl.size (fun k e => by have := (hr k e).1; omega)), (hc h.pw.ibx).trans h.pw.ibx, h.pw.ilo, (hc h.pw.sbx).trans h.pw.sbx, h.pw.slo, owns_kp hk h.pw.row hrow, h.pw.far, ⟨h.pw.dok.1, fun D hd => ⟨(h.pw.dok.2 D hd).1, (hg.block D (h.pw.dok.lt hd) (fun e => by have := (hr D e.symm).1; have := hD D hd; omega)).trans (h.pw.dok.2 D hd).2⟩⟩⟩, (hc h.pbx).trans h.pbx, (hc h.nbx).trans h.nbx, (hc h.lbx).trans h.lbx, h.plo, h.nlo, h.llo, h.fp, h.fl, h.li, h.lp⟩
/-- The box of last is written. -/
theorem Pb.setl (h : Pb V Ds W ib s7 q el c i S pb nb lb port inn last) (x : Int) : Pb V Ds (W.setCell ⟨lb, 0, none⟩ (.int .i64 x)) ib s7 q el c i S pb nb lb port inn x ∧ Kp (fun k => k = lb) W (W.setCell ⟨lb, 0, none⟩ (.int .i64 x)) := by
  obtain ⟨h1, h2⟩ := tk_set h.lbx 0 (.int .i64 x)
  have hne : ∀ {k : Nat} {cur : Array Value} {T : TypeId}, W.heap[k]? = some (.cells cur T (0, 0)) → T ≠ 3 → k ≠ lb := fun hk hT e => by
    rw [e, h.lbx] at hk
    simp only [Option.some.injEq, Obj.cells.injEq] at hk
    exact hT hk.2.1.symm
  exact ⟨⟨⟨h.pw.bl.trans (h2.below h.pw.bl.size (fun k e => by rw [e]; exact h.llo)), (h2.block _ (tk_lt h.pw.ibx) (fun e => h.li e.symm)).trans h.pw.ibx, h.pw.ilo, (h2.block _ (tk_lt h.pw.sbx) (hne h.pw.sbx (by decide))).trans h.pw.sbx, h.pw.slo, owns_kp h2 h.pw.row (fun k e e2 => h.fl k e e2), h.pw.far, h.pw.dok.sb h.lbx h2⟩, (h2.block _ (tk_lt h.pbx) (fun e => h.lp e.symm)).trans h.pbx, (h2.block _ (tk_lt h.nbx) (hne h.nbx (by decide))).trans h.nbx, h1, h.plo, h.nlo, h.llo, h.fp, h.fl, h.li, h.lp⟩, h2⟩
end
section
variable {V : World} {Ds : List Nat} {W W' : World} {ib s7 gq : Nat} {el c : Nat} {i : Int} {S : List Int} {pb nb lb : Nat} {port : Int} {inn : Bool} {last : Int}
/-- One number of what has been seen is written. -/
theorem Pb.sets (h : Pb V Ds W ib s7 (some ⟨gq, 0, none⟩) el c i S pb nb lb port inn last) (e : Nat) (x : Int) : Pb V Ds (W.setCell ⟨gq, e, none⟩ (.int .i64 x)) ib s7 (some ⟨gq, 0, none⟩) el c i (S.set e x) pb nb lb port inn last ∧ Kp (fun k => k = gq) W (W.setCell ⟨gq, e, none⟩ (.int .i64 x)) := by
  have hl := h.pw.len
  obtain ⟨h1, h2⟩ := owns_one (n := el) (owns_re h.pw.row hl rfl) e (.int .i64 x)
  rw [fl_EIset] at h1
  obtain ⟨cur, f, hq⟩ := Lib.ownsRow_kind h.pw.row gq rfl
  have hne : ∀ {k : Nat} {cs : Array Value} {T : TypeId}, W.heap[k]? = some (.cells cs T (0, 0)) → T ≠ 3 → k ≠ gq := fun hk hT e => by
    rw [e, hq] at hk
    simp only [Option.some.injEq, Obj.cells.injEq] at hk
    exact hT hk.2.1.symm
  have hlow := (owns_rd h.pw.row gq rfl).1
  have hdk : Dok V.heap.size Ds (W.setCell ⟨gq, e, none⟩ (.int .i64 x)) := ⟨h.pw.dok.1, fun D hD => ⟨(h.pw.dok.2 D hD).1, (h2.block D (h.pw.dok.lt hD) (fun e => by have h1 := (h.pw.dok.2 D hD).2; rw [e, hq] at h1; cases h1)).trans (h.pw.dok.2 D hD).2⟩⟩
  exact ⟨⟨⟨h.pw.bl.trans (h2.below h.pw.bl.size (fun k e => by rw [e]; exact hlow)), (h2.block _ (tk_lt h.pw.ibx) (fun e => h.pw.far gq rfl e.symm)).trans h.pw.ibx, h.pw.ilo, (h2.block _ (tk_lt h.pw.sbx) (hne h.pw.sbx (by decide))).trans h.pw.sbx, h.pw.slo, owns_re h1 (by rw [List.length_set]; exact hl.symm) rfl, h.pw.far, hdk⟩, (h2.block _ (tk_lt h.pbx) (fun e => h.fp gq rfl e.symm)).trans h.pbx, (h2.block _ (tk_lt h.nbx) (hne h.nbx (by decide))).trans h.nbx, (h2.block _ (tk_lt h.lbx) (fun e => h.fl gq rfl e.symm)).trans h.lbx, h.plo, h.nlo, h.llo, h.fp, h.fl, h.li, h.lp⟩, h2⟩
end
/-- The loop's own word on the number in a box. -/
def iAt (v : Value) (w : World) : Nat := match v with
  | .pointer (some p) => match w.cell? p with
    | some (.int _ i) => i.toNat
    | _ => 0
  | _ => 0
theorem iAt_of {w : World} {b : Nat} {i : Nat} (h : w.heap[b]? = some (.cells #[.int .i64 (i : Nat)] 3 (0, 0))) : iAt (.pointer (some ⟨b, 0, none⟩)) w = i := by
  have h1 : w.cell? ⟨b, 0, none⟩ = some (.int .i64 (i : Nat)) := (tk_store h).1 0
  simp [iAt, h1]
/-- Which node and port the edges at a place have. -/
theorem in_match {g : Gph} (hok : Gok g) {e k i p : Nat} {d : Edg} (hd : g.edges[e]? = some d) (hs : (spotsU g.nodes g.nodes.length)[k]? = some (i, p, true)) (h : outPl g.nodes d = k ∨ inPl g.nodes d = k) : d.dst = (i : Int) ∧ d.inn = (p : Int) := by
  obtain ⟨h1, h2⟩ := hok.ends hd
  have ho := out_spot h1
  have hi := in_spot h2
  obtain ⟨n, _, q1, _, q2, _⟩ := has_in h2
  rcases h with h | h
  · rw [h, hs] at ho
    simp at ho
  · rw [h, hs] at hi
    simp only [Option.some.injEq, Prod.mk.injEq] at hi
    omega
theorem out_match {g : Gph} (hok : Gok g) {e k i p : Nat} {d : Edg} (hd : g.edges[e]? = some d) (hs : (spotsU g.nodes g.nodes.length)[k]? = some (i, p, false)) (h : outPl g.nodes d = k ∨ inPl g.nodes d = k) : d.src = (i : Int) ∧ d.out = (p : Int) := by
  obtain ⟨h1, h2⟩ := hok.ends hd
  have ho := out_spot h1
  have hi := in_spot h2
  obtain ⟨n, _, q1, _, q2, _⟩ := has_out h1
  rcases h with h | h
  · rw [h, hs] at ho
    simp only [Option.some.injEq, Prod.mk.injEq] at ho
    omega
  · rw [h, hs] at hi
    simp at hi
theorem edN_eq {g : Gph} {k : Nat} (h : k < plN g.nodes) : edN g (k : Int) = edgesU g.nodes g.edges k g.edges.length := by
  unfold edN
  rw [if_pos (by omega), Int.toNat_natCast]
theorem inN_at {ns : List Nod} {i p c : Nat} {n : Nod} (hn : ns[i]? = some n) (hc : n.ins = (c : Int)) (hp : p < c) : inN ns (i : Nat) (p : Nat) = (firstN ns i + p : Nat) := by
  unfold inN hasIN natN?
  rw [if_pos (by omega : (0 : Int) ≤ (i : Nat)), Int.toNat_natCast, hn]
  simp only
  rw [if_pos (by simp; omega)]
  omega
theorem outN_at {ns : List Nod} {i p c o : Nat} {n : Nod} (hn : ns[i]? = some n) (hc : n.ins = (c : Int)) (ho : n.outs = (o : Int)) (hp : p < o) : outN ns (i : Nat) (p : Nat) = (firstN ns i + (c + p) : Nat) := by
  unfold outN hasON natN?
  rw [if_pos (by omega : (0 : Int) ≤ (i : Nat)), Int.toNat_natCast, hn]
  simp only
  rw [if_pos (by simp; omega)]
  omega
theorem inN_no {ns : List Nod} {i c : Nat} {n : Nod} (hn : ns[i]? = some n) (hc : n.ins = (c : Int)) : inN ns (i : Nat) (c : Nat) = -1 := by
  unfold inN hasIN natN?
  rw [if_pos (by omega : (0 : Int) ≤ (i : Nat)), Int.toNat_natCast, hn]
  simp only
  rw [if_neg (by simp; omega)]
theorem outN_no {ns : List Nod} {i c : Nat} {n : Nod} (hn : ns[i]? = some n) (hc : n.outs = (c : Int)) : outN ns (i : Nat) (c : Nat) = -1 := by
  unfold outN hasON natN?
  rw [if_pos (by omega : (0 : Int) ≤ (i : Nat)), Int.toNat_natCast, hn]
  simp only
  rw [if_neg (by simp; omega)]
/-- What stands while a place's edges are gone through. -/
def Iv (V : World) (Ds : List Nat) (jb s7 : Nat) (q : Option Addr) (el c : Nat) (i : Int) (pb nb lb : Nat) (port : Int) (inn : Bool) (ns : List Nod) (es : List Edg) (nx : Nat) (L : List Int) (pre : List Int) (W : World) : Prop := ∃ S last, Pb V Ds W jb s7 q el c i S pb nb lb port inn last ∧ -1 ≤ last ∧ (pre <+: L → Sn ns es nx pre S ∧ last = lastI pre)
theorem Iv.own {V : World} {Ds : List Nat} {jb s7 : Nat} {q : Option Addr} {el c : Nat} {i : Int} {pb nb lb : Nat} {port : Int} {inn : Bool} {ns : List Nod} {es : List Edg} {nx : Nat} {L : List Int} {B : Nat} (hV : V.heap.size ≤ B) (hD : ∀ D ∈ Ds, D < B) : OwnFrom B (Iv V Ds jb s7 q el c i pb nb lb port inn ns es nx L) := fun _ _ _ _ ⟨S, last, h, h1, h2⟩ hg hr => ⟨S, last, h.own hV hD hg hr, h1, h2⟩
theorem nev_own {B : Nat} {L : List Int} : OwnFrom B (fun (pre : List Int) (_ : World) => ¬ pre <+: L) := fun _ _ _ _ h _ _ => h
end Go.Proofs.Ytdiecnacbkpceaa.Df
