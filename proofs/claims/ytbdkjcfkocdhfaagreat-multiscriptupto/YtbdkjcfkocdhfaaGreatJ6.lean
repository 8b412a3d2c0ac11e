import Derived.Test.YtbdkjcfkocdhfaaGreatJ5
import Derived.Test.YtbdkjcfkocdhfaaGreatJ1
import Derived.Test.YtbdkjcfkocdhfaaGreatMPut
namespace Go.Proofs.YtbdkjcfkocdhfaaGreat
open Go.RowKit Go.Sort

/-- 'append(own, x, x)', with the old list, of any elements. -/
theorem wpAppKeep2 {P : Program} {α : Type} (E : El α) {e sT : TypeId} {z : Value} {bt : Nat} (hu : P.underlying sT = some (.slice e)) (hI : (P.info? e).map (fun i => (i.zero, i.size, i.bytes)) = some (some z, E.k, bt)) (hz : z.cells.size = E.k) (hk0 : 0 < E.k)
    {w : World} {ops : Array Oper} {rest : List Oper} {o : Oper} {a : Act} {Q : Exit → Act → World → Prop} (hgd : o.guard = none) (s y : Operand)
    (ho : o.op = .call { callee := .builtin .append, args := #[s, y], argTypes := #[sT, sT] })
    (v : Value) (n : Nat) (l : List α) (hs : a.eval s = v) (hown : w.ownsRow 0 e E.k v n (fl E l)) (hn : l.length = n)
    (x : α) (hx : a.eval y = .slice (some ⟨w.heap.size, 0, none⟩) 2 2) (hbig : (n + 2) * bt ≤ 140737488355328) (hmx : n + 2 ≤ maxLen)
    (cs : Array Value) (hcs : cs.toList = E.enc x ++ E.enc x) (te : TypeId)
    (h : ∀ g cap w', w'.ownsRow 0 e E.k (.slice (some ⟨g, 0, none⟩) (n + 2) cap) (n + 2) (fl E (l ++ [x, x])) → Kp (fun q => v.ownBlock = some q) w w' → (v.ownBlock = some g ∨ w.heap.size ≤ g) → Ls E w' v l → wpList P ops Q rest (a.put o.dst (.slice (some ⟨g, 0, none⟩) (n + 2) cap)) w') :
    wpList P ops Q (o :: rest) a (w.alloc (.cells cs te)) := by
  obtain ⟨i0, hi, hz0, hz1, hz2⟩ := info_parts hI
  have hnew : fl E [x, x] = E.enc x ++ E.enc x := by rw [fl_cons, fl_one]
  have hown' := hown.alloc (.cells cs te)
  obtain ⟨g, cap, w', hr, h2, h3, h4, h5⟩ := app_keep (P := P) (w.alloc (.cells cs te)) sT o.type e i0 _ E.k bt hu hi hz0 hz1 hz2 hz hk0 v n (fl E l) hown' ⟨w.heap.size, 0, none⟩ 2 2 (fl E [x, x]) (fl_length E [x, x]) (by have := World.news_of_block (heap_new' w (.cells cs te)); rw [hcs, ← hnew] at this; exact this) (fl_oneCell E [x, x]) (by decide) hmx hbig
  refine wpList_plain hgd fun K hK => ?_
  unfold Oper.wp execOp
  simp only [ho, resolve, invoke, builtin, Sem.run_bind, Sem.run_pure, Result.andThen_ok, List.map_toArray, List.map_cons, List.map_nil, hs, hx, hr]
  have hk : Kp (fun q => v.ownBlock = some q) w w' := (Kp.of_below ((Gr.refl w).alloc _).below).trans (Kp.grownBy (S := fun q => v.ownBlock = some q) h3 (fun _ h => h)) (fun _ _ h => h)
  refine hK _ _ (h g cap w' (by rw [fl_append]; exact h2) hk (h4.imp id (fun e => by rw [e]; simp)) ?_)
  rcases owns_ls (E := E) (ts := l) (by rw [hn]; exact hown) with h0 | ⟨b, off, c, hv, hb, ht⟩
  · exact Or.inl h0
  · refine Or.inr ⟨b, off, c, hv, Nat.lt_of_lt_of_le hb hk.size, fun j u hj => ?_⟩
    obtain ⟨_, ⟨h0, _⟩ | ⟨g', cap', cur, hv', _⟩⟩ := id hown
    · rw [hv] at h0; cases h0
    · rw [hv] at hv'
      simp only [Value.slice.injEq, Option.some.injEq, Addr.mk.injEq, and_true] at hv'
      obtain ⟨⟨rfl, rfl⟩, _⟩ := hv'
      rw [Nat.zero_add]
      exact h5 b (by rw [hv]; rfl) j u hj
end Go.Proofs.YtbdkjcfkocdhfaaGreat

namespace Go.Proofs.YtbdkjcfkocdhfaaGreat
open Go.RowKit Go.Sort

theorem infoLt : (Tryz.prog.info? 35).map (fun i => (i.zero, i.size, i.bytes)) = some (some (.slice none 0 0), 1, 24) := by kernel_rfl
theorem infoLd : (Tryz.prog.info? 22).map (fun i => (i.zero, i.size, i.bytes)) = some (some (.slice none 0 0), 1, 24) := by kernel_rfl
/-- The marks of list i. -/
theorem wf64 {i : Nat} (h : i < 9223372036854775808) : (Lit.int .u64 (i : Int)).wf = true := by
  simp [Lit.wf, IntKind.min, IntKind.max, IntKind.signed, IntKind.bits]; omega
def tz : Tm := ⟨(0, 0, 0), by decide, by decide, by decide⟩
theorem wf77 : (Lit.int .u64 77).wf = true := by decide
theorem wf0 : (Lit.int .u64 0).wf = true := by decide
def mkT (i : Nat) : Tm := if h : i < 9223372036854775808 then ⟨((i : Int), 0, 77), wf64 h, wf0, wf77⟩ else tz
theorem mkT_val {i : Nat} (h : i < 9223372036854775808) : (mkT i).1 = ((i : Int), 0, 77) := by unfold mkT; rw [dif_pos h]
def mkD (i : Nat) : Dl := (tz, 1000 + (i : Int))

theorem flD_set (L : List Dl) (k : Nat) (x : Dl) : ((((fl ED L).set (k * 4) (.int .u64 x.1.1.1)).set (k * 4 + 1) (.int .u64 x.1.1.2.1)).set (k * 4 + 2) (.int .u64 x.1.1.2.2)).set (k * 4 + 3) (.int .i64 x.2) = fl ED (L.set k x) := by
  induction L generalizing k with
  | nil => simp [fl]
  | cons y L ih =>
    rw [fl_cons]
    cases k with
    | zero => simp [ED, fl]
    | succ k =>
      rw [List.set_cons_succ, fl_cons, ← ih k, show (k + 1) * 4 = k * 4 + 4 by omega]
      simp [ED]
theorem owns_set4 {w : World} {g N cap k : Nat} {L : List Dl} (x : Dl) (h : w.ownsRow 0 34 4 (.slice (some ⟨g, 0, none⟩) N cap) N (fl ED L)) :
    ((((w.setCell ⟨g, k * 4, none⟩ (.int .u64 x.1.1.1)).setCell ⟨g, k * 4 + 1, none⟩ (.int .u64 x.1.1.2.1)).setCell ⟨g, k * 4 + 2, none⟩ (.int .u64 x.1.1.2.2)).setCell ⟨g, k * 4 + 3, none⟩ (.int .i64 x.2)).ownsRow 0 34 4 (.slice (some ⟨g, 0, none⟩) N cap) N (fl ED (L.set k x)) ∧
      Kp (fun j => j = g) w ((((w.setCell ⟨g, k * 4, none⟩ (.int .u64 x.1.1.1)).setCell ⟨g, k * 4 + 1, none⟩ (.int .u64 x.1.1.2.1)).setCell ⟨g, k * 4 + 2, none⟩ (.int .u64 x.1.1.2.2)).setCell ⟨g, k * 4 + 3, none⟩ (.int .i64 x.2)) := by
  obtain ⟨h1, k1⟩ := owns_cell0 (q := k * 4) (.int .u64 x.1.1.1) h
  obtain ⟨h2, k2⟩ := owns_cell0 (q := k * 4 + 1) (.int .u64 x.1.1.2.1) h1
  obtain ⟨h3, k3⟩ := owns_cell0 (q := k * 4 + 2) (.int .u64 x.1.1.2.2) h2
  obtain ⟨h4, k4⟩ := owns_cell0 (q := k * 4 + 3) (.int .i64 x.2) h3
  rw [flD_set] at h4
  exact ⟨h4, ((k1.trans k2 (fun _ _ h => h)).trans k3 (fun _ _ h => h)).trans k4 (fun _ _ h => h)⟩
section
variable {W : World} {n k g len cap i : Nat} {V : Nat → Value}
theorem fam_markT {C : Nat → List Tm} (h : Fam ET 32 W n V (stage mkT C k i)) (hk : k < n) (hV : V k = .slice (some ⟨g, 0, none⟩) len cap) (hl : (C k).length = len) (hi : i < (C k).length) (h63 : k < 9223372036854775808) :
    Fam ET 32 (((W.setCell ⟨g, i * 3, none⟩ (.int .u64 (k : Int))).setCell ⟨g, i * 3 + 1, none⟩ (.int .u64 0)).setCell ⟨g, i * 3 + 2, none⟩ (.int .u64 77)) n V (stage mkT C k (i + 1)) ∧ Kp (fun q => (V k).ownBlock = some q) W (((W.setCell ⟨g, i * 3, none⟩ (.int .u64 (k : Int))).setCell ⟨g, i * 3 + 1, none⟩ (.int .u64 0)).setCell ⟨g, i * 3 + 2, none⟩ (.int .u64 77)) := by
  have ho := h.own k hk
  have hsl := stage_len mkT C k i k (Nat.le_of_lt hi)
  rw [hV, hsl, hl] at ho
  obtain ⟨h1, h2⟩ := Cn.owns_set3 (k := i) (mkT k) ho
  rw [mkT_val h63] at h1 h2
  exact h.set hk hV (mkT k) (stage_step mkT C k i hi) (by rw [hsl, hl]; exact h1) h2
theorem fam_markD {C : Nat → List Dl} (h : Fam ED 34 W n V (stage mkD C k i)) (hk : k < n) (hV : V k = .slice (some ⟨g, 0, none⟩) len cap) (hl : (C k).length = len) (hi : i < (C k).length) :
    Fam ED 34 ((((W.setCell ⟨g, i * 4, none⟩ (.int .u64 0)).setCell ⟨g, i * 4 + 1, none⟩ (.int .u64 0)).setCell ⟨g, i * 4 + 2, none⟩ (.int .u64 0)).setCell ⟨g, i * 4 + 3, none⟩ (.int .i64 (1000 + (k : Int)))) n V (stage mkD C k (i + 1)) ∧ Kp (fun q => (V k).ownBlock = some q) W ((((W.setCell ⟨g, i * 4, none⟩ (.int .u64 0)).setCell ⟨g, i * 4 + 1, none⟩ (.int .u64 0)).setCell ⟨g, i * 4 + 2, none⟩ (.int .u64 0)).setCell ⟨g, i * 4 + 3, none⟩ (.int .i64 (1000 + (k : Int)))) := by
  have ho := h.own k hk
  have hsl := stage_len mkD C k i k (Nat.le_of_lt hi)
  rw [hV, hsl, hl] at ho
  obtain ⟨h1, h2⟩ := owns_set4 (k := i) (mkD k) ho
  exact h.set hk hV (mkD k) (stage_step mkD C k i hi) (by rw [hsl, hl]; exact h1) h2
end
theorem rep2 {α : Type} (n : Nat) (x : α) : List.replicate (n + 2) x = List.replicate n x ++ [x, x] := by
  rw [show n + 2 = n + 1 + 1 from rfl, List.replicate_succ', List.replicate_succ', List.append_assoc]; rfl
theorem hideM {P : Prop} (h : P) : Hid P := h
/-- A list of slices: where it lies. -/
theorem row_form {w : World} {e : TypeId} {s : Value} {n : Nat} {V : Nat → Value} (h : w.ownsRow 0 e 1 s n ((List.range n).map V)) : ∃ p g c, s = .slice p n c ∧ ∀ i, i < n → p = some ⟨g, 0, none⟩ ∧ g < w.heap.size ∧ w.cell? ⟨g, i, none⟩ = some (V i) ∧ s.ownBlock = some g := by
  obtain ⟨_, ⟨h0, h1⟩ | ⟨ga, cap, cur, h0, hbg, hgg, _⟩⟩ := id h
  · exact ⟨none, 0, 0, by rw [h0, h1], fun i hi => by omega⟩
  · refine ⟨_, ga, _, h0, fun i hi => ⟨rfl, (Array.getElem?_eq_some_iff.1 hgg).1, ?_, by rw [h0]; rfl⟩⟩
    have := h.cells (g := ga) (by rw [h0]; rfl) i (V i) (by simp [hi])
    rw [addA, Nat.zero_add] at this
    exact this
/-- Blocks of a family. -/
def SqF (n : Nat) (V : Nat → Value) (q : Nat) : Prop := ∃ i, i < n ∧ (V i).ownBlock = some q

/-- The book: four lists of lists. -/
structure Bk (w : World) (kb nT nD : Nat) (sT sU sD sX : Value) (VT VU VD VX : Nat → Value) (CT : Nat → List Tm) (CD : Nat → List Dl) : Prop where
  blk : w.heap[kb]? = some (.cells #[sT, sU, sD, sX] 56 (0, 0))
  rT : w.ownsRow 0 35 1 sT nT ((List.range nT).map VT)
  rU : w.ownsRow 0 35 1 sU nT ((List.range nT).map VU)
  rD : w.ownsRow 0 22 1 sD nD ((List.range nD).map VD)
  rX : w.ownsRow 0 22 1 sX nD ((List.range nD).map VX)
  fT : Fam ET 32 w nT VT CT
  fD : Fam ED 34 w nD VD CD
  wT : ∀ i, i < nT → Ls ET w (VU i) (CT i)
  wD : ∀ i, i < nD → Ls ED w (VX i) (CD i)
  sTD : ∀ q, SqF nT VT q → ¬ SqF nD VD q
  sK : ∀ q, SqF nT VT q ∨ SqF nD VD q → q ≠ kb ∧ sT.ownBlock ≠ some q ∧ sD.ownBlock ≠ some q
  few : nT ≤ 1048576 ∧ nD ≤ 1048576
  small : (∀ i, i < nT → (CT i).length ≤ 1048576) ∧ ∀ i, i < nD → (CD i).length ≤ 1048576
/-- What is read of the book, as long as only the lists' own blocks are turned. -/
def BkOk (W : World) (kb nT nD : Nat) (pT pD : Option Addr) (gT gD cT cD : Nat) (VT VD : Nat → Value) : Prop :=
  W.cell? ⟨kb, 0, none⟩ = some (.slice pT nT cT) ∧ W.cell? ⟨kb, 2, none⟩ = some (.slice pD nD cD) ∧ kb < W.heap.size ∧ (∀ i, i < nT → pT = some ⟨gT, 0, none⟩ ∧ gT < W.heap.size ∧ W.cell? ⟨gT, i, none⟩ = some (VT i)) ∧ ∀ i, i < nD → pD = some ⟨gD, 0, none⟩ ∧ gD < W.heap.size ∧ W.cell? ⟨gD, i, none⟩ = some (VD i)
theorem Bk.ok {w W : World} {kb nT nD : Nat} {pT pD : Option Addr} {gT gD cT cD : Nat} {sU sX : Value} {VT VU VD VX : Nat → Value} {CT : Nat → List Tm} {CD : Nat → List Dl} (h : Bk w kb nT nD (.slice pT nT cT) sU (.slice pD nD cD) sX VT VU VD VX CT CD)
    (fT : ∀ i, i < nT → pT = some ⟨gT, 0, none⟩ ∧ gT < w.heap.size ∧ w.cell? ⟨gT, i, none⟩ = some (VT i) ∧ (Value.slice pT nT cT).ownBlock = some gT) (fD : ∀ i, i < nD → pD = some ⟨gD, 0, none⟩ ∧ gD < w.heap.size ∧ w.cell? ⟨gD, i, none⟩ = some (VD i) ∧ (Value.slice pD nD cD).ownBlock = some gD)
    (hk : Kp (fun q => SqF nT VT q ∨ SqF nD VD q) w W) : BkOk W kb nT nD pT pD gT gD cT cD VT VD := by
  have hkb : kb < w.heap.size := (Array.getElem?_eq_some_iff.1 h.blk).1
  have hn : ¬ (SqF nT VT kb ∨ SqF nD VD kb) := fun e => (h.sK kb e).1 rfl
  refine ⟨?_, ?_, Nat.lt_of_lt_of_le hkb hk.size, fun i hi => ?_, fun i hi => ?_⟩
  · rw [hk.cell hkb hn]; simp [World.cell?, h.blk]
  · rw [hk.cell hkb hn]; simp [World.cell?, h.blk]
  · obtain ⟨h1, h2, h3, h4⟩ := fT i hi
    exact ⟨h1, Nat.lt_of_lt_of_le h2 hk.size, (hk.cell h2 (fun e => (h.sK gT e).2.1 h4)).trans h3⟩
  · obtain ⟨h1, h2, h3, h4⟩ := fD i hi
    exact ⟨h1, Nat.lt_of_lt_of_le h2 hk.size, (hk.cell h2 (fun e => (h.sK gD e).2.2 h4)).trans h3⟩
/-- The grown lists of one kind stay while the others are grown. -/
theorem Grw.far {α : Type} {E : El α} {e eS : TypeId} {mk : Nat → α} {d : Nat} {w2 W W' : World} {N k : Nat} {V X : Nat → Value} {n : Nat → Nat} {s : Value} {S : Nat → Prop} (h : Grw E e eS mk d w2 N V n W k X s) (hk : Kp S W W') (hS : ∀ q, S q → q < w2.heap.size) (hV : ∀ i, i < N → ∀ q, (V i).ownBlock = some q → ¬ S q) (hkN : k ≤ N) :
    (∀ i, i < k → Ls E W' (X i) (List.replicate (n i + d) (mk i))) ∧ (∀ i, i < k → Ls E W' (V i) (List.replicate (n i) (mk i))) ∧ W'.ownsRow w2.heap.size eS 1 s k ((List.range k).map X) :=
  ⟨fun i hi => hk.ls (h.big i hi) (fun q hq e => by
      rcases h.lie i hi q hq with h1 | h1
      · exact hV i (by omega) q h1 e
      · have := hS q e; omega), fun i hi => hk.ls (h.old i hi) (hV i (by omega)), owns_kp hk h.more (fun q hq e => by
      have h1 := (h.more.lt q hq).1
      have h2 := hS q e
      omega)⟩
end Go.Proofs.YtbdkjcfkocdhfaaGreat

namespace Go.Proofs.YtbdkjcfkocdhfaaGreat
open Go.RowKit Go.Sort

/-- All blocks of v bear the tag t. -/
def Tg (ow : Nat → Nat) (t : Nat) (v : Value) : Prop := ∀ g, v.ownBlock = some g → ow g = t
/-- Below s as it was, from s on by f. -/
def ext (ow : Nat → Nat) (s : Nat) (f : Nat → Nat) (k : Nat) : Nat := if k < s then ow k else f k
theorem ext_lt {ow : Nat → Nat} {s : Nat} {f : Nat → Nat} {k : Nat} (h : k < s) : ext ow s f k = ow k := if_pos h
theorem ext_ge {ow : Nat → Nat} {s : Nat} {f : Nat → Nat} {k : Nat} (h : s ≤ k) : ext ow s f k = f k := if_neg (Nat.not_lt.2 h)
theorem Tg.ext {ow : Nat → Nat} {s : Nat} {f : Nat → Nat} {t : Nat} {v : Value} (h : Tg ow t v) (hv : ∀ g, v.ownBlock = some g → g < s) : Tg (ext ow s f) t v := fun g hg => by rw [ext_lt (hv g hg)]; exact h g hg
theorem owns_lt {W : World} {b : Nat} {e : TypeId} {s : Nat} {v : Value} {n : Nat} {xs : List Value} (h : W.ownsRow b e s v n xs) : ∀ g, v.ownBlock = some g → g < W.heap.size := fun g hg => (h.lt g hg).2

/-- A Multi: where it lies, what it counts. -/
structure Ml where
  mb : Nat
  tb : Nat
  b : Nat
  cb : Nat
  n : Nat
  v : Value
  f : Tm → Int
  fr : List Tm
def Ml.own (m : Ml) (k : Nat) : Prop := k = m.mb ∨ k = m.tb ∨ k = m.b ∨ k = m.cb ∨ m.v.ownBlock = some k
abbrev Ml.ok (m : Ml) (W : World) : Prop := Mu W m.mb m.tb m.b m.cb m.n m.v m.f m.fr
theorem Ml.kp {m : Ml} {W W' : World} {S : Nat → Prop} (h : m.ok W) (hk : Kp S W W') (hS : ∀ k, m.own k → ¬ S k) : m.ok W' :=
  Mu.kp h hk (hS _ (Or.inl rfl)) (hS _ (Or.inr (Or.inl rfl))) (hS _ (Or.inr (Or.inr (Or.inl rfl)))) (hS _ (Or.inr (Or.inr (Or.inr (Or.inl rfl))))) (fun k e => hS k (Or.inr (Or.inr (Or.inr (Or.inr e)))))
theorem Ml.lt {m : Ml} {W : World} (h : m.ok W) : ∀ k, m.own k → k < W.heap.size := fun k hk => by
  rcases hk with rfl | rfl | rfl | rfl | hk
  · exact Mu.lt h
  · exact h.tl.lt
  · exact h.tl.ta.lt
  · exact h.ch.lt
  · exact h.ch.row k hk
/-- The document's: its block and lists, its times and counts. -/
structure Rd where
  r : Rm
  T : List Tm
  N : List Int
abbrev Rd.ok (r : Rd) (W : World) : Prop := RM W r.r r.T r.N

/-- What the script holds: each block has one owner. -/
structure Scr (w0 W : World) (m nT nU nD : Nat) (M : Nat → Ml) (R : Nat → Rd) (VT VU VD VX : Nat → Value) (CT CU : Nat → List Tm) (CD : Nat → List Dl) (ow : Nat → Nat) (sM sR : Value) (kb : Nat) (sT sU sD sX : Value) : Prop where
  mu : ∀ i, i < m → (M i).ok W ∧ IsFr (M i).f (M i).fr ∧ ∀ k, (M i).own k → ow k = 3 + 2 * i
  rm : ∀ i, i < m → (R i).ok W ∧ (∀ k, (R i).r.own k → ow k = 4 + 2 * i) ∧ cn (R i).T (R i).N = (M i).f
  ms : W.ownsRow 0 23 1 sM m ((List.range m).map fun i => .pointer (some ⟨(M i).mb, 0, none⟩)) ∧ Tg ow 0 sM
  rs : W.ownsRow 0 50 1 sR m ((List.range m).map fun i => .pointer (some ⟨(R i).r.b, 0, none⟩)) ∧ Tg ow 1 sR
  bk : W.heap[kb]? = some (.cells #[sT, sU, sD, sX] 56 (0, 0)) ∧ ow kb = 2
  bT : W.ownsRow 0 35 1 sT nT ((List.range nT).map VT) ∧ Tg ow 15 sT
  bU : W.ownsRow 0 35 1 sU nU ((List.range nU).map VU) ∧ Tg ow 16 sU
  bD : W.ownsRow 0 22 1 sD nD ((List.range nD).map VD) ∧ Tg ow 17 sD
  bX : W.ownsRow 0 22 1 sX nD ((List.range nD).map VX) ∧ Tg ow 18 sX
  pT : ∀ p, p < nT → W.ownsRow 0 32 3 (VT p) (CT p).length (flT (CT p)) ∧ Tg ow (20 + 4 * p) (VT p)
  pU : ∀ p, p < nU → W.ownsRow 0 32 3 (VU p) (CU p).length (flT (CU p)) ∧ Tg ow (21 + 4 * p) (VU p)
  pD : ∀ p, p < nD → W.ownsRow 0 34 4 (VD p) (CD p).length (fl ED (CD p)) ∧ Tg ow (22 + 4 * p) (VD p)
  pX : ∀ p, p < nD → W.ownsRow 0 34 4 (VX p) (CD p).length (fl ED (CD p)) ∧ Tg ow (23 + 4 * p) (VX p)
  old : ∀ k, k < w0.heap.size → ow k = 14
  size : w0.heap.size ≤ W.heap.size
  below : Below w0.heap.size w0 W
  five : m ≤ 5

section
variable {w0 W W' : World} {m nT nU nD : Nat} {M : Nat → Ml} {R : Nat → Rd} {VT VU VD VX : Nat → Value} {CT CU : Nat → List Tm} {CD : Nat → List Dl} {ow : Nat → Nat} {sM sR : Value} {kb : Nat} {sT sU sD sX : Value}
theorem Scr.kbl (h : Scr w0 W m nT nU nD M R VT VU VD VX CT CU CD ow sM sR kb sT sU sD sX) : kb < W.heap.size := (Array.getElem?_eq_some_iff.1 h.bk.1).1
/-- What is not turned, under new tags for new blocks. -/
theorem keep_row {A : Nat → Prop} (hk : Kp (fun k => A (ow k)) W W') (nw : Nat → Nat) {e : TypeId} {s : Nat} {u : Value} {n : Nat} {xs : List Value} {t : Nat} (ht : ¬ A t) (h : W.ownsRow 0 e s u n xs ∧ Tg ow t u) :
    W'.ownsRow 0 e s u n xs ∧ Tg (ext ow W.heap.size nw) t u :=
  ⟨owns_kp hk h.1 (fun q hq e => ht (by rw [← h.2 q hq]; exact e)), h.2.ext (owns_lt h.1)⟩
theorem Scr.keep_mu (h : Scr w0 W m nT nU nD M R VT VU VD VX CT CU CD ow sM sR kb sT sU sD sX) {A : Nat → Prop} (hk : Kp (fun k => A (ow k)) W W') (nw : Nat → Nat) {i : Nat} (hi : i < m) (ht : ¬ A (3 + 2 * i)) :
    (M i).ok W' ∧ IsFr (M i).f (M i).fr ∧ ∀ k, (M i).own k → ext ow W.heap.size nw k = 3 + 2 * i := by
  obtain ⟨h1, h2, h3⟩ := h.mu i hi
  exact ⟨Ml.kp h1 hk (fun k hk' e => ht (by rw [← h3 k hk']; exact e)), h2, fun k hk' => by rw [ext_lt (Ml.lt h1 k hk')]; exact h3 k hk'⟩
theorem Scr.keep_rm (h : Scr w0 W m nT nU nD M R VT VU VD VX CT CU CD ow sM sR kb sT sU sD sX) {A : Nat → Prop} (hk : Kp (fun k => A (ow k)) W W') (nw : Nat → Nat) {i : Nat} (hi : i < m) (ht : ¬ A (4 + 2 * i)) :
    (R i).ok W' ∧ (∀ k, (R i).r.own k → ext ow W.heap.size nw k = 4 + 2 * i) ∧ cn (R i).T (R i).N = (M i).f := by
  obtain ⟨h1, h2, h3⟩ := h.rm i hi
  exact ⟨h1.kp hk (fun k hk' e => ht (by rw [← h2 k hk']; exact e)), fun k hk' => by rw [ext_lt (h1.own_lt k hk')]; exact h2 k hk', h3⟩
theorem Scr.keep_bl (h : Scr w0 W m nT nU nD M R VT VU VD VX CT CU CD ow sM sR kb sT sU sD sX) {A : Nat → Prop} (hk : Kp (fun k => A (ow k)) W W') (h14 : ¬ A 14) : Below w0.heap.size w0 W' :=
  h.below.trans (hk.below h.size (fun k hk' => by
    rcases Nat.lt_or_ge k w0.heap.size with hlt | hge
    · exact absurd (by rw [← h.old k hlt]; exact hk') h14
    · exact hge))
theorem Scr.keep_old (h : Scr w0 W m nT nU nD M R VT VU VD VX CT CU CD ow sM sR kb sT sU sD sX) (nw : Nat → Nat) : ∀ k, k < w0.heap.size → ext ow W.heap.size nw k = 14 := fun k hk => by
  rw [ext_lt (Nat.lt_of_lt_of_le hk h.size)]; exact h.old k hk
/-- Nothing old has turned. -/
theorem Scr.kept (h : Scr w0 W m nT nU nD M R VT VU VD VX CT CU CD ow sM sR kb sT sU sD sX) (hb : Below W.heap.size W W') : Scr w0 W' m nT nU nD M R VT VU VD VX CT CU CD ow sM sR kb sT sU sD sX :=
  ⟨fun i hi => ⟨(h.mu i hi).1.below hb, (h.mu i hi).2⟩, fun i hi => ⟨(h.rm i hi).1.bel hb, (h.rm i hi).2⟩, ⟨owns_below h.ms.1 hb, h.ms.2⟩, ⟨owns_below h.rs.1 hb, h.rs.2⟩, ⟨(hb.block kb h.kbl).trans h.bk.1, h.bk.2⟩,
    ⟨owns_below h.bT.1 hb, h.bT.2⟩, ⟨owns_below h.bU.1 hb, h.bU.2⟩, ⟨owns_below h.bD.1 hb, h.bD.2⟩, ⟨owns_below h.bX.1 hb, h.bX.2⟩,
    fun p hp => ⟨owns_below (h.pT p hp).1 hb, (h.pT p hp).2⟩, fun p hp => ⟨owns_below (h.pU p hp).1 hb, (h.pU p hp).2⟩, fun p hp => ⟨owns_below (h.pD p hp).1 hb, (h.pD p hp).2⟩, fun p hp => ⟨owns_below (h.pX p hp).1 hb, (h.pX p hp).2⟩,
    h.old, Nat.le_trans h.size hb.size, h.below.trans (hb.mono h.size), h.five⟩
theorem map_two (V V' : Nat → Value) (n : Nat) (h : ∀ p, p < n → V' p = V p) : (List.range (n + 2)).map V' = (List.range n).map V ++ [V' n, V' (n + 1)] := by
  rw [show n + 2 = n + 1 + 1 from rfl, List.range_succ, List.range_succ, List.map_append, List.map_append]
  have : (List.range n).map V' = (List.range n).map V := List.map_congr_left fun p hp => h p (List.mem_range.1 hp)
  rw [this]; simp
theorem map_one (V V' : Nat → Value) (n : Nat) (h : ∀ p, p < n → V' p = V p) : (List.range (n + 1)).map V' = (List.range n).map V ++ [V' n] := by
  rw [List.range_succ, List.map_append]
  have : (List.range n).map V' = (List.range n).map V := List.map_congr_left fun p hp => h p (List.mem_range.1 hp)
  rw [this]; simp
/-- A cell of the book is set. -/
theorem book_set {W : World} {kb : Nat} {a b c d : Value} (h : W.heap[kb]? = some (.cells #[a, b, c, d] 56 (0, 0))) (j : Nat) (u : Value) :
    (W.setCell ⟨kb, j, none⟩ u).heap[kb]? = some (.cells (#[a, b, c, d].setIfInBounds j u) 56 (0, 0)) ∧ Kp (fun q => q = kb) W (W.setCell ⟨kb, j, none⟩ u) := by
  have e := setCell_eq_setRow W kb j _ _ _ u h
  rw [e]
  exact ⟨setRow_heap W kb _ _ _ _ h, ⟨rfl, rfl, rfl, by simp [World.setRow], fun k _ hne => setRow_other W kb k _ (by omega)⟩⟩
/-- Two lists are put into the book. -/
theorem Scr.putT {W1 W2 W3 : World} (h : Scr w0 W m nT nU nD M R VT VU VD VX CT CU CD ow sM sR kb sT sU sD sX) {a1 a2 s' : Value} {d1 d2 : List Tm} (b1 : Below W.heap.size W W1) (b2 : Below W1.heap.size W1 W2)
    (h1 : W1.ownsRow W.heap.size 32 3 a1 d1.length (flT d1)) (h2 : W2.ownsRow W1.heap.size 32 3 a2 d2.length (flT d2)) (k3 : Kp (fun q => sT.ownBlock = some q) W2 W3)
    (hs : W3.ownsRow 0 35 1 s' (nT + 2) ((List.range nT).map VT ++ [a1, a2])) (hsl : ∀ g, s'.ownBlock = some g → sT.ownBlock = some g ∨ W2.heap.size ≤ g) :
    ∃ V' C' ow', (∀ p, p < nT → C' p = CT p) ∧ C' nT = d1 ∧ C' (nT + 1) = d2 ∧ Scr w0 (W3.setCell ⟨kb, 0, none⟩ s') m (nT + 2) nU nD M R V' VU VD VX C' CU CD ow' sM sR kb s' sU sD sX := by
  have z1 := b1.size
  have z2 := b2.size
  have z3 := k3.size
  have hb2 := h.kept b1 |>.kept b2
  have hbl : ∀ g, sT.ownBlock = some g → g < W.heap.size := owns_lt h.bT.1
  have hk3 : W3.heap[kb]? = some (.cells #[sT, sU, sD, sX] 56 (0, 0)) := (k3.block kb hb2.kbl (fun e => by have := h.bT.2 kb e; rw [h.bk.2] at this; omega)).trans hb2.bk.1
  obtain ⟨hblk, k4⟩ := book_set hk3 0 s'
  have K : Kp (fun k => ow k = 2 ∨ ow k = 15) W (W3.setCell ⟨kb, 0, none⟩ s') :=
    (((Kp.of_below b1 : Kp (fun k => ow k = 2 ∨ ow k = 15) W W1).trans (Kp.of_below b2 : Kp (fun _ => False) W1 W2) (fun _ _ h => h.elim)).trans k3 (fun q _ e => Or.inr (h.bT.2 q e))).trans k4 (fun q _ e => Or.inl (by rw [e]; exact h.bk.2))
  obtain ⟨nw, hnw⟩ : ∃ nw : Nat → Nat, nw = fun k => if k < W1.heap.size then 20 + 4 * nT else if k < W2.heap.size then 20 + 4 * (nT + 1) else 15 := ⟨_, rfl⟩
  have K3 : Kp (fun q => sT.ownBlock = some q ∨ q = kb) W2 (W3.setCell ⟨kb, 0, none⟩ s') := (⟨k3.os, k3.tape, k3.output, k3.size, fun q hq hn => k3.block q hq (fun e => hn (Or.inl e))⟩ : Kp (fun q => sT.ownBlock = some q ∨ q = kb) W2 W3).trans k4 (fun q _ e => Or.inr e)
  have hkbW := h.kbl
  have fresh : ∀ {e : TypeId} {s n : Nat} {u : Value} {xs : List Value} {lo : Nat}, W.heap.size ≤ lo → W2.ownsRow lo e s u n xs → (W3.setCell ⟨kb, 0, none⟩ s').ownsRow 0 e s u n xs := fun hlo ho =>
    owns_base (owns_kp K3 ho (fun q hq e => by
      have h1 := (ho.lt q hq).1
      rcases e with e | e
      · have := hbl q e; omega
      · omega)) (Nat.zero_le _)
  refine ⟨fun p => if p = nT then a1 else if p = nT + 1 then a2 else VT p, fun p => if p = nT then d1 else if p = nT + 1 then d2 else CT p, ext ow W.heap.size nw, fun p hp => ?_, ?_, ?_, ?_⟩
  · simp only [if_neg (show ¬ p = nT by omega), if_neg (show ¬ p = nT + 1 by omega)]
  · simp only [if_true]
  · simp only [if_neg (show ¬ nT + 1 = nT by omega), if_true]
  have keepR : ∀ {e : TypeId} {s : Nat} {u : Value} {n : Nat} {xs : List Value} {t : Nat}, t ≠ 2 → t ≠ 15 → W.ownsRow 0 e s u n xs ∧ Tg ow t u → (W3.setCell ⟨kb, 0, none⟩ s').ownsRow 0 e s u n xs ∧ Tg (ext ow W.heap.size nw) t u := fun h1 h2 h3 =>
    keep_row (A := fun t => t = 2 ∨ t = 15) K nw (by omega) h3
  have hself : ∀ p, p < nT + 2 → (W3.setCell ⟨kb, 0, none⟩ s').ownsRow 0 32 3 (if p = nT then a1 else if p = nT + 1 then a2 else VT p) (if p = nT then d1 else if p = nT + 1 then d2 else CT p).length (flT (if p = nT then d1 else if p = nT + 1 then d2 else CT p)) ∧ Tg (ext ow W.heap.size nw) (20 + 4 * p) (if p = nT then a1 else if p = nT + 1 then a2 else VT p) := fun p hp => by
    by_cases e1 : p = nT
    · subst e1
      simp only [if_true]
      refine ⟨fresh (Nat.le_refl _) (owns_below h1 b2), fun g hg => ?_⟩
      have := h1.lt g hg
      rw [ext_ge (by omega), hnw]
      simp only [if_pos this.2]
    · simp only [if_neg e1]
      by_cases e2 : p = nT + 1
      · subst e2
        simp only [if_true]
        refine ⟨fresh z1 h2, fun g hg => ?_⟩
        have := h2.lt g hg
        rw [ext_ge (by omega), hnw]
        simp only [if_neg (show ¬ g < W1.heap.size by omega), if_pos this.2]
      · simp only [if_neg e2]
        exact keepR (by omega) (by omega) (h.pT p (by omega))
  have hrow : (W3.setCell ⟨kb, 0, none⟩ s').ownsRow 0 35 1 s' (nT + 2) ((List.range (nT + 2)).map fun p => if p = nT then a1 else if p = nT + 1 then a2 else VT p) ∧ Tg (ext ow W.heap.size nw) 15 s' := by
    refine ⟨?_, fun g hg => ?_⟩
    · rw [map_two VT _ nT (fun p hp => by rw [if_neg (by omega), if_neg (by omega)])]
      simp only [if_true, if_neg (show ¬ nT + 1 = nT by omega)]
      exact owns_kp k4 hs (fun q hq e => by
        rcases hsl q hq with h3 | h3
        · have := h.bT.2 q h3; rw [e, h.bk.2] at this; omega
        · omega)
    · rcases hsl g hg with h3 | h3
      · rw [ext_lt (hbl g h3)]; exact h.bT.2 g h3
      · rw [ext_ge (by omega), hnw]
        simp only [if_neg (show ¬ g < W1.heap.size by omega), if_neg (show ¬ g < W2.heap.size by omega)]
  refine ⟨fun i hi => h.keep_mu (A := fun t => t = 2 ∨ t = 15) K nw hi (by have := h.five; omega), fun i hi => h.keep_rm (A := fun t => t = 2 ∨ t = 15) K nw hi (by have := h.five; omega), keepR (by omega) (by omega) h.ms, keepR (by omega) (by omega) h.rs, ⟨hblk, by rw [ext_lt hkbW]; exact h.bk.2⟩,
    hrow, keepR (by omega) (by omega) h.bU, keepR (by omega) (by omega) h.bD, keepR (by omega) (by omega) h.bX,
    hself, fun p hp => keepR (by omega) (by omega) (h.pU p hp), fun p hp => keepR (by omega) (by omega) (h.pD p hp), fun p hp => keepR (by omega) (by omega) (h.pX p hp), h.keep_old nw, Nat.le_trans h.size K.size, h.keep_bl (A := fun t => t = 2 ∨ t = 15) K (by omega), h.five⟩
/-- Two lists are put into the book. -/
theorem Scr.putU {W1 W2 W3 : World} (h : Scr w0 W m nT nU nD M R VT VU VD VX CT CU CD ow sM sR kb sT sU sD sX) {a1 a2 s' : Value} {d1 d2 : List Tm} (b1 : Below W.heap.size W W1) (b2 : Below W1.heap.size W1 W2)
    (h1 : W1.ownsRow W.heap.size 32 3 a1 d1.length (flT d1)) (h2 : W2.ownsRow W1.heap.size 32 3 a2 d2.length (flT d2)) (k3 : Kp (fun q => sU.ownBlock = some q) W2 W3)
    (hs : W3.ownsRow 0 35 1 s' (nU + 2) ((List.range nU).map VU ++ [a1, a2])) (hsl : ∀ g, s'.ownBlock = some g → sU.ownBlock = some g ∨ W2.heap.size ≤ g) :
    ∃ V' C' ow', (∀ p, p < nU → C' p = CU p) ∧ C' nU = d1 ∧ C' (nU + 1) = d2 ∧ Scr w0 (W3.setCell ⟨kb, 1, none⟩ s') m nT (nU + 2) nD M R VT V' VD VX CT C' CD ow' sM sR kb sT s' sD sX := by
  have z1 := b1.size
  have z2 := b2.size
  have z3 := k3.size
  have hb2 := h.kept b1 |>.kept b2
  have hbl : ∀ g, sU.ownBlock = some g → g < W.heap.size := owns_lt h.bU.1
  have hk3 : W3.heap[kb]? = some (.cells #[sT, sU, sD, sX] 56 (0, 0)) := (k3.block kb hb2.kbl (fun e => by have := h.bU.2 kb e; rw [h.bk.2] at this; omega)).trans hb2.bk.1
  obtain ⟨hblk, k4⟩ := book_set hk3 1 s'
  have K : Kp (fun k => ow k = 2 ∨ ow k = 16) W (W3.setCell ⟨kb, 1, none⟩ s') :=
    (((Kp.of_below b1 : Kp (fun k => ow k = 2 ∨ ow k = 16) W W1).trans (Kp.of_below b2 : Kp (fun _ => False) W1 W2) (fun _ _ h => h.elim)).trans k3 (fun q _ e => Or.inr (h.bU.2 q e))).trans k4 (fun q _ e => Or.inl (by rw [e]; exact h.bk.2))
  obtain ⟨nw, hnw⟩ : ∃ nw : Nat → Nat, nw = fun k => if k < W1.heap.size then 21 + 4 * nU else if k < W2.heap.size then 21 + 4 * (nU + 1) else 16 := ⟨_, rfl⟩
  have K3 : Kp (fun q => sU.ownBlock = some q ∨ q = kb) W2 (W3.setCell ⟨kb, 1, none⟩ s') := (⟨k3.os, k3.tape, k3.output, k3.size, fun q hq hn => k3.block q hq (fun e => hn (Or.inl e))⟩ : Kp (fun q => sU.ownBlock = some q ∨ q = kb) W2 W3).trans k4 (fun q _ e => Or.inr e)
  have hkbW := h.kbl
  have fresh : ∀ {e : TypeId} {s n : Nat} {u : Value} {xs : List Value} {lo : Nat}, W.heap.size ≤ lo → W2.ownsRow lo e s u n xs → (W3.setCell ⟨kb, 1, none⟩ s').ownsRow 0 e s u n xs := fun hlo ho =>
    owns_base (owns_kp K3 ho (fun q hq e => by
      have h1 := (ho.lt q hq).1
      rcases e with e | e
      · have := hbl q e; omega
      · omega)) (Nat.zero_le _)
  refine ⟨fun p => if p = nU then a1 else if p = nU + 1 then a2 else VU p, fun p => if p = nU then d1 else if p = nU + 1 then d2 else CU p, ext ow W.heap.size nw, fun p hp => ?_, ?_, ?_, ?_⟩
  · simp only [if_neg (show ¬ p = nU by omega), if_neg (show ¬ p = nU + 1 by omega)]
  · simp only [if_true]
  · simp only [if_neg (show ¬ nU + 1 = nU by omega), if_true]
  have keepR : ∀ {e : TypeId} {s : Nat} {u : Value} {n : Nat} {xs : List Value} {t : Nat}, t ≠ 2 → t ≠ 16 → W.ownsRow 0 e s u n xs ∧ Tg ow t u → (W3.setCell ⟨kb, 1, none⟩ s').ownsRow 0 e s u n xs ∧ Tg (ext ow W.heap.size nw) t u := fun h1 h2 h3 =>
    keep_row (A := fun t => t = 2 ∨ t = 16) K nw (by omega) h3
  have hself : ∀ p, p < nU + 2 → (W3.setCell ⟨kb, 1, none⟩ s').ownsRow 0 32 3 (if p = nU then a1 else if p = nU + 1 then a2 else VU p) (if p = nU then d1 else if p = nU + 1 then d2 else CU p).length (flT (if p = nU then d1 else if p = nU + 1 then d2 else CU p)) ∧ Tg (ext ow W.heap.size nw) (21 + 4 * p) (if p = nU then a1 else if p = nU + 1 then a2 else VU p) := fun p hp => by
    by_cases e1 : p = nU
    · subst e1
      simp only [if_true]
      refine ⟨fresh (Nat.le_refl _) (owns_below h1 b2), fun g hg => ?_⟩
      have := h1.lt g hg
      rw [ext_ge (by omega), hnw]
      simp only [if_pos this.2]
    · simp only [if_neg e1]
      by_cases e2 : p = nU + 1
      · subst e2
        simp only [if_true]
        refine ⟨fresh z1 h2, fun g hg => ?_⟩
        have := h2.lt g hg
        rw [ext_ge (by omega), hnw]
        simp only [if_neg (show ¬ g < W1.heap.size by omega), if_pos this.2]
      · simp only [if_neg e2]
        exact keepR (by omega) (by omega) (h.pU p (by omega))
  have hrow : (W3.setCell ⟨kb, 1, none⟩ s').ownsRow 0 35 1 s' (nU + 2) ((List.range (nU + 2)).map fun p => if p = nU then a1 else if p = nU + 1 then a2 else VU p) ∧ Tg (ext ow W.heap.size nw) 16 s' := by
    refine ⟨?_, fun g hg => ?_⟩
    · rw [map_two VU _ nU (fun p hp => by rw [if_neg (by omega), if_neg (by omega)])]
      simp only [if_true, if_neg (show ¬ nU + 1 = nU by omega)]
      exact owns_kp k4 hs (fun q hq e => by
        rcases hsl q hq with h3 | h3
        · have := h.bU.2 q h3; rw [e, h.bk.2] at this; omega
        · omega)
    · rcases hsl g hg with h3 | h3
      · rw [ext_lt (hbl g h3)]; exact h.bU.2 g h3
      · rw [ext_ge (by omega), hnw]
        simp only [if_neg (show ¬ g < W1.heap.size by omega), if_neg (show ¬ g < W2.heap.size by omega)]
  refine ⟨fun i hi => h.keep_mu (A := fun t => t = 2 ∨ t = 16) K nw hi (by have := h.five; omega), fun i hi => h.keep_rm (A := fun t => t = 2 ∨ t = 16) K nw hi (by have := h.five; omega), keepR (by omega) (by omega) h.ms, keepR (by omega) (by omega) h.rs, ⟨hblk, by rw [ext_lt hkbW]; exact h.bk.2⟩,
    keepR (by omega) (by omega) h.bT, hrow, keepR (by omega) (by omega) h.bD, keepR (by omega) (by omega) h.bX,
    fun p hp => keepR (by omega) (by omega) (h.pT p hp), hself, fun p hp => keepR (by omega) (by omega) (h.pD p hp), fun p hp => keepR (by omega) (by omega) (h.pX p hp), h.keep_old nw, Nat.le_trans h.size K.size, h.keep_bl (A := fun t => t = 2 ∨ t = 16) K (by omega), h.five⟩
end
end Go.Proofs.YtbdkjcfkocdhfaaGreat
