import Derived.Test.YtifjjnnpoleinaaRtEq
import Derived.BigFrameIn
import Derived.Sort.CutIn
namespace Go.Proofs.Ytifjjnnpoleinaa.Df
open Go.RowKit Go.Sort

/-- Deferred marks, all apart. -/
def mkD (D : Nat) : Deferred := { target := .collected D, args := #[] }
def Dok (B : Nat) (Ds : List Nat) (w : World) : Prop := Ds.Nodup ∧ ∀ D ∈ Ds, B ≤ D ∧ w.heap[D]? = some (.deferred (some []))
theorem Dok.nil (B : Nat) (w : World) : Dok B [] w := ⟨List.nodup_nil, fun _ h => by cases h⟩
theorem Dok.cons {B D : Nat} {Ds : List Nat} {w : World} (h : Dok B Ds w) (hD : w.heap[D]? = some (.deferred (some []))) (hB : B ≤ D) (hn : D ∉ Ds) : Dok B (D :: Ds) w :=
  ⟨List.nodup_cons.2 ⟨hn, h.1⟩, fun E hE => by
    rcases List.mem_cons.1 hE with rfl | hE
    · exact ⟨hB, hD⟩
    · exact h.2 E hE⟩
theorem Dok.below {B : Nat} {Ds : List Nat} {w w' : World} (h : Dok B Ds w) (hb : Below w.heap.size w w') : Dok B Ds w' := ⟨h.1, fun D hD => ⟨(h.2 D hD).1, (hb.block D (tk_lt (h.2 D hD).2)).trans (h.2 D hD).2⟩⟩
theorem Dok.lt {B D : Nat} {Ds : List Nat} {w : World} (h : Dok B Ds w) (hD : D ∈ Ds) : D < w.heap.size := tk_lt (h.2 D hD).2
/-- Cells have changed, marks have not. -/
theorem Dok.sb {B b : Nat} {Ds : List Nat} {w w' : World} {cur : Array Value} {T : TypeId} (h : Dok B Ds w) (hb : w.heap[b]? = some (.cells cur T (0, 0))) (k : Kp (fun k => k = b) w w') : Dok B Ds w' := ⟨h.1, fun D hD => ⟨(h.2 D hD).1, (k.block D (h.lt hD) (fun e => by have h1 := (h.2 D hD).2; rw [e, hb] at h1; cases h1)).trans (h.2 D hD).2⟩⟩
/-- The marks are taken. -/
theorem leaves_marks {n : Nat} {P : Program} {fn : Func} {tmps : Array Value} {R : Ending → World → Prop} {B : Nat} : ∀ (Ds : List Nat) (w : World), Dok B Ds w → (∀ w', Below B w w' → (∀ (k : Nat) (cur : Array Value) (T : TypeId), w.heap[k]? = some (.cells cur T (0, 0)) → w'.heap[k]? = some (.cells cur T (0, 0))) → ∃ v, (results fn tmps).run P w' = .ok v w' ∧ R (.returned v) w') → LeavesInM Fence.wide n P fn tmps R (Ds.map mkD) .returning w
  | [], w, _, h => h w (Below.refl _ _) (fun _ _ _ h => h)
  | D :: Ds, w, hd, h => by
    refine ⟨by simp, Or.inl ⟨D, w.putObj D (.deferred none), rfl, run_takeDeferred (hd.2 D (by simp)).2, ?_⟩⟩
    have hn := List.nodup_cons.1 hd.1
    have hb : Below B w (w.putObj D (.deferred none)) := ⟨rfl, rfl, rfl, by simp, fun k hk => World.putObj_heap_other (fun e => by have := (hd.2 D (by simp)).1; omega)⟩
    refine leaves_marks Ds _ ⟨hn.2, fun E hE => ⟨(hd.2 E (by simp [hE])).1, (World.putObj_heap_other (r := D) (k := E) (fun e => hn.1 (by rw [← e]; exact hE))).trans (hd.2 E (by simp [hE])).2⟩⟩ (fun w' b' hc => h w' (hb.trans (b'.mono (Nat.le_refl _))) (fun k cur T hk => hc k cur T ((World.putObj_heap_other (fun e => ?_)).trans hk)))
    have h1 := (hd.2 D (by simp)).2
    rw [← e, hk] at h1
    cases h1
/-- The loop's own word on the number in a box. -/
def iAt (v : Value) (w : World) : Nat := match v with
  | .pointer (some p) => match w.cell? p with
    | some (.int _ i) => i.toNat
    | _ => 0
  | _ => 0
theorem iAt_of {w : World} {b : Nat} {i : Nat} (h : w.heap[b]? = some (.cells #[.int .i64 (i : Nat)] 3 (0, 0))) : iAt (.pointer (some ⟨b, 0, none⟩)) w = i := by
  have h1 : w.cell? ⟨b, 0, none⟩ = some (.int .i64 (i : Nat)) := (tk_store h).1 0
  simp [iAt, h1]
/-- The boxes of the law that stay. -/
structure Kc (W : World) (gx kx g5 p8 r9 t10 w11 i14 gb : Nat) (a : Int) (nv ev : Value) (k m : Int) (x : Rx) (z : Bool) : Prop where
  g : W.heap[gx]? = some (.cells (gvc a nv ev) 25 (0, 0))
  r : W.heap[kx]? = some (.cells #[.bool false] 4 (0, 0))
  p5 : W.heap[g5]? = some (.cells #[.pointer (some ⟨gb, 0, none⟩)] 34 (0, 0))
  p8 : W.heap[p8]? = some (.cells #[.int .i64 k] 3 (0, 0))
  p9 : W.heap[r9]? = some (.cells #[.int .u64 (x.key : Nat), .int .u64 x.val] 30 (0, 0))
  p10 : W.heap[t10]? = some (.cells #[.int .u64 x.a, .int .u64 x.b, .int .u64 x.c] 28 (0, 0))
  p11 : W.heap[w11]? = some (.cells #[.int .i64 m] 3 (0, 0))
  p14 : W.heap[i14]? = some (.cells #[.bool z] 4 (0, 0))
theorem Kc.below {W W' : World} {gx kx g5 p8 r9 t10 w11 i14 gb : Nat} {a : Int} {nv ev : Value} {k m : Int} {x : Rx} {z : Bool} (h : Kc W gx kx g5 p8 r9 t10 w11 i14 gb a nv ev k m x z) (hb : Below W.heap.size W W') : Kc W' gx kx g5 p8 r9 t10 w11 i14 gb a nv ev k m x z :=
  ⟨(hb.block _ (tk_lt h.g)).trans h.g, (hb.block _ (tk_lt h.r)).trans h.r, (hb.block _ (tk_lt h.p5)).trans h.p5, (hb.block _ (tk_lt h.p8)).trans h.p8, (hb.block _ (tk_lt h.p9)).trans h.p9, (hb.block _ (tk_lt h.p10)).trans h.p10, (hb.block _ (tk_lt h.p11)).trans h.p11, (hb.block _ (tk_lt h.p14)).trans h.p14⟩
/-- What stands in the loop: the box of own, the marks. -/
structure Lk (V : World) (Ds : List Nat) (W : World) (ob : Nat) (i : Int) : Prop where
  bl : Below V.heap.size V W
  obx : W.heap[ob]? = some (.cells #[.int .i64 i] 3 (0, 0))
  olo : V.heap.size ≤ ob
  dok : Dok V.heap.size Ds W
/-- In the range: the boxes of l and n. -/
structure Rk (V : World) (Ds : List Nat) (W : World) (ob : Nat) (i : Int) (lb nb B : Nat) (v : Value) (os : List Ot) (n : Int) : Prop where
  lk : Lk V Ds W ob i
  lbx : W.heap[lb]? = some (.cells #[v] 40 (0, 0))
  nbx : W.heap[nb]? = some (.cells #[.int .i64 n] 3 (0, 0))
  row : W.ownsRow B 51 7 v os.length (fl EOt os)
  nlo : V.heap.size ≤ nb
  no : nb ≠ ob
section
variable {V : World} {Ds : List Nat} {W W' : World} {ob lb nb B : Nat} {i n : Int} {v : Value} {os : List Ot}
theorem Lk.below (h : Lk V Ds W ob i) (hb : Below W.heap.size W W') : Lk V Ds W' ob i := ⟨h.bl.trans (hb.mono h.bl.size), (hb.block _ (tk_lt h.obx)).trans h.obx, h.olo, h.dok.below hb⟩
theorem Rk.below (h : Rk V Ds W ob i lb nb B v os n) (hb : Below W.heap.size W W') : Rk V Ds W' ob i lb nb B v os n := ⟨h.lk.below hb, (hb.block _ (tk_lt h.lbx)).trans h.lbx, (hb.block _ (tk_lt h.nbx)).trans h.nbx, owns_below h.row hb, h.nlo, h.no⟩
theorem Rk.own {C : Nat} {row : Option Nat} (hV : V.heap.size ≤ C) (hD : ∀ D ∈ Ds, D < C) (h : Rk V Ds W ob i lb nb B v os n) (hg : W.grownBy W' row) (hr : ∀ r, row = some r → C ≤ r ∧ ∃ o : Obj, W.heap[r]? = some o ∧ o.isCells = false) : Rk V Ds W' ob i lb nb B v os n := by
  have hc : ∀ {k : Nat} {cur : Array Value} {T : TypeId} {z : Nat × Nat}, W.heap[k]? = some (.cells cur T z) → W'.heap[k]? = W.heap[k]? := fun {k cur T z} hk => hg.block k (tk_lt hk) (fun e => by
    obtain ⟨_, o, h1, h2⟩ := hr k e.symm
    rw [hk] at h1
    cases h1
    cases h2)
  have hk : Kp (fun k => row = some k) W W' := Kp.grownBy hg (fun _ h => h)
  have hrow : ∀ k, v.ownBlock = some k → ¬ row = some k := fun k e e2 => by
    obtain ⟨c1, f, h1⟩ := Lib.ownsRow_kind h.row k e
    obtain ⟨_, o, h2, h3⟩ := hr k e2
    rw [h1] at h2
    cases h2
    cases h3
  exact ⟨⟨h.lk.bl.trans (hk.below h.lk.bl.size (fun k e => by have := (hr k e).1; omega)), (hc h.lk.obx).trans h.lk.obx, h.lk.olo, ⟨h.lk.dok.1, fun D hd => ⟨(h.lk.dok.2 D hd).1, (hg.block D (h.lk.dok.lt hd) (fun e => by have := (hr D e.symm).1; have := hD D hd; omega)).trans (h.lk.dok.2 D hd).2⟩⟩⟩, (hc h.lbx).trans h.lbx, (hc h.nbx).trans h.nbx, owns_kp hk h.row hrow, h.nlo, h.no⟩
/-- The box of n is written. -/
theorem Rk.setn (h : Rk V Ds W ob i lb nb B v os n) (y : Int) : Rk V Ds (W.setCell ⟨nb, 0, none⟩ (.int .i64 y)) ob i lb nb B v os y ∧ Kp (fun k => k = nb) W (W.setCell ⟨nb, 0, none⟩ (.int .i64 y)) := by
  obtain ⟨h1, h2⟩ := tk_set h.nbx 0 (.int .i64 y)
  have hl : lb ≠ nb := fun e => by
    have h3 := h.lbx
    rw [e, h.nbx] at h3
    simp only [Option.some.injEq, Obj.cells.injEq] at h3
    exact absurd h3.2.1 (by decide)
  exact ⟨⟨⟨h.lk.bl.trans (h2.below h.lk.bl.size (fun k e => by rw [e]; exact h.nlo)), (h2.block _ (tk_lt h.lk.obx) (fun e => h.no e.symm)).trans h.lk.obx, h.lk.olo, h.lk.dok.sb h.nbx h2⟩, (h2.block _ (tk_lt h.lbx) hl).trans h.lbx, h1, owns_kp h2 h.row (fun k e e2 => owns_ne_blk h.row h.nbx (by decide) k e e2), h.nlo, h.no⟩, h2⟩
end
theorem keeps_kpR {B b : Nat} {W W' : World} {cur : Array Value} {T : TypeId} (hb : W.heap[b]? = some (.cells cur T (0, 0))) (k : Kp (fun k => k = b) W W') : KeepsFrom B W W' :=
  ⟨k.size, fun j o _ hj ho => (k.block j (tk_lt hj) (fun e => by rw [e, hb] at hj; cases hj; cases ho)).trans hj⟩
theorem keeps_belowR {B : Nat} {W W' : World} (h : Below W.heap.size W W') : KeepsFrom B W W' := ⟨h.size, fun j _ _ hj _ => (h.block j (tk_lt hj)).trans hj⟩
end Go.Proofs.Ytifjjnnpoleinaa.Df
