import Derived.Test.YthbdbmbdfhbeiaaGreatYKeepU
import Derived.Deep.RegionLaw
import Derived.Deep.LoopGhost
namespace Go.Proofs.YthbdbmbdfhbeiaaGreat
open Go.RowKit Go.Sort Go.Maps
attribute [local go_sem ↓] Go.wp_at_zero Go.wp_at_succ

/-- A key of the document's. -/
abbrev Rk := BS × Int
abbrev rkv (x : Rk) : Value := .agg #[.string x.1.1, .int .i64 x.2]
/-- A slice value that reads as these keys. -/
def Lk (w : World) (v : Value) (l : List Rk) : Prop :=
  (l = [] ∧ v = .slice none 0 0) ∨ ∃ b off c, v = .slice (some ⟨b, off, none⟩) l.length c ∧ l.length ≤ c ∧ b < w.heap.size ∧ ∀ (j : Nat) (x : Rk), l[j]? = some x → w.cell? ⟨b, off + j * 2, none⟩ = some (.string x.1.1) ∧ w.cell? ⟨b, off + j * 2 + 1, none⟩ = some (.int .i64 x.2)
theorem Lk.kept {w w' : World} {v : Value} {l : List Rk} (h : Lk w v l) (hs : w.heap.size ≤ w'.heap.size) (hb : ∀ g, v.ownBlock = some g → w'.heap[g]? = w.heap[g]?) : Lk w' v l := by
  rcases h with h | ⟨b, off, c, hv, hc, hbs, ht⟩
  · exact Or.inl h
  · refine Or.inr ⟨b, off, c, hv, hc, Nat.lt_of_lt_of_le hbs hs, fun j u hj => ?_⟩
    have := hb b (by rw [hv]; rfl)
    rw [World.cell?_of_block (a := ⟨b, off + j * 2, none⟩) this, World.cell?_of_block (a := ⟨b, off + j * 2 + 1, none⟩) this]
    exact ht j u hj
theorem Lk.blk {w : World} {v : Value} {l : List Rk} (h : Lk w v l) : ∀ g, v.ownBlock = some g → g < w.heap.size := by
  intro g hg
  rcases h with ⟨_, rfl⟩ | ⟨b, off, c, rfl, _, hbs, _⟩
  · simp [Value.ownBlock] at hg
  · simp [Value.ownBlock] at hg; omega
theorem Lk.kp {S : Nat → Prop} {w w' : World} {v : Value} {l : List Rk} (h : Lk w v l) (hk : Kp S w w') (hS : ∀ g, v.ownBlock = some g → ¬ S g) : Lk w' v l :=
  h.kept hk.size fun g hg => hk.block g (h.blk g hg) (hS g hg)
theorem Lk.below {w w' : World} {v : Value} {l : List Rk} (h : Lk w v l) (hb : Below w.heap.size w w') : Lk w' v l := h.kept hb.size fun g hg => hb.block g (h.blk g hg)
theorem Lk.form {w : World} {v : Value} {l : List Rk} (h : Lk w v l) : ∃ p c, v = .slice p l.length c ∧ l.length ≤ c := by
  rcases h with ⟨rfl, rfl⟩ | ⟨b, off, c, hv, hc, _, _⟩
  · exact ⟨_, _, rfl, by simp⟩
  · exact ⟨_, _, hv, hc⟩
theorem Lk.at2 {w : World} {v : Value} {l : List Rk} (h : Lk w v l) {j : Nat} {x : Rk} (hj : l[j]? = some x) :
    ∃ b off c, v = .slice (some ⟨b, off, none⟩) l.length c ∧ b < w.heap.size ∧ w.cell? ⟨b, off + j * 2, none⟩ = some (.string x.1.1) ∧ w.cell? ⟨b, off + j * 2 + 1, none⟩ = some (.int .i64 x.2) := by
  rcases h with ⟨rfl, _⟩ | ⟨b, off, c, hv, _, hb, ht⟩
  · simp at hj
  · exact ⟨b, off, c, hv, hb, ht j x hj⟩
theorem owns_lk {w : World} {base : Nat} {e : TypeId} {v : Value} {l : List Rk} (h : w.ownsRow base e 2 v l.length (flatU l)) : Lk w v l := by
  rcases h.2 with ⟨hv, h0⟩ | ⟨g, cap, cur, hv, hg, hh, hc, _, _, htake⟩
  · exact Or.inl ⟨List.eq_nil_of_length_eq_zero h0, hv⟩
  · refine Or.inr ⟨g, 0, cap, hv, hc, (Array.getElem?_eq_some_iff.1 hh).1, fun j u hj => ?_⟩
    have h1 := h.cells (g := g) (by rw [hv]; rfl) _ _ (flatU_get l j u hj).1
    have h2 := h.cells (g := g) (by rw [hv]; rfl) _ _ (flatU_get l j u hj).2
    rw [addP] at h1 h2
    exact ⟨h1, h2⟩
/-- A slice value that reads as these numbers. -/
def Ln (w : World) (v : Value) (l : List Int) : Prop :=
  (l = [] ∧ v = .slice none 0 0) ∨ ∃ b off c, v = .slice (some ⟨b, off, none⟩) l.length c ∧ b < w.heap.size ∧ ∀ (j : Nat) (x : Int), l[j]? = some x → w.cell? ⟨b, off + j, none⟩ = some (.int .i64 x)
theorem Ln.kept {w w' : World} {v : Value} {l : List Int} (h : Ln w v l) (hs : w.heap.size ≤ w'.heap.size) (hb : ∀ g, v.ownBlock = some g → w'.heap[g]? = w.heap[g]?) : Ln w' v l := by
  rcases h with h | ⟨b, off, c, hv, hbs, ht⟩
  · exact Or.inl h
  · refine Or.inr ⟨b, off, c, hv, Nat.lt_of_lt_of_le hbs hs, fun j u hj => ?_⟩
    have := hb b (by rw [hv]; rfl)
    rw [World.cell?_of_block (a := ⟨b, off + j, none⟩) this]
    exact ht j u hj
theorem Ln.blk {w : World} {v : Value} {l : List Int} (h : Ln w v l) : ∀ g, v.ownBlock = some g → g < w.heap.size := by
  intro g hg
  rcases h with ⟨_, rfl⟩ | ⟨b, off, c, rfl, hbs, _⟩
  · simp [Value.ownBlock] at hg
  · simp [Value.ownBlock] at hg; omega
theorem Ln.below {w w' : World} {v : Value} {l : List Int} (h : Ln w v l) (hb : Below w.heap.size w w') : Ln w' v l := h.kept hb.size fun g hg => hb.block g (h.blk g hg)
theorem Ln.form {w : World} {v : Value} {l : List Int} (h : Ln w v l) : ∃ p c, v = .slice p l.length c := by
  rcases h with ⟨rfl, rfl⟩ | ⟨b, off, c, hv, _, _⟩
  · exact ⟨_, _, rfl⟩
  · exact ⟨_, _, hv⟩
theorem Ln.at1 {w : World} {v : Value} {l : List Int} (h : Ln w v l) {j : Nat} {x : Int} (hj : l[j]? = some x) :
    ∃ b off c, v = .slice (some ⟨b, off, none⟩) l.length c ∧ b < w.heap.size ∧ w.cell? ⟨b, off + j, none⟩ = some (.int .i64 x) := by
  rcases h with ⟨rfl, _⟩ | ⟨b, off, c, hv, hb, ht⟩
  · simp at hj
  · exact ⟨b, off, c, hv, hb, ht j x hj⟩
theorem owns_ln {w : World} {base : Nat} {e : TypeId} {v : Value} {l : List Int} (h : w.ownsRow base e 1 v l.length (l.map (Value.int .i64))) : Ln w v l := by
  rcases h.2 with ⟨hv, h0⟩ | ⟨g, cap, cur, hv, hg, hh, _, _, _, htake⟩
  · exact Or.inl ⟨List.eq_nil_of_length_eq_zero h0, hv⟩
  · refine Or.inr ⟨g, 0, cap, hv, (Array.getElem?_eq_some_iff.1 hh).1, fun j u hj => ?_⟩
    have := h.cells (g := g) (by rw [hv]; rfl) j (.int .i64 u) (by simp [hj])
    rw [addP] at this
    exact this

/-- A tally of the document's: its block, its lists. -/
structure Rf where
  b : Nat
  n : Value
  c : Value
abbrev rp (r : Rf) : Value := .pointer (some ⟨r.b, 0, none⟩)
def Rf.own (r : Rf) (k : Nat) : Prop := k = r.b ∨ r.n.ownBlock = some k ∨ r.c.ownBlock = some k
structure RT (w : World) (r : Rf) (kind : Int) (N : List Rk) (C : List Int) : Prop where
  blk : w.heap[r.b]? = some (.cells #[.int .i64 kind, r.n, r.c] 33 (0, 0))
  nm : w.ownsRow 0 49 2 r.n N.length (flatU N)
  ct : w.ownsRow 0 2 1 r.c C.length (C.map (Value.int .i64))
  len : C.length = N.length
  o1 : r.n.ownBlock ≠ some r.b
  o2 : r.c.ownBlock ≠ some r.b
  o3 : ∀ g, r.n.ownBlock = some g → r.c.ownBlock ≠ some g
  nd : N.Nodup
  bd : ∀ c ∈ C, -2147483647 ≤ c ∧ c ≤ 2147483647
  few : N.length ≤ 100000
section
variable {w w' : World} {r : Rf} {kind : Int} {N : List Rk} {C : List Int}
theorem RT.lt (h : RT w r kind N C) : r.b < w.heap.size := (Array.getElem?_eq_some_iff.1 h.blk).1
theorem RT.c0 (h : RT w r kind N C) : w.cell? ⟨r.b, 0, none⟩ = some (.int .i64 kind) := by simp [World.cell?, h.blk]
theorem RT.c1 (h : RT w r kind N C) : w.cell? ⟨r.b, 1, none⟩ = some r.n := by simp [World.cell?, h.blk]
theorem RT.c2 (h : RT w r kind N C) : w.cell? ⟨r.b, 2, none⟩ = some r.c := by simp [World.cell?, h.blk]
theorem RT.f1 (h : RT w r kind N C) : w.frozen? ⟨r.b, 1, none⟩ = false := by simp [World.frozen?, h.blk]
theorem RT.f2 (h : RT w r kind N C) : w.frozen? ⟨r.b, 2, none⟩ = false := by simp [World.frozen?, h.blk]
theorem RT.ln (h : RT w r kind N C) : Lk w r.n N := owns_lk h.nm
theorem RT.lc (h : RT w r kind N C) : Ln w r.c C := owns_ln h.ct
theorem RT.kp {S : Nat → Prop} (h : RT w r kind N C) (hk : Kp S w w') (hS : ∀ k, r.own k → ¬ S k) : RT w' r kind N C :=
  ⟨(hk.block r.b h.lt (hS _ (Or.inl rfl))).trans h.blk, owns_kp hk h.nm (fun k hk => hS k (Or.inr (Or.inl hk))), owns_kp hk h.ct (fun k hk => hS k (Or.inr (Or.inr hk))), h.len, h.o1, h.o2, h.o3, h.nd, h.bd, h.few⟩
theorem RT.bel (h : RT w r kind N C) (hb : Below w.heap.size w w') : RT w' r kind N C := h.kp (S := fun _ => False) (Kp.of_below hb) (fun _ _ h => h)
theorem RT.gr (h : RT w r kind N C) (hb : Gr w w') : RT w' r kind N C := h.bel hb.below
theorem RT.own_lt (h : RT w r kind N C) : ∀ k, r.own k → k < w.heap.size := fun k hk => by
  rcases hk with rfl | hk | hk
  · exact h.lt
  · exact (h.nm.lt k hk).2
  · exact (h.ct.lt k hk).2
end

/-- Where a key stands; -1: nowhere. -/
def fi (N : List Rk) (x : Rk) : Nat := N.findIdx fun y => decide (y = x)
def idk (N : List Rk) (x : Rk) : Int := if fi N x < N.length then (fi N x : Int) else -1
theorem idk_hit {N : List Rk} {x : Rk} {k : Nat} (hx : N[k]? = some x) (hn : ∀ j y, j < k → N[j]? = some y → y ≠ x) : idk N x = (k : Int) := by
  obtain ⟨hk, he⟩ := List.getElem?_eq_some_iff.1 hx
  have : fi N x = k := by
    unfold fi
    rw [List.findIdx_eq hk]
    refine ⟨by simp [he], fun j hj => ?_⟩
    have := hn j _ hj (List.getElem?_eq_getElem (Nat.lt_trans hj hk))
    simpa using this
  unfold idk
  rw [this, if_pos hk]
theorem idk_miss {N : List Rk} {x : Rk} (hn : ∀ j y, j < N.length → N[j]? = some y → y ≠ x) : idk N x = -1 := by
  have : fi N x = N.length := by
    unfold fi
    rw [List.findIdx_eq_length]
    intro y hy
    obtain ⟨j, hj⟩ := List.mem_iff_getElem?.1 hy
    have := hn j y (List.getElem?_eq_some_iff.1 hj).1 hj
    simpa using this
  unfold idk
  rw [this, if_neg (Nat.lt_irrefl _)]
theorem keq_iff (x y : Rk) : keq x.1 x.2 y.1 y.2 = decide (x = y) := by
  unfold keq
  by_cases h1 : x.1 = y.1 <;> by_cases h2 : x.2 = y.2 <;> simp [h1, h2, Prod.ext_iff]

set_option maxHeartbeats 4000000 in
set_option maxRecDepth 100000 in
theorem at_any {r : Rf} {kind : Int} {N : List Rk} {C : List Int} (x : Rk) (w : World) (h : RT w r kind N C) :
    Calls Tryz.prog 32 #[rp r, rkv x] w fun e w' => e = .returned (.int .i64 (idk N x)) ∧ Gr w w' := by
  have hm : Tryz.prog.follows .mixedOrders = true := by kernel_rfl
  have hfew := h.few
  obtain ⟨pn, cn, en, _⟩ := h.ln.form
  have k1 := h.c1
  rw [en] at k1
  have hlt := h.lt
  have HN : Hid (Lk w (.slice pn N.length cn) N) := by rw [← en]; exact h.ln
  clear h en
  go_enter Tryz.func32, Tryz.ntmps32
  go_wp2_with fail
  go_loopw [4, 5] (fun _ s5 wr => ∃ k : Nat, k ≤ N.length ∧ s5 = .int .i64 k ∧ Gr (w.alloc (.cells #[.string x.1.1, .int .i64 x.2] 49)) wr ∧ Hid (∀ j y, j < k → N[j]? = some y → y ≠ x)) (fun _ s5 _ => N.length - (RowKit.intOf s5).toNat)
  case atStart => exact ⟨0, Nat.zero_le _, rfl, Gr.refl _, fun j y hj => by omega⟩
  case round =>
    obtain ⟨k, hk, rfl, hgr, HM⟩ := hrel
    have hg0 : Gr w wr := ((Gr.refl w).alloc _).trans hgr
    have k1r := (hg0.cell hlt).trans k1
    have hltr := Nat.lt_of_lt_of_le hlt hg0.size
    have x1 : wr.cell? ⟨w.heap.size, 0, none⟩ = some (.string x.1.1) := (hgr.cell (by simp)).trans (by simp)
    have x2 : wr.cell? ⟨w.heap.size, 1, none⟩ = some (.int .i64 x.2) := (hgr.cell (by simp)).trans (by simp)
    have hws : w.heap.size < wr.heap.size := Nat.lt_of_lt_of_le (by simp) hgr.size
    by_cases hlt2 : k < N.length
    · have hltz : (k : Int) < (N.length : Int) := by omega
      obtain ⟨y, hy⟩ : ∃ y, N[k]? = some y := ⟨N[k], by simp⟩
      obtain ⟨b1, o1, c1, e1, z1, y1, y2⟩ := (HN.out.below hg0.below).at2 hy
      simp only [Value.slice.injEq] at e1
      obtain ⟨rfl, -, rfl⟩ := e1
      have HY : Hid (N[k]? = some y) := hy
      have heq := fun W => run_eqK y.1 x.1 y.2 x.2 W
      rw [keq_iff] at heq
      clear hy
      by_cases hxy : y = x
      · rw [decide_eq_true hxy] at heq
        have HE : Hid (y = x) := hxy
        clear hxy
        go_wp2_with fail
        go_quiet (fail)
        go_wp2
        go_ret
        refine ⟨?_, hg0.drewN _⟩
        rw [idk_hit (by rw [HY.out, HE.out]) HM.out]
        rfl
      · rw [decide_eq_false hxy] at heq
        have HE : Hid (y ≠ x) := hxy
        clear hxy
        go_wp2_with fail
        go_quiet (fail)
        go_wp2
        refine ⟨⟨k + 1, by omega, by go_num, hgr.drewN _, fun j z hj hz => ?_⟩, by simp [RowKit.intOf]; omega⟩
        by_cases hjk : j = k
        · subst hjk
          rw [HY.out] at hz
          cases hz
          exact HE.out
        · exact HM.out j z (by omega) hz
    · have hltz : ¬ (k : Int) < (N.length : Int) := by omega
      go_wp2
      go_ret
      refine ⟨?_, hg0⟩
      rw [idk_miss (fun j y hj => HM.out j y (by omega))]
      rfl
end Go.Proofs.YthbdbmbdfhbeiaaGreat
