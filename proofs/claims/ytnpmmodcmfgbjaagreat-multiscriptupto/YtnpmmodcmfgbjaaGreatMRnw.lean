import Derived.Test.YtnpmmodcmfgbjaaGreatMKeys
import Derived.Test.YtnpmmodcmfgbjaaGreatMCutL
import Derived.Test.YtnpmmodcmfgbjaaGreatMOpen
import Derived.Test.YtnpmmodcmfgbjaaGreatCRen
namespace Go.Proofs.YtnpmmodcmfgbjaaGreat
open Go.RowKit Go.Sort Go.Maps
open Tt (Tl byd byd_f byd_t)
attribute [local go_sem ↓] Go.wp_at_zero Go.wp_at_succ

abbrev fA : Nat := 27
abbrev fN : Nat := 23
abbrev fC : Nat := 24
/-- A Multi: its block, its tally, its chain. -/
structure Mu (w : World) (mb tb b cb n : Nat) (v : Value) (f : Tm → Int) (fr : List Tm) : Prop where
  blk : w.heap[mb]? = some (.cells #[.pointer (some ⟨tb, 0, none⟩), .pointer (some ⟨cb, 0, none⟩)] 65 (0, 0))
  tl : Tl w tb b fC n f
  ch : Cn.Ch w cb fA fN v fr
section
variable {w w' : World} {mb tb b cb n : Nat} {v : Value} {f : Tm → Int} {fr : List Tm}
theorem Mu.lt (h : Mu w mb tb b cb n v f fr) : mb < w.heap.size := (Array.getElem?_eq_some_iff.1 h.blk).1
theorem Mu.c0 (h : Mu w mb tb b cb n v f fr) : w.cell? ⟨mb, 0, none⟩ = some (.pointer (some ⟨tb, 0, none⟩)) := by simp [World.cell?, h.blk]
theorem Mu.c1 (h : Mu w mb tb b cb n v f fr) : w.cell? ⟨mb, 1, none⟩ = some (.pointer (some ⟨cb, 0, none⟩)) := by simp [World.cell?, h.blk]
theorem Mu.row (h : Mu w mb tb b cb n v f fr) {g : Nat} (hg : v.ownBlock = some g) : ∃ cur, w.heap[g]? = some (.cells cur 37 (0, 0)) := by
  obtain ⟨_, ⟨h0, _⟩ | ⟨g', cap, cur, hv, _, hh, _⟩⟩ := h.ch.own
  · rw [h0] at hg; cases hg
  · rw [hv] at hg
    simp only [Value.ownBlock, Option.some.injEq] at hg
    subst hg
    exact ⟨cur, hh⟩
/-- The blocks of a Multi are unlike each other. -/
theorem Mu.apart (h : Mu w mb tb b cb n v f fr) : mb ≠ tb ∧ mb ≠ b ∧ mb ≠ cb ∧ tb ≠ cb ∧ b ≠ cb ∧ v.ownBlock ≠ some mb ∧ v.ownBlock ≠ some tb ∧ v.ownBlock ≠ some b := by
  have h1 := h.blk
  have h2 := h.tl.blk
  have h3 := h.ch.blk
  obtain ⟨D, ⟨es, clock, h4, _⟩, _⟩ := h.tl.ta
  refine ⟨fun e => ?_, fun e => ?_, fun e => ?_, fun e => ?_, fun e => ?_, fun e => ?_, fun e => ?_, fun e => ?_⟩
  · rw [e, h2] at h1; simp at h1
  · rw [e, h4] at h1; simp at h1
  · rw [e, h3] at h1; simp at h1
  · rw [e, h3] at h2; simp at h2
  · rw [e, h3] at h4; simp at h4
  · obtain ⟨cur, hc⟩ := h.row e; rw [hc] at h1; simp at h1
  · obtain ⟨cur, hc⟩ := h.row e; rw [hc] at h2; simp at h2
  · obtain ⟨cur, hc⟩ := h.row e; rw [hc] at h4; simp at h4
theorem Mu.kp {T : Nat → Prop} (h : Mu w mb tb b cb n v f fr) (hk : Kp T w w') (h1 : ¬ T mb) (h2 : ¬ T tb) (h3 : ¬ T b) (h4 : ¬ T cb) (h5 : ∀ k, v.ownBlock = some k → ¬ T k) : Mu w' mb tb b cb n v f fr :=
  ⟨(hk.block mb h.lt h1).trans h.blk, h.tl.kp hk h2 h3, h.ch.kp hk h4 h5⟩
theorem Mu.below (h : Mu w mb tb b cb n v f fr) (hb : Below w.heap.size w w') : Mu w' mb tb b cb n v f fr := h.kp (T := fun _ => False) (Kp.of_below hb) (fun h => h) (fun h => h) (fun h => h) (fun h => h) (fun _ _ h => h)
theorem Mu.turn {v' : Value} {fr' : List Tm} (h : Mu w mb tb b cb n v f fr) (ht : Cn.Turn cb v v' w w') (hc : Cn.Ch w' cb fA fN v' fr') : Mu w' mb tb b cb n v' f fr' := by
  obtain ⟨a1, a2, a3, a4, a5, a6, a7, a8⟩ := h.apart
  exact ⟨(ht.1.block mb h.lt (fun e => e.elim a3 a6)).trans h.blk, h.tl.kp ht.1 (fun e => e.elim a4 a7) (fun e => e.elim a5 a8), hc⟩
end

theorem many_any {tb b n : Nat} {f : Tm → Int} (w : World) (h : Tl w tb b fC n f) :
    Calls Tryz.prog 34 #[cv tb] w fun e w' => ∃ ks : List Tm, Sup f ks ∧ e = .returned (.int .i64 ks.length) ∧ Gr w w' := by
  have hc := fun o => Tt.len_any (w.alloc o) (h.gr ((Gr.refl _).alloc _))
  clear h
  go_enter Tryz.func34, Tryz.ntmps34
  go_wp2_with fail
  refine (hc _).mono ?_
  rintro e w1 ⟨ks, hk, rfl, rfl⟩
  go_wp2
  go_ret
  exact ⟨ks, hk, rfl, (Gr.refl _).alloc _⟩

/-- A Multi while its front is renewed: the box of its pointer, what was noted as gone. -/
structure Rn (w wr : World) (B0 Bg mb tb b cb n : Nat) (v vr vg : Value) (f : Tm → Int) (F G : List Tm) : Prop where
  mu : Mu wr mb tb b cb n vr f F
  tn : Cn.Turn cb v vr w wr
  lo : w.heap.size ≤ B0 ∧ w.heap.size ≤ Bg ∧ B0 ≠ Bg ∧ cb < w.heap.size ∧ mb < w.heap.size ∧ tb < w.heap.size ∧ b < w.heap.size
  bx : wr.heap[B0]? = some (.cells #[.pointer (some ⟨mb, 0, none⟩)] 24 (0, 0))
  gb : wr.heap[Bg]? = some (.cells #[vg] 42 (0, 0))
  ow : wr.ownsRow w.heap.size 37 3 vg G.length (flT G)
  a1 : vg.ownBlock ≠ some B0 ∧ vg.ownBlock ≠ some Bg
  a2 : vr.ownBlock ≠ some B0 ∧ vr.ownBlock ≠ some Bg
  a3 : ∀ k, vg.ownBlock = some k → vr.ownBlock ≠ some k
section
variable {w wr w' : World} {B0 Bg mb tb b cb n : Nat} {v vr vg v' : Value} {f : Tm → Int} {F G F' : List Tm}
theorem Rn.turn (h : Rn w wr B0 Bg mb tb b cb n v vr vg f F G) (ht : Cn.Turn cb vr v' wr w') (hc : Cn.Ch w' cb fA fN v' F') : Rn w w' B0 Bg mb tb b cb n v v' vg f F' G := by
  obtain ⟨l1, l2, l3, l4, l5, l6, l7⟩ := h.lo
  have z0 : B0 < wr.heap.size := (Array.getElem?_eq_some_iff.1 h.bx).1
  have z1 : Bg < wr.heap.size := (Array.getElem?_eq_some_iff.1 h.gb).1
  refine ⟨h.mu.turn ht hc, h.tn.trans ht, h.lo, ?_, ?_, ?_, h.a1, ⟨fun e => ?_, fun e => ?_⟩, fun k hk e => ?_⟩
  · exact (ht.1.block B0 z0 (fun e => e.elim (fun e => by omega) h.a2.1)).trans h.bx
  · exact (ht.1.block Bg z1 (fun e => e.elim (fun e => by omega) h.a2.2)).trans h.gb
  · refine owns_kp ht.1 h.ow (fun k hk e => ?_)
    have := (h.ow.lt k hk).1
    exact e.elim (fun e => by omega) (h.a3 k hk)
  · exact (ht.2 _ e).elim h.a2.1 (fun e => by omega)
  · exact (ht.2 _ e).elim h.a2.2 (fun e => by omega)
  · have := (h.ow.lt k hk).2
    exact (ht.2 _ e).elim (h.a3 k hk) (fun e => by omega)
theorem Rn.gr (h : Rn w wr B0 Bg mb tb b cb n v vr vg f F G) (hg : Gr wr w') : Rn w w' B0 Bg mb tb b cb n v vr vg f F G := h.turn (Cn.Turn.of_below hg.below) (h.mu.ch.below hg.below)
theorem Rn.below (h : Rn w wr B0 Bg mb tb b cb n v vr vg f F G) (hg : Below wr.heap.size wr w') : Rn w w' B0 Bg mb tb b cb n v vr vg f F G := h.turn (Cn.Turn.of_below hg) (h.mu.ch.below hg)
/-- One more is noted. -/
theorem Rn.note {g cap m : Nat} {x : Tm} (h : Rn w wr B0 Bg mb tb b cb n v vr vg f F G) (hg : wr.grownBy w' vg.ownBlock) (ho : w'.ownsRow w.heap.size 37 3 (.slice (some ⟨g, 0, none⟩) m cap) (G ++ [x]).length (flT (G ++ [x]))) (hl : vg.ownBlock = some g ∨ wr.heap.size ≤ g) :
    Rn w (w'.setCell ⟨Bg, 0, none⟩ (.slice (some ⟨g, 0, none⟩) m cap)) B0 Bg mb tb b cb n v vr (.slice (some ⟨g, 0, none⟩) m cap) f F (G ++ [x]) := by
  obtain ⟨l1, l2, l3, l4, l5, l6, l7⟩ := h.lo
  have z0 : B0 < wr.heap.size := (Array.getElem?_eq_some_iff.1 h.bx).1
  have z1 : Bg < wr.heap.size := (Array.getElem?_eq_some_iff.1 h.gb).1
  have hk1 : Kp (fun k => vg.ownBlock = some k) wr w' := Kp.grownBy hg (fun k hk => hk)
  have gb1 := (hk1.block Bg z1 h.a1.2).trans h.gb
  have e := setCell_eq_setRow w' Bg 0 _ _ _ (.slice (some ⟨g, 0, none⟩) m cap) gb1
  have hk2 : Kp (fun k => k = Bg) w' (w'.setCell ⟨Bg, 0, none⟩ (.slice (some ⟨g, 0, none⟩) m cap)) := by
    rw [e]
    exact ⟨rfl, rfl, rfl, by simp [World.setRow], fun k _ hne => setRow_other w' Bg k _ (by omega)⟩
  have hgB : g ≠ Bg := fun e => by
    subst e
    exact hl.elim h.a1.2 (fun e => by omega)
  have hg0 : g ≠ B0 := fun e => by
    subst e
    exact hl.elim h.a1.1 (fun e => by omega)
  have hgr : vr.ownBlock ≠ some g := fun e => hl.elim (fun e' => h.a3 g e' e) (fun e' => by have := h.mu.ch.row g e; omega)
  have hlow : ∀ k, vg.ownBlock = some k → w.heap.size ≤ k := fun k hk => (h.ow.lt k hk).1
  have hK : Kp (fun k => vg.ownBlock = some k ∨ k = Bg) wr (w'.setCell ⟨Bg, 0, none⟩ (.slice (some ⟨g, 0, none⟩) m cap)) := (hk1.mono (fun _ h => Or.inl h)).trans hk2 (fun _ _ h => Or.inr h)
  refine ⟨h.mu.kp hK ?_ ?_ ?_ ?_ ?_, ⟨h.tn.1.trans hK ?_, h.tn.2⟩, h.lo, ?_, ?_, owns_kp hk2 ho ?_, ⟨?_, ?_⟩, h.a2, ?_⟩
  · exact fun e => e.elim (fun e => by have := hlow _ e; omega) (fun e => by omega)
  · exact fun e => e.elim (fun e => by have := hlow _ e; omega) (fun e => by omega)
  · exact fun e => e.elim (fun e => by have := hlow _ e; omega) (fun e => by omega)
  · exact fun e => e.elim (fun e => by have := hlow _ e; omega) (fun e => by omega)
  · exact fun k hk e => e.elim (fun e => h.a3 k e hk) (fun e => h.a2.2 (e ▸ hk))
  · exact fun j hj e => e.elim (fun e => by have := hlow _ e; omega) (fun e => by omega)
  · exact (hK.block B0 z0 (fun e => e.elim h.a1.1 l3)).trans h.bx
  · rw [e, setRow_heap w' Bg _ _ _ _ gb1]
    simp
  · intro k hk e
    simp only [Value.ownBlock, Option.some.injEq] at hk
    omega
  · simpa [Value.ownBlock] using hg0
  · simpa [Value.ownBlock] using hgB
  · intro k hk
    simp only [Value.ownBlock, Option.some.injEq] at hk
    subst hk
    exact hgr
theorem Rn.g0 (h : Rn w wr B0 Bg mb tb b cb n v vr vg f F G) : wr.cell? ⟨Bg, 0, none⟩ = some vg := by simp [World.cell?, h.gb]
theorem Rn.gf (h : Rn w wr B0 Bg mb tb b cb n v vr vg f F G) : wr.frozen? ⟨Bg, 0, none⟩ = false := by simp [World.frozen?, h.gb]
theorem Rn.b0 (h : Rn w wr B0 Bg mb tb b cb n v vr vg f F G) : wr.cell? ⟨B0, 0, none⟩ = some (.pointer (some ⟨mb, 0, none⟩)) := by simp [World.cell?, h.bx]
theorem Rn.gl (h : Rn w wr B0 Bg mb tb b cb n v vr vg f F G) : Bg < wr.heap.size := (Array.getElem?_eq_some_iff.1 h.gb).1
theorem Rn.bl (h : Rn w wr B0 Bg mb tb b cb n v vr vg f F G) : B0 < wr.heap.size := (Array.getElem?_eq_some_iff.1 h.bx).1
end
/-- Append of one more time. -/
theorem wpApp1T {w : World} {ops : Array Oper} {rest : List Oper} {o : Oper} {a : Act} {Q : Exit → Act → World → Prop} (hgd : o.guard = none) (s x : Operand)
    (ho : o.op = .call { callee := .builtin .append, args := #[s, x], argTypes := #[42, 42] })
    (base : Nat) (v : Value) (n : Nat) (xs : List Value) (hs : a.eval s = v) (hown : w.ownsRow base 37 3 v n xs)
    (t : Tm) (hx : a.eval x = .slice (some ⟨w.heap.size, 0, none⟩) 1 1) (hbig : (n + 1) * 24 ≤ 140737488355328) (hbase : base ≤ w.heap.size)
    (h : ∀ g cap w', w'.ownsRow base 37 3 (.slice (some ⟨g, 0, none⟩) (n + 1) cap) (n + 1) (xs ++ ET.enc t) → w.grownBy w' v.ownBlock → (v.ownBlock = some g ∨ w.heap.size ≤ g) → wpList Tryz.prog ops Q rest (a.put o.dst (.slice (some ⟨g, 0, none⟩) (n + 1) cap)) w') :
    wpList Tryz.prog ops Q (o :: rest) a (w.alloc (.cells #[.int .u64 t.1.1, .int .u64 t.1.2.1, .int .u64 t.1.2.2] 37)) :=
  wpApp1 ET Tryz.underlying42 infoTm rfl (by decide) hgd s x ho base v n xs hs hown t hx hbig (by unfold maxLen; omega) hbase _ rfl _ h
end Go.Proofs.YtnpmmodcmfgbjaaGreat
