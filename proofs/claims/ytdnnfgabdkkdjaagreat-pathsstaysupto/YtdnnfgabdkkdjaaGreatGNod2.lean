import Derived.Test.YtdnnfgabdkkdjaaGreatGNod
namespace Go.Proofs.YtdnnfgabdkkdjaaGreat.Df
open Go.RowKit Go.Sort
attribute [local go_sem ↓] Go.wp_at_zero Go.wp_at_succ
def cok (i o a : Int) (l : List Con) : Bool := decide (l.length ≤ 16) && (List.range l.length).all fun j => match l[j]? with | some c => decide ((0 ≤ c.inn ∧ c.inn < i) ∧ (0 ≤ c.out ∧ c.out < o) ∧ tfits c.via.1 c.via.2.1 c.via.2.2 a = 0 ∧ isin (l.take j) c = false) | none => true
theorem cok_iff {i o a : Int} {l : List Con} : cok i o a l = true ↔ l.length ≤ 16 ∧ ∀ j c, l[j]? = some c → cgood i o a l j c := by
 unfold cok
 rw [Bool.and_eq_true, decide_eq_true_eq, List.all_eq_true]
 refine and_congr_right fun _ => ⟨fun h j c hj => ?_, fun h j hj => ?_⟩
 ·have := h j (List.mem_range.2 (List.getElem?_eq_some_iff.1 hj).1)
  rw [hj] at this
  simp only [decide_eq_true_eq] at this
  exact this
 ·obtain ⟨c, hc⟩ : ∃ c, l[j]? = some c := ⟨l[j]'(List.mem_range.1 hj), by simp⟩
  rw [hc]
  simp only [decide_eq_true_eq]
  exact h j c hc
theorem cf_eq {i o a : Int} {l : List Con} {z : Int} (h : Cf i o a l z) : z = if cok i o a l = true then 0 else 23 := by
 rcases h with ⟨rfl, h⟩ | ⟨rfl, h⟩
 ·rw [if_pos (cok_iff.2 h)]
 ·rw [if_neg]
  intro hc
  obtain ⟨h1, h2⟩ := cok_iff.1 hc
  rcases h with h | ⟨j, c, hj, hn⟩
  ·omega
  ·exact hn (h2 j c hj)
def pIn (k i : Int) : Bool := if k = 1 then decide (i = 0) else if k = 4 then decide (1 ≤ i ∧ i ≤ 4) else if k = 8 then decide (0 ≤ i ∧ i ≤ 4) else decide (i = 1)
def pOut (k o : Int) : Bool := if k = 7 then decide (o = 0) else if k = 8 then decide (0 ≤ o ∧ o ≤ 4) else decide (o = 1)
def nhas (n : Nod) : Bool := has (if n.kind = 2 ∨ n.kind = 3 then 0 else n.code.length) (if n.kind = 5 then (0, 0, 0) else n.via) (if n.kind = 5 then 0 else n.bound) (if n.kind = 8 then 0 else n.conns.length) (if n.kind = 8 then false else n.start)
def nrest (a : Int) (n : Nod) : Int := if n.kind = 2 ∨ n.kind = 3 then (if 16 < n.code.length then 24 else 0) else if n.kind = 5 then (if 64 < n.bound ∨ tfits n.via.1 n.via.2.1 n.via.2.2 a ≠ 0 then 22 else 0) else if n.kind = 8 then (if cok n.ins n.outs a n.conns = true then 0 else 23) else 0
def nflaw (a : Int) (n : Nod) : Int := if n.kind < 1 ∨ 8 < n.kind then 20 else if ¬ (pIn n.kind n.ins = true ∧ pOut n.kind n.outs = true) then 21 else if nhas n = true then 22 else nrest a n
abbrev fI (u : Bool) : Nat := if u then 150 else 149
abbrev pU (u : Bool) (least i : Int) : Bool := if u then decide (least ≤ i ∧ i ≤ 4) else decide (i = least)
theorem fI_enter (u : Bool) : ∀ args w, (callFunc (fI u) args).run Tryz.prog w = .ok (.enter (fI u) args) w := by
 cases u
 ·exact enters_of Tryz.func149 (by kernel_rfl) rfl
 ·exact enters_of Tryz.func150 (by kernel_rfl) rfl
theorem fI_call (u : Bool) (least i : Int) (b : Nat) (w : World) (h : w.heap[b]? = some (.cells #[.int .i64 least] 3 (0, 0))) : Calls Tryz.prog (fI u) #[.int .i64 i, .pointer (some ⟨b, 0, none⟩)] w fun r w' => r = .returned (.bool (pU u least i)) ∧ w' = w := by
 cases u
 ·exact just1_any least i b w h
 ·exact upfrom1_any least i b w h
theorem ks_of {w w' : World} {uI uO : Bool} {i0 o0 i o : Int} {fw ff fc : Nat} {r : Ending} (h : Kd w uI i0 uO o0 fw ff fc r w') : Ks (fI uI) (fI uO) fw ff fc i o (pU uI i0 i) (pU uO o0 o) w r w' := by
 obtain ⟨b1, b2, hr, hb, h1, h2⟩ := h
 refine ⟨b1, b2, ?_, hb, fun W hW => fI_call uI i0 i b1 W ((hW.block _ (tk_lt h1)).trans h1), fun W hW => fI_call uO o0 o b2 W ((hW.block _ (tk_lt h2)).trans h2)⟩
 rw [hr]
 cases uI <;> cases uO <;> rfl
theorem nz_eq {k : Int} {pI pO h : Bool} {PF : Int → Prop} {n : Nod} {a z : Int} (hk : n.kind = k) (hr : 1 ≤ k ∧ k ≤ 8) (hI : pI = pIn k n.ins) (hO : pO = pOut k n.outs) (hh : h = nhas n) (hF : ∀ z, PF z → z = nrest a n) (hz : Nz pI pO h PF z) : z = nflaw a n := by
 unfold nflaw
 rw [if_neg (by omega), hk, ← hI, ← hO, ← hh]
 rcases hz with ⟨h1, rfl⟩ | ⟨h1, h2, h3, rfl⟩ | ⟨h1, h2, h3, h4⟩
 ·rw [if_pos h1]
 ·rw [if_neg (by simp [h1, h2]), if_pos h3]
 ·rw [if_neg (by simp [h1, h2]), if_neg (by simp [h3])]
  exact hF z h4
theorem nz_fin {r : Ending} {B : Prop} {k : Int} {pI pO h : Bool} {PF : Int → Prop} (n : Nod) (a : Int) (hk : n.kind = k) (hr : 1 ≤ k ∧ k ≤ 8) (hI : pI = pIn k n.ins) (hO : pO = pOut k n.outs) (hh : h = nhas n) (hF : ∀ z, PF z → z = nrest a n) (hz : ∃ z : Int, r = .returned (.int .i64 z) ∧ Nz pI pO h PF z ∧ B) : r = .returned (.int .i64 (nflaw a n)) ∧ B := by
 obtain ⟨z, h1, h2, h3⟩ := hz
 exact ⟨by rw [h1, nz_eq hk hr hI hO hh hF h2], h3⟩
set_option maxHeartbeats 1000000 in
theorem nodeflaw0_any (k i o : Int) (cq : Option Addr) (cm cc : Nat) (via : Pth) (bd : Nat) (dq : Option Addr) (dm dc : Nat) (st : Bool) (a : Int) (hk : k < 1 ∨ 8 < k) (w : World) : Calls Tryz.prog 77 #[.agg (ncells k i o (.slice cq cm cc) via bd (.slice dq dm dc) st), .int .i64 a] w fun r w' => r = .returned (.int .i64 20) ∧ Below w.heap.size w w' := by
 have h := fun W => kind0_any k hk W
 clear hk
 go_enter Tryz.func77, Tryz.ntmps77
 go_wp2_with fail
 refine (h _).mono ?_
 rintro r w1 ⟨rfl, b1⟩
 have B1 : Hid (Below w.heap.size w w1) := ((Gr.refl w).alloc (.cells (ncells k i o (.slice cq cm cc) via bd (.slice dq dm dc) st) 89)).below.trans (b1.mono ((Gr.refl w).alloc (.cells (ncells k i o (.slice cq cm cc) via bd (.slice dq dm dc) st) 89)).size)
 clear b1
 go_wp2_with fail
 go_ret
 exact ⟨rfl, B1.out.trans (((Gr.refl w1).alloc _).below.mono B1.out.size)⟩
theorem nodeflaw_any {M : Nat} (x : NV) (a : Int) (w : World) (hx : NR M w x) (hc : x.n.conns.length ≤ x.dc) (hs : x.n.conns.length ≤ 140737488351232) : Calls Tryz.prog 77 #[.agg x.cells, .int .i64 a] w fun r w' => r = .returned (.int .i64 (nflaw a x.n)) ∧ Below w.heap.size w w' := by
 obtain ⟨⟨k, i, o, cd, via, bd, cn, st⟩, cq, cm, cc, dq, dm, dc⟩ := x
 obtain ⟨_, _, h1⟩ := hx.code.form
 obtain ⟨_, _, h2⟩ := hx.conns.form
 simp only [Value.slice.injEq] at h1 h2 hc hs
 obtain ⟨-, rfl, -⟩ := h1
 obtain ⟨-, rfl, -⟩ := h2
 have hL := hx.conns
 simp only at hL
 by_cases hk : k < 1 ∨ 8 < k
 ·have := nodeflaw0_any k i o cq cd.length cc via bd dq cn.length dc st a hk w
  have e : nflaw a ⟨k, i, o, cd, via, bd, cn, st⟩ = 20 := if_pos hk
  simp only [e]
  exact this
 ·have e1 := fI_enter false
  have e2 := fI_enter true
  have ea := enters_of (P := Tryz.prog) Tryz.func128 (by kernel_rfl) rfl
  have ec := enters_of (P := Tryz.prog) Tryz.func131 (by kernel_rfl) rfl
  have eb := enters_of (P := Tryz.prog) Tryz.func134 (by kernel_rfl) rfl
  have ed := enters_of (P := Tryz.prog) Tryz.func137 (by kernel_rfl) rfl
  have fa := enters_of (P := Tryz.prog) Tryz.func129 (by kernel_rfl) rfl
  have fc := enters_of (P := Tryz.prog) Tryz.func132 (by kernel_rfl) rfl
  have fb := enters_of (P := Tryz.prog) Tryz.func135 (by kernel_rfl) rfl
  have fd := enters_of (P := Tryz.prog) Tryz.func138 (by kernel_rfl) rfl
  have all : ∀ W, Calls Tryz.prog 128 #[.agg (ncells k i o (.slice cq cd.length cc) via bd (.slice dq cn.length dc) st)] W _ := fun W => all_any k i o cq cd.length cc via bd dq cn.length dc st W
  have nof : ∀ W, Below w.heap.size w W → Calls Tryz.prog 129 #[.agg (ncells k i o (.slice cq cd.length cc) via bd (.slice dq cn.length dc) st), .int .i64 a] W fun r w' => ∃ z : Int, r = .returned (.int .i64 z) ∧ z = 0 ∧ Below W.heap.size W w' := fun W _ => (noflaw_any ⟨⟨k, i, o, cd, via, bd, cn, st⟩, cq, cd.length, cc, dq, cn.length, dc⟩ a W).mono fun r w' h => ⟨0, h.1, rfl, h.2⟩
  have cof : ∀ W, Below w.heap.size w W → Calls Tryz.prog 132 #[.agg (ncells k i o (.slice cq cd.length cc) via bd (.slice dq cn.length dc) st), .int .i64 a] W fun r w' => ∃ z : Int, r = .returned (.int .i64 z) ∧ (z = if 16 < cd.length then 24 else 0) ∧ Below W.heap.size W w' := fun W _ => (codeflaw_any k i o cq cd.length cc via bd dq cn.length dc st a W).mono fun r w' h => ⟨_, h.1, rfl, h.2⟩
  have byf : ∀ W, Below w.heap.size w W → Calls Tryz.prog 135 #[.agg (ncells k i o (.slice cq cd.length cc) via bd (.slice dq cn.length dc) st), .int .i64 a] W fun r w' => ∃ z : Int, r = .returned (.int .i64 z) ∧ (z = if 64 < bd ∨ tfits via.1 via.2.1 via.2.2 a ≠ 0 then 22 else 0) ∧ Below W.heap.size W w' := fun W _ => (byflaw_any k i o cq cd.length cc via bd dq cn.length dc st a W).mono fun r w' h => ⟨_, h.1, rfl, h.2⟩
  have cnf : ∀ W, Below w.heap.size w W → Calls Tryz.prog 138 #[.agg (ncells k i o (.slice cq cd.length cc) via bd (.slice dq cn.length dc) st), .int .i64 a] W fun r w' => ∃ z : Int, r = .returned (.int .i64 z) ∧ (z = if cok i o a cn = true then 0 else 23) ∧ Below W.heap.size W w' := fun W hb => (connsflaw_any k i o cq cd.length cc via bd dq dc st cn a W (hL.below hb) hs hc).mono fun r w' h => by
   obtain ⟨z, h1, h2, h3⟩ := h
   exact ⟨z, h1, cf_eq h2, h3⟩
  have hk8 : k = 1 ∨ k = 2 ∨ k = 3 ∨ k = 4 ∨ k = 5 ∨ k = 6 ∨ k = 7 ∨ k = 8 := by omega
  clear hk
  rcases hk8 with rfl | rfl | rfl | rfl | rfl | rfl | rfl | rfl
  ·exact (nodegen e1 e1 ea fa (fun W => (kind1_any W).mono fun _ _ h => ks_of h) all nof).mono fun r w' h => nz_fin ⟨1, i, o, cd, via, bd, cn, st⟩ a rfl (by simp) (by simp [pIn, pU]) (by simp [pOut, pU]) (by simp [nhas]) (by intro z h; simpa [nrest] using h) h
  ·exact (nodegen e1 e1 ec fc (fun W => (kind2_any W).mono fun _ _ h => ks_of h) (fun W => wcode_any 2 i o cq cd.length cc via bd dq cn.length dc st W) cof).mono fun r w' h => nz_fin ⟨2, i, o, cd, via, bd, cn, st⟩ a rfl (by simp) (by simp [pIn, pU]) (by simp [pOut, pU]) (by simp [nhas]) (by intro z h; simpa [nrest] using h) h
  ·exact (nodegen e1 e1 ec fc (fun W => (kind3_any W).mono fun _ _ h => ks_of h) (fun W => wcode_any 3 i o cq cd.length cc via bd dq cn.length dc st W) cof).mono fun r w' h => nz_fin ⟨3, i, o, cd, via, bd, cn, st⟩ a rfl (by simp) (by simp [pIn, pU]) (by simp [pOut, pU]) (by simp [nhas]) (by intro z h; simpa [nrest] using h) h
  ·exact (nodegen e2 e1 ea fa (fun W => (kind4_any W).mono fun _ _ h => ks_of h) all nof).mono fun r w' h => nz_fin ⟨4, i, o, cd, via, bd, cn, st⟩ a rfl (by simp) (by simp [pIn, pU]) (by simp [pOut, pU]) (by simp [nhas]) (by intro z h; simpa [nrest] using h) h
  ·exact (nodegen e1 e1 eb fb (fun W => (kind5_any W).mono fun _ _ h => ks_of h) (fun W => wby_any 5 i o cq cd.length cc via bd dq cn.length dc st W) byf).mono fun r w' h => nz_fin ⟨5, i, o, cd, via, bd, cn, st⟩ a rfl (by simp) (by simp [pIn, pU]) (by simp [pOut, pU]) (by simp [nhas]) (by intro z h; simpa [nrest] using h) h
  ·exact (nodegen e1 e1 ea fa (fun W => (kind6_any W).mono fun _ _ h => ks_of h) all nof).mono fun r w' h => nz_fin ⟨6, i, o, cd, via, bd, cn, st⟩ a rfl (by simp) (by simp [pIn, pU]) (by simp [pOut, pU]) (by simp [nhas]) (by intro z h; simpa [nrest] using h) h
  ·exact (nodegen e1 e1 ea fa (fun W => (kind7_any W).mono fun _ _ h => ks_of h) all nof).mono fun r w' h => nz_fin ⟨7, i, o, cd, via, bd, cn, st⟩ a rfl (by simp) (by simp [pIn, pU]) (by simp [pOut, pU]) (by simp [nhas]) (by intro z h; simpa [nrest] using h) h
  ·exact (nodegen e2 e2 ed fd (fun W => (kind8_any W).mono fun _ _ h => ks_of h) (fun W => wconns_any 8 i o cq cd.length cc via bd dq cn.length dc st W) cnf).mono fun r w' h => nz_fin ⟨8, i, o, cd, via, bd, cn, st⟩ a rfl (by simp) (by simp [pIn, pU]) (by simp [pOut, pU]) (by simp [nhas]) (by intro z h; simpa [nrest] using h) h
end Go.Proofs.YtdnnfgabdkkdjaaGreat.Df
