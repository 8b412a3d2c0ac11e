import Derived.Test.YtjppkehnjnmbnaaGreatGQs
import Derived.Laws.EntriesVeiled
import Derived.BigQuiet
namespace Go.Proofs.YtjppkehnjnmbnaaGreat.Df
open Go.RowKit Go.Sort
attribute [local go_sem ↓] Go.wp_at_zero Go.wp_at_succ
set_option maxHeartbeats 1000000 in
theorem round_any (k i o : Int) (cq : Option Addr) (cm cc : Nat) (via : Pth) (bd : Nat) (dq : Option Addr) (dm dc : Nat) (st : Bool) (w : World) : Calls Tryz.prog 136 #[.agg (ncells k i o (.slice cq cm cc) via bd (.slice dq dm dc) st)] w (Cp EC 92 w [⟨0, 0, via⟩]) := by
 have h := World.ownsRow_lit (base := w.heap.size) (size := 5) (e := 92) (w.alloc (.cells (ncells k i o (.slice cq cm cc) via bd (.slice dq dm dc) st) 89)) #[.int .i64 0, .int .i64 0, .int .u64 (via.1 : Nat), .int .u64 (via.2.1 : Nat), .int .u64 (via.2.2 : Nat)] 1 (by simp) (by decide) rfl
 have H := hid h
 clear h
 go_enter Tryz.func136, Tryz.ntmps136
 go_wp2_with fail
 go_ret
 refine ⟨_, rfl, (((Gr.refl w).alloc _).alloc _).below, ?_⟩
 have h := H.out
 rw [World.size_alloc] at h
 exact h
set_option maxHeartbeats 1000000 in
theorem listed_any {M : Nat} (k i o : Int) (cq : Option Addr) (cm cc : Nat) (via : Pth) (bd : Nat) (dq : Option Addr) (dm dc : Nat) (st : Bool) (l : List Con) (w : World) (hL : Lz EC M w (.slice dq dm dc) l) (hb : l.length * 40 ≤ 140737488351232) : Calls Tryz.prog 139 #[.agg (ncells k i o (.slice cq cm cc) via bd (.slice dq dm dc) st)] w (Cp EC 92 w l) := by
 have B0 := hid ((Gr.refl w).alloc (.cells (ncells k i o (.slice cq cm cc) via bd (.slice dq dm dc) st) 89)).below
 have hc := copyC_any (w.alloc (.cells (ncells k i o (.slice cq cm cc) via bd (.slice dq dm dc) st) 89)) (hL.below B0.out) hb
 clear hL
 go_enter Tryz.func139, Tryz.ntmps139
 go_wp2_with fail
 refine hc.mono ?_
 rintro r w1 ⟨d, rfl, b1, o1⟩
 have H : Hid (Below w.heap.size w w1 ∧ w1.ownsRow w.heap.size 92 5 d l.length (fl EC l)) := ⟨B0.out.trans (b1.mono B0.out.size), owns_base o1 B0.out.size⟩
 clear b1 o1
 go_wp2_with fail
 go_ret
 exact ⟨_, rfl, H.out⟩
def connsN (n : Nod) : List Con := if n.kind = 5 then [⟨0, 0, n.via⟩] else if n.kind = 8 then n.conns else acrL n.outs.toNat n.ins.toNat
def connsAt (ns : List Nod) (i : Int) : List Con := match natN? ns i with | some n => connsN n | none => []
set_option maxHeartbeats 2000000 in
theorem connsgen {B gb : Nat} {g : Gph} {nv ev fv pv : Value} {ys : List NV} {ss : List SV} {j : Nat} {y : NV} {F1 F2 fw ff fc : Nat} {pI pO : Bool} {l : List Con} (w : World) (h : Gp B w gb g nv ev fv pv ys ss) (hy : ys[j]? = some y)
    (hK : ∀ W, Calls Tryz.prog 111 #[.int .i64 y.n.kind] W (Ks F1 F2 fw ff fc y.n.ins y.n.outs pI pO W)) (e5 : ∀ args w, (callFunc fc args).run Tryz.prog w = .ok (.enter fc args) w)
    (hC : ∀ W, Below w.heap.size w W → Calls Tryz.prog fc #[.agg y.cells] W (Cp EC 92 W l)) : Calls Tryz.prog 90 #[.pointer (some ⟨gb, 0, none⟩), .int .i64 (j : Nat)] w (Cp EC 92 w l) := by
 have hn := fun W (hb : Below w.heap.size w W) => gnodes_any W ⟨nv, ev, fv, pv, ys, ss, h.below hb⟩
 have hjl := (List.getElem?_eq_some_iff.1 hy).1
 have hyl : ys.length = g.nodes.length := by rw [← h.nds, List.length_map]
 have ha := fun W => among_any (j : Int) (g.nodes.length : Nat) W
 have hd : decide (0 ≤ (j : Int) ∧ (j : Int) < ((g.nodes.length : Nat) : Int)) = true := by simp; omega
 rw [hd] at ha
 have hn0 := hn w (Below.refl _ _)
 have cg := (tk_store h.rows.blk).1
 have lg := tk_lt h.rows.blk
 obtain ⟨b1, o1, c1, e1, z1, x0, x1, x2, x3, x4, x5, x6, x7, x8, x9⟩ := ls_atV (owns_ls (E := EV) h.raw.nodes) hy
 subst e1
 generalize ys.length = nl at hjl hyl cg
 have hjz : (j : Int) < (nl : Int) := by omega
 have hj0 : (0 : Int) ≤ (j : Int) := by omega
 generalize g.nodes.length = gl at hn0 ha
 obtain ⟨yb, hyb⟩ : ∃ b, b = w.heap.size := ⟨_, rfl⟩
 obtain ⟨W5, hW5⟩ : ∃ W, W = w.alloc (.cells y.cells 89) := ⟨_, rfl⟩
 have P5 : Hid (Below w.heap.size w W5 ∧ W5.heap[yb]? = some (.cells y.cells 89 (0, 0))) := by
  rw [hW5, hyb]
  exact ⟨((Gr.refl w).alloc _).below, heap_new' _ _⟩
 have HW5 : Hid (w.alloc (.cells #[.int .i64 y.n.kind, .int .i64 y.n.ins, .int .i64 y.n.outs, .slice y.cq y.cm y.cc, .int .u64 (y.n.via.1 : Nat), .int .u64 (y.n.via.2.1 : Nat), .int .u64 (y.n.via.2.2 : Nat), .int .u64 (y.n.bound : Nat), .slice y.dq y.dm y.dc, .bool y.n.start] 89) = W5 ∧ w.heap.size = yb) := ⟨hW5.symm, hyb.symm⟩
 clear h hy hd hn hyb hW5
 go_enter Tryz.func90, Tryz.ntmps90
 go_wp2_with fail
 refine hn0.mono ?_
 rintro r w1 ⟨rfl, rfl⟩
 go_wp2_with fail
 refine (ha _).mono ?_
 rintro r w1 ⟨rfl, rfl⟩
 go_upto_region 4 with fail
 rw [HW5.out.1, HW5.out.2]
 have cy := (tk_store P5.out.2).1
 have ly := tk_lt P5.out.2
 clear HW5 x0 x1 x2 x3 x4 x5 x6 x7 x8 x9 cg lg z1 hn0 ha
 go_wp2_with fail
 refine (hK _).mono ?_
 rintro r w2 ⟨b1, b2, rfl, b, -, -⟩
 have B2 := hid (P5.out.1.trans (b.mono P5.out.1.size))
 have N2 := hid ((b.block _ ly).trans P5.out.2)
 obtain ⟨kb, hkb⟩ : ∃ kb, kb = w2.heap.size := ⟨_, rfl⟩
 obtain ⟨W3, hW3⟩ : ∃ W, W = w2.alloc (.cells #[fv1 F1 b1, fv1 F2 b2, fv0 fw, fv0 ff, fv0 fc] 175) := ⟨_, rfl⟩
 have P3 : Hid (Below w1.heap.size w1 W3 ∧ W3.heap[yb]? = some (.cells y.cells 89 (0, 0)) ∧ W3.heap[kb]? = some (.cells #[fv1 F1 b1, fv1 F2 b2, fv0 fw, fv0 ff, fv0 fc] 175 (0, 0))) := by
  have g3 := ((Gr.refl w2).alloc (.cells #[fv1 F1 b1, fv1 F2 b2, fv0 fw, fv0 ff, fv0 fc] 175)).below
  rw [hW3, hkb]
  exact ⟨B2.out.trans (g3.mono B2.out.size), (g3.block _ (tk_lt N2.out)).trans N2.out, heap_new' _ _⟩
 have HW3 : Hid (w2.alloc (.cells #[.func (.func F1) #[] #[.pointer (some ⟨b1, 0, none⟩)], .func (.func F2) #[] #[.pointer (some ⟨b2, 0, none⟩)], .func (.func fw) #[] #[], .func (.func ff) #[] #[], .func (.func fc) #[] #[]] 175) = W3 ∧ w2.heap.size = kb) := ⟨hW3.symm, hkb.symm⟩
 clear cy ly b hK hW3 hkb
 go_upto_region 5 with fail
 rw [HW3.out.1, HW3.out.2]
 have c3 := (tk_store P3.out.2.1).1
 have l3 := tk_lt P3.out.2.1
 have k3 := (tk_store P3.out.2.2).1
 have m3 := tk_lt P3.out.2.2
 have q3 := hC W3 P3.out.1
 clear HW3 hC
 go_wp2_with fail
 refine q3.mono ?_
 rintro r w4 ⟨d, rfl, b4, o4⟩
 have FIN := hid (And.intro (P3.out.1.trans (b4.mono P3.out.1.size)) (owns_base o4 P3.out.1.size))
 clear b4 o4 q3 c3 l3 k3 m3
 go_wp2_with fail
 go_ret
 exact ⟨_, rfl, FIN.out⟩
set_option maxHeartbeats 1000000 in
theorem conns_none {B gb : Nat} {g : Gph} (i : Int) (w : World) (h : Gm B w gb g) (hi : natN? g.nodes i = none) : Calls Tryz.prog 90 #[.pointer (some ⟨gb, 0, none⟩), .int .i64 i] w (Cp EC 92 w []) := by
 have hn := gnodes_any w h
 have ha := fun W => among_any i (g.nodes.length : Nat) W
 have hd : decide (0 ≤ i ∧ i < ((g.nodes.length : Nat) : Int)) = false := by
  rw [decide_eq_false_iff_not]
  intro h2
  unfold natN? at hi
  rw [if_pos h2.1, List.getElem?_eq_none_iff] at hi
  omega
 rw [hd] at ha
 generalize g.nodes.length = gl at hn ha
 clear h hi hd
 go_enter Tryz.func90, Tryz.ntmps90
 go_wp2_with fail
 refine hn.mono ?_
 rintro r w1 ⟨rfl, rfl⟩
 go_wp2_with fail
 refine (ha _).mono ?_
 rintro r w1 ⟨rfl, rfl⟩
 go_wp2_with fail
 go_ret
 exact ⟨_, rfl, Below.refl _ _, World.ownsRow_nil _ _ _ _⟩
theorem nflaw_kind {a : Int} {n : Nod} (h : nflaw a n = 0) : 1 ≤ n.kind ∧ n.kind ≤ 8 := by
 unfold nflaw at h
 split at h
 ·cases h
 ·omega
theorem gconns_any {B gb : Nat} {g : Gph} (i : Int) (w : World) (hm : Gm B w gb g) : Calls Tryz.prog 90 #[.pointer (some ⟨gb, 0, none⟩), .int .i64 i] w (Cp EC 92 w (connsAt g.nodes i)) := by
 cases e : natN? g.nodes i with
 | none => unfold connsAt; rw [e]; exact conns_none i w hm e
 | some n =>
  unfold connsAt
  rw [e]
  obtain ⟨nv, ev, fv, pv, ys, ss, h⟩ := hm
  have hi0 : 0 ≤ i := by
   unfold natN? at e
   by_cases h0 : 0 ≤ i
   ·exact h0
   ·rw [if_neg h0] at e; cases e
  obtain ⟨j, rfl⟩ : ∃ j : Nat, i = (j : Int) := ⟨i.toNat, by omega⟩
  have hj : g.nodes[j]? = some n := by
   unfold natN? at e
   rw [if_pos hi0, Int.toNat_natCast] at e
   exact e
  rw [← h.nds] at hj
  obtain ⟨y, hy, rfl⟩ := nd_get hj
  have hym : y.n ∈ g.nodes := by rw [← h.nds]; exact List.mem_map_of_mem (List.mem_of_getElem? hy)
  obtain ⟨q, hq, hqy⟩ := List.mem_iff_getElem.1 hym
  have hfl : nflaw g.arity y.n = 0 := h.ok.ng q _ hq (by rw [← hqy]; simp)
  have hkd := nflaw_kind hfl
  have hpt := nflaw_ports hfl
  have hls := nflaw_lists hfl
  have hown := h.raw.each y (List.mem_of_getElem? hy)
  have ea := enters_of (P := Tryz.prog) Tryz.func130 (by kernel_rfl) rfl
  have er := enters_of (P := Tryz.prog) Tryz.func136 (by kernel_rfl) rfl
  have el := enters_of (P := Tryz.prog) Tryz.func139 (by kernel_rfl) rfl
  have hgen := fun (fw ff fc : Nat) (uI uO : Bool) (i0 o0 : Int) (l : List Con) (hk : ∀ W, Calls Tryz.prog 111 #[.int .i64 y.n.kind] W (Kd W uI i0 uO o0 fw ff fc)) e5 hC => connsgen (fw := fw) (ff := ff) (fc := fc) (l := l) w h hy (fun W => (hk W).mono fun _ _ h => ks_of h) e5 hC
  have hac : y.n.kind ≠ 5 → y.n.kind ≠ 8 → ∀ W, Below w.heap.size w W → Calls Tryz.prog 130 #[.agg y.cells] W (Cp EC 92 W (connsN y.n)) := fun h5 h8 W _ => by
   unfold connsN
   rw [if_neg h5, if_neg h8]
   have hc := across_any y.n.kind y.n.ins.toNat y.n.outs.toNat y.cq y.cm y.cc y.n.via y.n.bound y.dq y.dm y.dc y.n.start (by omega) (by omega) W
   rw [show ((y.n.ins.toNat : Nat) : Int) = y.n.ins by omega, show ((y.n.outs.toNat : Nat) : Int) = y.n.outs by omega] at hc
   exact hc
  have hro : y.n.kind = 5 → ∀ W, Below w.heap.size w W → Calls Tryz.prog 136 #[.agg y.cells] W (Cp EC 92 W (connsN y.n)) := fun h5 W _ => by
   unfold connsN
   rw [if_pos h5]
   exact round_any y.n.kind y.n.ins y.n.outs y.cq y.cm y.cc y.n.via y.n.bound y.dq y.dm y.dc y.n.start W
  have hli : y.n.kind = 8 → ∀ W, Below w.heap.size w W → Calls Tryz.prog 139 #[.agg y.cells] W (Cp EC 92 W (connsN y.n)) := fun h8 W hb => by
   unfold connsN
   rw [if_neg (by omega), if_pos h8]
   exact listed_any y.n.kind y.n.ins y.n.outs y.cq y.cm y.cc y.n.via y.n.bound y.dq y.dm y.dc y.n.start y.n.conns W (owns_lz (E := EC) (owns_below hown.2 hb)) (by omega)
  have hk8 : y.n.kind = 1 ∨ y.n.kind = 2 ∨ y.n.kind = 3 ∨ y.n.kind = 4 ∨ y.n.kind = 5 ∨ y.n.kind = 6 ∨ y.n.kind = 7 ∨ y.n.kind = 8 := by omega
  rcases hk8 with hk | hk | hk | hk | hk | hk | hk | hk
  ·exact hgen _ _ _ _ _ _ _ _ (by rw [hk]; exact kind1_any) ea (hac (by omega) (by omega))
  ·exact hgen _ _ _ _ _ _ _ _ (by rw [hk]; exact kind2_any) ea (hac (by omega) (by omega))
  ·exact hgen _ _ _ _ _ _ _ _ (by rw [hk]; exact kind3_any) ea (hac (by omega) (by omega))
  ·exact hgen _ _ _ _ _ _ _ _ (by rw [hk]; exact kind4_any) ea (hac (by omega) (by omega))
  ·exact hgen _ _ _ _ _ _ _ _ (by rw [hk]; exact kind5_any) er (hro hk)
  ·exact hgen _ _ _ _ _ _ _ _ (by rw [hk]; exact kind6_any) ea (hac (by omega) (by omega))
  ·exact hgen _ _ _ _ _ _ _ _ (by rw [hk]; exact kind7_any) ea (hac (by omega) (by omega))
  ·exact hgen _ _ _ _ _ _ _ _ (by rw [hk]; exact kind8_any) el (hli hk)
end Go.Proofs.YtjppkehnjnmbnaaGreat.Df
