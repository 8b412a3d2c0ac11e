import Derived.Test.YtdiecnacbkpceaaJ1
import Derived.Test.YtdiecnacbkpceaaGEq
import Derived.BigQuiet
import Derived.Shelf.SlSortCmp.QuietGrown
namespace Go.Proofs.Ytdiecnacbkpceaa.Df
open Go.RowKit Go.Sort
attribute [local go_sem ↓] Go.wp_at_zero Go.wp_at_succ

set_option maxHeartbeats 1000000 in
theorem sops_eq {M : Nat} {va vb : Value} {l : List Opd} (w : World) (ha : Lz EO M w va l) (hb : Lz EO M w vb l) (hl : l.length ≤ 140737488355328) : Calls Try.prog 54 #[va, vb] w fun e w' => e = .returned (.bool true) ∧ Gr w w' := by
  obtain ⟨pa, ca, rfl⟩ := ha.form
  obtain ⟨pb, cb, rfl⟩ := hb.form
  have heq := fun (s t : Opd) W => run_eqO s t W
  have hm : Try.prog.follows .mixedOrders = true := by kernel_rfl
  have Ha := hid ha
  have Hb := hid hb
  clear ha hb
  go_enter Try.func54, Try.ntmps54
  go_wp2_with fail
  go_loopw [5] (fun s5 wr => ∃ k : Nat, k ≤ l.length ∧ s5 = .int .i64 (k : Nat) ∧ Gr w wr) (fun s5 _ => l.length - (RowKit.intOf s5).toNat)
  case atStart => exact ⟨0, Nat.zero_le _, rfl, Gr.refl _⟩
  case round =>
    obtain ⟨k, hk, rfl, hgr⟩ := hrel
    by_cases hlt : k < l.length
    · have hltz : (k : Int) < (l.length : Int) := by omega
      have hk0 : (0 : Int) ≤ (k : Int) := by omega
      obtain ⟨s, hs⟩ : ∃ s, l[k]? = some s := ⟨l[k], by simp⟩
      obtain ⟨b1, o1, c1, e1, z1, x0, x1⟩ := ls_atO ((Ha.out.below hgr.below).ls hs) hs
      obtain ⟨b2, o2, c2, e2, z2, y0, y1⟩ := ls_atO ((Hb.out.below hgr.below).ls hs) hs
      simp only [Value.slice.injEq] at e1 e2
      obtain ⟨rfl, -, rfl⟩ := e1
      obtain ⟨rfl, -, rfl⟩ := e2
      have GR' := hid hgr
      clear hs hgr
      go_wp2_with fail
      go_quiet (fail)
      go_wp2_with fail
      go_roundw
      case rel => exact ⟨k + 1, by omega, by go_num, GR'.out.drewN _⟩
      case measure => simp [RowKit.intOf]; omega
    · have hltz : ¬ (k : Int) < (l.length : Int) := by omega
      go_wp2_with fail
      go_ret
      exact ⟨rfl, hgr⟩
set_option maxHeartbeats 1000000 in
theorem scons_eq {M : Nat} {va vb : Value} {l : List Con} (w : World) (ha : Lz EC M w va l) (hb : Lz EC M w vb l) (hl : l.length ≤ 140737488355328) : Calls Try.prog 25 #[va, vb] w fun e w' => e = .returned (.bool true) ∧ Gr w w' := by
  obtain ⟨pa, ca, rfl⟩ := ha.form
  obtain ⟨pb, cb, rfl⟩ := hb.form
  have heq := fun (s t : Con) W => run_eqC s t W
  have hm : Try.prog.follows .mixedOrders = true := by kernel_rfl
  have Ha := hid ha
  have Hb := hid hb
  clear ha hb
  go_enter Try.func25, Try.ntmps25
  go_wp2_with fail
  go_loopw [5] (fun s5 wr => ∃ k : Nat, k ≤ l.length ∧ s5 = .int .i64 (k : Nat) ∧ Gr w wr) (fun s5 _ => l.length - (RowKit.intOf s5).toNat)
  case atStart => exact ⟨0, Nat.zero_le _, rfl, Gr.refl _⟩
  case round =>
    obtain ⟨k, hk, rfl, hgr⟩ := hrel
    by_cases hlt : k < l.length
    · have hltz : (k : Int) < (l.length : Int) := by omega
      have hk0 : (0 : Int) ≤ (k : Int) := by omega
      obtain ⟨s, hs⟩ : ∃ s, l[k]? = some s := ⟨l[k], by simp⟩
      obtain ⟨b1, o1, c1, e1, z1, x0, x1, x2, x3, x4⟩ := ls_atC ((Ha.out.below hgr.below).ls hs) hs
      obtain ⟨b2, o2, c2, e2, z2, y0, y1, y2, y3, y4⟩ := ls_atC ((Hb.out.below hgr.below).ls hs) hs
      simp only [Value.slice.injEq] at e1 e2
      obtain ⟨rfl, -, rfl⟩ := e1
      obtain ⟨rfl, -, rfl⟩ := e2
      have GR' := hid hgr
      clear hs hgr
      go_wp2_with fail
      go_quiet (fail)
      go_wp2_with fail
      go_roundw
      case rel => exact ⟨k + 1, by omega, by go_num, GR'.out.drewN _⟩
      case measure => simp [RowKit.intOf]; omega
    · have hltz : ¬ (k : Int) < (l.length : Int) := by omega
      go_wp2_with fail
      go_ret
      exact ⟨rfl, hgr⟩
set_option maxHeartbeats 1000000 in
theorem sints_eq {M : Nat} {va vb : Value} {l : List Int} (w : World) (ha : Lz EI M w va l) (hb : Lz EI M w vb l) (hl : l.length ≤ 140737488355328) : Calls Try.prog 41 #[va, vb] w fun e w' => e = .returned (.bool true) ∧ Gr w w' := by
  obtain ⟨pa, ca, rfl⟩ := ha.form
  obtain ⟨pb, cb, rfl⟩ := hb.form
  have hm : Try.prog.follows .mixedOrders = true := by kernel_rfl
  have Ha := hid ha
  have Hb := hid hb
  clear ha hb
  go_enter Try.func41, Try.ntmps41
  go_wp2_with fail
  go_loopw [5] (fun s5 wr => ∃ k : Nat, k ≤ l.length ∧ s5 = .int .i64 (k : Nat) ∧ Gr w wr) (fun s5 _ => l.length - (RowKit.intOf s5).toNat)
  case atStart => exact ⟨0, Nat.zero_le _, rfl, Gr.refl _⟩
  case round =>
    obtain ⟨k, hk, rfl, hgr⟩ := hrel
    by_cases hlt : k < l.length
    · have hltz : (k : Int) < (l.length : Int) := by omega
      have hk0 : (0 : Int) ≤ (k : Int) := by omega
      obtain ⟨s, hs⟩ : ∃ s, l[k]? = some s := ⟨l[k], by simp⟩
      obtain ⟨b1, o1, c1, e1, z1, x0⟩ := ls_atI ((Ha.out.below hgr.below).ls hs) hs
      obtain ⟨b2, o2, c2, e2, z2, y0⟩ := ls_atI ((Hb.out.below hgr.below).ls hs) hs
      simp only [Value.slice.injEq] at e1 e2
      obtain ⟨rfl, -, rfl⟩ := e1
      obtain ⟨rfl, -, rfl⟩ := e2
      have GR' := hid hgr
      clear hs hgr
      go_wp2_with fail
      go_quiet (fail)
      go_wp2_with fail
      go_roundw
      case rel => exact ⟨k + 1, by omega, by go_num, GR'.out.drewN _⟩
      case measure => simp [RowKit.intOf]; omega
    · have hltz : ¬ (k : Int) < (l.length : Int) := by omega
      go_wp2_with fail
      go_ret
      exact ⟨rfl, hgr⟩
end Go.Proofs.Ytdiecnacbkpceaa.Df

namespace Go.Proofs.Ytdiecnacbkpceaa.Df
open Go.RowKit Go.Sort
attribute [local go_sem ↓] Go.wp_at_zero Go.wp_at_succ

theorem teq_self (a b c : Int) : teq a b c a b c = true := by simp [teq]
set_option maxHeartbeats 1000000 in
theorem snode_eq {M : Nat} {x y : NV} (hxy : x.n = y.n) (w : World) (hx : NR M w x) (hy : NR M w y) (hb : x.n.code.length ≤ 140737488355328 ∧ x.n.conns.length ≤ 140737488355328) : Calls Try.prog 42 #[.agg x.cells, .agg y.cells] w fun e w' => e = .returned (.bool true) ∧ Gr w w' := by
  obtain ⟨n, cq, cm, cc, dq, dm, dc⟩ := x
  obtain ⟨n', cq', cm', cc', dq', dm', dc'⟩ := y
  simp only at hxy hb
  subst hxy
  have hso := fun W (hg : Gr w W) => sops_eq W (hx.code.below hg.below) (hy.code.below hg.below) hb.1
  have hsc := fun W (hg : Gr w W) => scons_eq W (hx.conns.below hg.below) (hy.conns.below hg.below) hb.2
  have hP := run_eqP 9998
  have hT := teq_self (n.via.1 : Nat) (n.via.2.1 : Nat) (n.via.2.2 : Nat)
  clear hx hy
  have g2 := fun (o1 o2 : Obj) => hid (((Gr.refl w).alloc o1).alloc o2)
  go_enter Try.func42, Try.ntmps42
  go_wp2_with fail
  go_at_call 54
  refine (hso _ (g2 _ _).out).mono ?_
  rintro r w4 ⟨rfl, g4⟩
  have K4 := hid g4
  have c4 := g4.cells
  have s4 := g4.size
  have G4 := hid ((g2 _ _).out.trans g4)
  clear g4
  go_wp2_with fail
  go_at_call 25
  refine (hsc _ G4.out).mono ?_
  rintro r w5 ⟨rfl, g5⟩
  have G5 := hid (G4.out.trans g5)
  have e1 : w5.cell? ⟨w.heap.size, 9, none⟩ = some (.bool n.start) := ((K4.out.trans g5).cell (o := 9) (tk_lt (new1 w _ _))).trans ((tk_store (new1 w _ _)).1 9)
  have e2 : w5.cell? ⟨w.heap.size + 1, 9, none⟩ = some (.bool n.start) := ((K4.out.trans g5).cell (o := 9) (tk_lt (new2 w _ _))).trans ((tk_store (new2 w _ _)).1 9)
  clear g5 c4 s4 K4
  go_wp2_with fail
  go_ret
  exact ⟨rfl, G5.out⟩
theorem n_at {xs ys : List NV} (h : xs.map NV.n = ys.map NV.n) {k : Nat} {x y : NV} (hx : xs[k]? = some x) (hy : ys[k]? = some y) : x.n = y.n := by
  have h1 := congrArg (·[k]?) h
  simp only [List.getElem?_map, hx, hy, Option.map_some] at h1
  exact Option.some.inj h1
set_option maxHeartbeats 2000000 in
theorem same_eq {M : Nat} {nv ev nv' ev' : Value} {a : Int} {xs ys : List NV} {es : List Edg} (hxy : xs.map NV.n = ys.map NV.n) (w : World) (hx : GR M w nv ev xs es) (hy : GR M w nv' ev' ys es) : Calls Try.prog 22 #[.agg (gvc a nv ev), .agg (gvc a nv' ev')] w fun e w' => e = .returned (.bool true) ∧ Gr w w' := by
  have hm : Try.prog.follows .mixedOrders = true := by kernel_rfl
  have heq := fun (s t : Edg) W => run_eqD s t W
  have hlen : xs.length = ys.length := by simpa using congrArg List.length hxy
  have HX := hid hx
  have HY := hid hy
  have hw := hx.wide
  obtain ⟨pn, cn, rfl⟩ := hx.nodes.form
  obtain ⟨pe, ce, rfl⟩ := hx.edges.form
  obtain ⟨pn', cn', rfl⟩ := hy.nodes.form
  obtain ⟨pe', ce', rfl⟩ := hy.edges.form
  rw [← hlen] at HY ⊢
  have HE := hid hxy
  have HLn := hid hlen
  clear hx hy hxy hlen
  obtain ⟨W1, hW1⟩ : ∃ W1, W1 = (w.alloc (.cells #[.int .i64 a, .slice pn xs.length cn, .slice pe es.length ce] 25)).alloc (.cells #[.int .i64 a, .slice pn' xs.length cn', .slice pe' es.length ce'] 25) := ⟨_, rfl⟩
  obtain ⟨b0, b1, g1⟩ : W1.heap[w.heap.size]? = some (.cells #[.int .i64 a, .slice pn xs.length cn, .slice pe es.length ce] 25 (0, 0)) ∧ W1.heap[w.heap.size + 1]? = some (.cells #[.int .i64 a, .slice pn' xs.length cn', .slice pe' es.length ce'] 25 (0, 0)) ∧ Gr w W1 := by
    rw [hW1]
    exact ⟨new1 w _ _, new2 w _ _, ((Gr.refl w).alloc _).alloc _⟩
  have HW1 := hid hW1.symm
  clear hW1
  have a0 := fun (W : World) (hg : Gr W1 W) => (hg.cell (o := 1) (tk_lt b0)).trans ((tk_store b0).1 1)
  have a1 := fun (W : World) (hg : Gr W1 W) => (hg.cell (o := 1) (tk_lt b1)).trans ((tk_store b1).1 1)
  have a2 := fun (W : World) (hg : Gr W1 W) => (hg.cell (o := 2) (tk_lt b0)).trans ((tk_store b0).1 2)
  have a3 := fun (W : World) (hg : Gr W1 W) => (hg.cell (o := 2) (tk_lt b1)).trans ((tk_store b1).1 2)
  have l0 := tk_lt b0
  have l1 := tk_lt b1
  have A := hid (And.intro a0 (And.intro a1 (And.intro a2 a3)))
  have G1 := hid g1
  clear b0 b1 a0 a1 a2 a3 g1
  go_enter Try.func22, Try.ntmps22
  go_wp2_with fail
  rw [HW1.out]
  clear HW1
  go_loopw [5] (fun s33 wr => ∃ k : Nat, k ≤ xs.length ∧ s33 = .int .i64 (k : Nat) ∧ Hid (Gr W1 wr)) (fun s33 _ => xs.length - (RowKit.intOf s33).toNat)
  case atStart => exact ⟨0, Nat.zero_le _, rfl, Gr.refl _⟩
  case round =>
    obtain ⟨k, hk, rfl, HR⟩ := hrel
    obtain ⟨c0, c1, c2, c3⟩ : _ ∧ _ ∧ _ ∧ _ := ⟨A.out.1 wr HR.out, A.out.2.1 wr HR.out, A.out.2.2.1 wr HR.out, A.out.2.2.2 wr HR.out⟩
    have m0 := Nat.lt_of_lt_of_le l0 HR.out.size
    have m1 := Nat.lt_of_lt_of_le l1 HR.out.size
    have GW := hid (G1.out.trans HR.out)
    by_cases hlt : k < xs.length
    · have hltz : (k : Int) < (xs.length : Int) := by omega
      obtain ⟨x, hs⟩ : ∃ x, xs[k]? = some x := ⟨xs[k], by simp⟩
      obtain ⟨y, ht⟩ : ∃ y, ys[k]? = some y := ⟨ys[k]'(by have := HLn.out; omega), by simp⟩
      have hsn : ∀ (n : Nat) (os : Array Obj), Calls Try.prog 42 #[.agg x.cells, .agg y.cells] (grow (wr.drewN n) os) fun e w' => e = .returned (.bool true) ∧ Gr (grow (wr.drewN n) os) w' := fun n os => by
        have hg : Gr w (grow (wr.drewN n) os) := GW.out.trans ⟨n, os, rfl⟩
        exact snode_eq (n_at HE.out hs ht) _ ((HX.out.each x (List.mem_of_getElem? hs)).below hg.below) ((HY.out.each y (List.mem_of_getElem? ht)).below hg.below) (HX.out.big x (List.mem_of_getElem? hs))
      obtain ⟨b1, o1, q1, e1, z1, x0, x1, x2, x3, x4, x5, x6, x7, x8, x9⟩ := ls_atV ((HX.out.nodes.below GW.out.below).ls hs) hs
      obtain ⟨b2, o2, q2, e2, z2, y0, y1, y2, y3, y4, y5, y6, y7, y8, y9⟩ := ls_atV ((HY.out.nodes.below GW.out.below).ls ht) ht
      simp only [Value.slice.injEq] at e1 e2
      obtain ⟨rfl, -, rfl⟩ := e1
      obtain ⟨rfl, -, rfl⟩ := e2
      have hgc : ∀ (n : Nat) (os : Array Obj) (b o : Nat), b < wr.heap.size → (grow (wr.drewN n) os).cell? ⟨b, o, none⟩ = wr.cell? ⟨b, o, none⟩ := fun n os b o hb => Gr.cell (w := wr) (v := grow (wr.drewN n) os) ⟨n, os, rfl⟩ hb
      clear hs ht HX HY
      go_wp2_with fail
      go_quiet_grown (first | (go_at_call 42; refine Calls.grown_of (hsn _ _)))
      have G2 : Hid (Gr W1 (grow (wr.drewN nq) osq)) := HR.out.trans ⟨nq, osq, rfl⟩
      go_wp2_with fail
      go_roundw
      case rel => exact ⟨k + 1, by omega, by go_num, G2.out⟩
      case measure => simp [RowKit.intOf]; omega
    · have hltz : ¬ (k : Int) < (xs.length : Int) := by omega
      go_wp2_with fail
      go_loopw [6] (fun s52 wr => ∃ k : Nat, k ≤ es.length ∧ s52 = .int .i64 (k : Nat) ∧ Hid (Gr W1 wr)) (fun s52 _ => es.length - (RowKit.intOf s52).toNat)
      case atStart => exact ⟨0, Nat.zero_le _, rfl, HR.out⟩
      case round =>
        clear HR GW c0 c1 c2 c3 m0 m1 hltz hlt hk
        obtain ⟨k, hk, rfl, HR⟩ := hrel
        obtain ⟨c0, c1, c2, c3⟩ : _ ∧ _ ∧ _ ∧ _ := ⟨A.out.1 wr HR.out, A.out.2.1 wr HR.out, A.out.2.2.1 wr HR.out, A.out.2.2.2 wr HR.out⟩
        have m0 := Nat.lt_of_lt_of_le l0 HR.out.size
        have m1 := Nat.lt_of_lt_of_le l1 HR.out.size
        have GW := hid (G1.out.trans HR.out)
        by_cases hlt : k < es.length
        · have hltz : (k : Int) < (es.length : Int) := by omega
          obtain ⟨x, hs⟩ : ∃ x, es[k]? = some x := ⟨es[k], by simp⟩
          obtain ⟨b1, o1, q1, e1, z1, x0, x1, x2, x3, x4⟩ := ls_atD ((HX.out.edges.below GW.out.below).ls hs) hs
          obtain ⟨b2, o2, q2, e2, z2, y0, y1, y2, y3, y4⟩ := ls_atD ((HY.out.edges.below GW.out.below).ls hs) hs
          simp only [Value.slice.injEq] at e1 e2
          obtain ⟨rfl, -, rfl⟩ := e1
          obtain ⟨rfl, -, rfl⟩ := e2
          clear hs HX HY
          go_wp2_with fail
          go_quiet (fail)
          go_wp2_with fail
          go_roundw
          case rel => exact ⟨k + 1, by omega, by go_num, HR.out.drewN _⟩
          case measure => simp [RowKit.intOf]; omega
        · have hltz : ¬ (k : Int) < (es.length : Int) := by omega
          go_wp2_with fail
          go_ret
          exact ⟨rfl, GW.out⟩
end Go.Proofs.Ytdiecnacbkpceaa.Df

namespace Go.Proofs.Ytdiecnacbkpceaa.Df
open Go.RowKit Go.Sort
attribute [local go_sem ↓] Go.wp_at_zero Go.wp_at_succ

/-- The edges at a place, as the document finds them. -/
def redN (ns : List Nod) (es : List Edg) (k : Int) : Nat → List Int
  | 0 => []
  | j + 1 => redN ns es k j ++ match es[j]? with | some d => if 0 ≤ k ∧ (outN ns d.src d.out = k ∨ inN ns d.dst d.inn = k) then [(j : Int)] else [] | none => []
theorem redN_yes {ns : List Nod} {es : List Edg} {k : Int} {j : Nat} {d : Edg} (hd : es[j]? = some d) (h : 0 ≤ k ∧ (outN ns d.src d.out = k ∨ inN ns d.dst d.inn = k)) : redN ns es k (j + 1) = redN ns es k j ++ [(j : Int)] := by
  rw [redN, hd]
  simp only [if_pos h]
theorem redN_no {ns : List Nod} {es : List Edg} {k : Int} {j : Nat} {d : Edg} (hd : es[j]? = some d) (h : ¬ (0 ≤ k ∧ (outN ns d.src d.out = k ∨ inN ns d.dst d.inn = k))) : redN ns es k (j + 1) = redN ns es k j := by
  rw [redN, hd]
  simp only [if_neg h, List.append_nil]
theorem redN_len (ns : List Nod) (es : List Edg) (k : Int) (j : Nat) : (redN ns es k j).length ≤ j := by
  induction j with
  | zero => simp [redN]
  | succ j ih =>
    rw [redN, List.length_append]
    have : (match es[j]? with | some d => if 0 ≤ k ∧ (outN ns d.src d.out = k ∨ inN ns d.dst d.inn = k) then [(j : Int)] else [] | none => []).length ≤ 1 := by
      split
      · split <;> simp
      · simp
    omega
set_option maxRecDepth 100000 in
set_option maxHeartbeats 4000000 in
theorem redges_any {M : Nat} {nv ev : Value} {a : Int} {xs : List NV} {es : List Edg} (k : Int) (w : World) (hN : Nr w nv xs) (hnv : ∃ p m c, nv = .slice p m c) (hE : Lz ED M w ev es) (hel : es.length ≤ 48) : Calls Try.prog 40 #[.agg (gvc a nv ev), .int .i64 k] w fun r w' => ∃ v, r = .returned v ∧ Hid (Below w.heap.size w w' ∧ w'.ownsRow w.heap.size 3 1 v (redN (xs.map NV.n) es k es.length).length (fl EI (redN (xs.map NV.n) es k es.length))) := by
  have hmx : Try.prog.follows .mixedOrders = true := by kernel_rfl
  obtain ⟨pn, nl, cn, rfl⟩ := hnv
  obtain ⟨pe, ce, rfl⟩ := hE.form
  obtain ⟨el, hl⟩ : ∃ n, n = es.length := ⟨_, rfl⟩
  rw [← hl] at hE hel ⊢
  obtain ⟨ns, hns⟩ : ∃ ns, ns = xs.map NV.n := ⟨_, rfl⟩
  have HNS := hid hns
  rw [← hns]
  obtain ⟨W0, hW0⟩ : ∃ W, W = w.alloc (.cells (gvc a (.slice pn nl cn) (.slice pe el ce)) 25) := ⟨_, rfl⟩
  obtain ⟨gb, hgb⟩ : ∃ b, b = w.heap.size := ⟨_, rfl⟩
  have S0 : Hid (Below w.heap.size w W0 ∧ W0.heap[gb]? = some (.cells (gvc a (.slice pn nl cn) (.slice pe el ce)) 25 (0, 0)) ∧ W0.ownsRow w.heap.size 3 1 (.slice none 0 0) (redN ns es k 0).length (fl EI (redN ns es k 0))) := by
    rw [hW0, hgb]
    exact ⟨((Gr.refl w).alloc _).below, heap_new' _ _, World.ownsRow_nil _ _ _ _⟩
  have HW0 : Hid (w.alloc (.cells #[.int .i64 a, .slice pn nl cn, .slice pe el ce] 25) = W0 ∧ w.heap.size = gb) := ⟨hW0.symm, hgb.symm⟩
  have HN := hid hN
  have HE := hid hE
  have HL := hid hl
  have HLN : Hid (∀ j, (redN ns es k j).length ≤ j) := redN_len ns es k
  have HGB := hid hgb
  clear hW0 hgb hN hE hl hns
  go_enter Try.func40, Try.ntmps40
  go_upto_region 1 with fail
  rw [HW0.out.1, HW0.out.2]
  clear HW0
  go_wp2_with fail
  go_loopw [5, 6] (fun s5 s6 wr => ∃ (j : Nat) (v : Value), j ≤ el ∧ s6 = .int .i64 (j : Nat) ∧ v = s5 ∧ Hid (Below w.heap.size w wr ∧ wr.heap[gb]? = some (.cells (gvc a (.slice pn nl cn) (.slice pe el ce)) 25 (0, 0)) ∧ wr.ownsRow w.heap.size 3 1 v (redN ns es k j).length (fl EI (redN ns es k j)))) (fun _ s6 _ => el - (RowKit.intOf s6).toNat)
  case atStart => exact ⟨0, _, Nat.zero_le _, rfl, rfl, S0.out⟩
  case round =>
    clear S0
    obtain ⟨j, v5, hj, rfl, rfl, HI⟩ := hrel
    have cx := (tk_store HI.out.2.1).1
    have lx := tk_lt HI.out.2.1
    by_cases hlt : j < el
    · have hltz : (j : Int) < (el : Int) := by omega
      have hj0 : (0 : Int) ≤ (j : Int) := by omega
      obtain ⟨d, hd⟩ : ∃ d, es[j]? = some d := ⟨es[j]'(by rw [← HL.out]; exact hlt), by simp⟩
      have HD := hid hd
      obtain ⟨b1, o1, q1, e1, z1, x0, x1, x2, x3, x4⟩ := ls_atD ((HE.out.below HI.out.1).ls hd) hd
      rw [← HL.out] at e1
      simp only [Value.slice.injEq] at e1
      have hq1 := e1.1
      have hq2 := e1.2.2
      obtain ⟨yb, hyb⟩ : ∃ b, b = wr.heap.size := ⟨_, rfl⟩
      obtain ⟨W5, hW5⟩ : ∃ W, W = wr.alloc (.cells #[.int .i64 d.src, .int .i64 d.out, .int .i64 d.dst, .int .i64 d.inn, .bool d.keyed] 47) := ⟨_, rfl⟩
      have S5 : Hid ((Below w.heap.size w W5 ∧ W5.heap[gb]? = some (.cells (gvc a (.slice pn nl cn) (.slice pe el ce)) 25 (0, 0)) ∧ W5.ownsRow w.heap.size 3 1 v5 (redN ns es k j).length (fl EI (redN ns es k j))) ∧ W5.heap[yb]? = some (.cells #[.int .i64 d.src, .int .i64 d.out, .int .i64 d.dst, .int .i64 d.inn, .bool d.keyed] 47 (0, 0))) := by
        have g5 := ((Gr.refl wr).alloc (.cells #[.int .i64 d.src, .int .i64 d.out, .int .i64 d.dst, .int .i64 d.inn, .bool d.keyed] 47)).below
        rw [hW5, hyb]
        exact ⟨⟨HI.out.1.trans (g5.mono HI.out.1.size), (g5.block _ (tk_lt HI.out.2.1)).trans HI.out.2.1, owns_below HI.out.2.2 g5⟩, heap_new' _ _⟩
      have HW5 : Hid (wr.alloc (.cells #[.int .i64 d.src, .int .i64 d.out, .int .i64 d.dst, .int .i64 d.inn, .bool d.keyed] 47) = W5 ∧ wr.heap.size = yb) := ⟨hW5.symm, hyb.symm⟩
      clear hW5 hyb hd e1 HI
      rw [hq1, hq2]
      go_upto_region 6 with fail
      rw [HW5.out.1, HW5.out.2]
      clear HW5 x0 x1 x2 x3 x4 z1 cx lx
      have cx := (tk_store S5.out.1.2.1).1
      have lx := tk_lt S5.out.1.2.1
      have cy := (tk_store S5.out.2).1
      have ly := tk_lt S5.out.2
      have T5 : Hid (Below w.heap.size w W5 ∧ W5.heap[gb]? = some (.cells (gvc a (.slice pn nl cn) (.slice pe el ce)) 25 (0, 0)) ∧ W5.ownsRow w.heap.size 3 1 v5 (redN ns es k j).length (fl EI (redN ns es k j))) := S5.out.1
      rw [hq1, hq2] at cx
      by_cases hk0 : 0 ≤ k
      · have ho := rout_any (a := a) (qe := some ⟨b1, o1, none⟩) (me := el) (ce := q1) d.src d.out W5 (HN.out.below T5.out.1)
        rw [← HNS.out] at ho
        by_cases h1 : outN ns d.src d.out = k
        · rw [h1] at ho
          go_wp2_with fail
          refine ho.mono ?_
          rintro r w6 ⟨rfl, g6⟩
          have T6 : Hid (Below w.heap.size w w6 ∧ w6.heap[gb]? = some (.cells (gvc a (.slice pn nl cn) (.slice pe el ce)) 25 (0, 0)) ∧ w6.ownsRow w.heap.size 3 1 v5 (redN ns es k j).length (fl EI (redN ns es k j))) := ⟨T5.out.1.trans (g6.below.mono T5.out.1.size), (g6.below.block _ (tk_lt T5.out.2.1)).trans T5.out.2.1, owns_below T5.out.2.2 g6.below⟩
          clear ho g6 T5 S5 cx lx cy ly
          go_wp2_with (at_builtin; refine wpApp1 EI Try.underlying32 infoI rfl (by decide) rfl _ _ rfl w.heap.size _ (redN ns es k j).length _ rfl T6.out.2.2 (j : Int) rfl (by have := HLN.out j; omega) (by have := HLN.out j; unfold maxLen; omega) T6.out.1.size _ rfl _ ?_)
          intro g9 c9 w9 r1 r2 r3
          have S9 : Hid (Below w.heap.size w w9 ∧ w9.heap[gb]? = some (.cells (gvc a (.slice pn nl cn) (.slice pe el ce)) 25 (0, 0)) ∧ w9.ownsRow w.heap.size 3 1 (.slice (some ⟨g9, 0, none⟩) ((redN ns es k j).length + 1) c9) (redN ns es k (j + 1)).length (fl EI (redN ns es k (j + 1)))) := by
            have k2 := Kp.grownBy (S := fun q => v5.ownBlock = some q) r2 (fun _ h => h)
            refine ⟨T6.out.1.trans (k2.below T6.out.1.size (fun q e => (owns_rd T6.out.2.2 q e).1)), (k2.block _ (tk_lt T6.out.2.1) (fun e => owns_ne_blk T6.out.2.2 T6.out.2.1 (by decide) gb e rfl)).trans T6.out.2.1, ?_⟩
            rw [redN_yes HD.out (⟨hk0, Or.inl h1⟩)]
            exact owns_re r1 (by simp) (by rw [fl_append, fl_one])
          clear r1 r2 r3
          go_wp2_with fail
          go_roundw
          case rel =>
            rw [← hq1, ← hq2]
            exact ⟨j + 1, _, by omega, by go_num, rfl, S9.out⟩
          case measure => simp [RowKit.intOf]; omega
        · have h1z : (outN ns d.src d.out == k) = false := by simpa using h1
          go_wp2_with fail
          refine ho.mono ?_
          rintro r w6 ⟨rfl, g6⟩
          have T6 : Hid (Below w.heap.size w w6 ∧ w6.heap[gb]? = some (.cells (gvc a (.slice pn nl cn) (.slice pe el ce)) 25 (0, 0)) ∧ w6.ownsRow w.heap.size 3 1 v5 (redN ns es k j).length (fl EI (redN ns es k j))) := ⟨T5.out.1.trans (g6.below.mono T5.out.1.size), (g6.below.block _ (tk_lt T5.out.2.1)).trans T5.out.2.1, owns_below T5.out.2.2 g6.below⟩
          have hy6 := (g6.below.block _ (tk_lt S5.out.2)).trans S5.out.2
          have hi := rin_any (a := a) (qe := some ⟨b1, o1, none⟩) (me := el) (ce := q1) d.dst d.inn w6 (HN.out.below T6.out.1)
          rw [← HNS.out] at hi
          clear ho g6 T5 S5 cx lx cy ly
          have cx := (tk_store T6.out.2.1).1
          have lx := tk_lt T6.out.2.1
          have cy := (tk_store hy6).1
          have ly := tk_lt hy6
          rw [hq1, hq2] at cx
          clear hy6
          by_cases h2 : inN ns d.dst d.inn = k
          · rw [h2] at hi
            go_wp2_with fail
            refine hi.mono ?_
            rintro r w7 ⟨rfl, g7⟩
            have T7 : Hid (Below w.heap.size w w7 ∧ w7.heap[gb]? = some (.cells (gvc a (.slice pn nl cn) (.slice pe el ce)) 25 (0, 0)) ∧ w7.ownsRow w.heap.size 3 1 v5 (redN ns es k j).length (fl EI (redN ns es k j))) := ⟨T6.out.1.trans (g7.below.mono T6.out.1.size), (g7.below.block _ (tk_lt T6.out.2.1)).trans T6.out.2.1, owns_below T6.out.2.2 g7.below⟩
            clear hi g7 T6 cx lx cy ly
            go_wp2_with (at_builtin; refine wpApp1 EI Try.underlying32 infoI rfl (by decide) rfl _ _ rfl w.heap.size _ (redN ns es k j).length _ rfl T7.out.2.2 (j : Int) rfl (by have := HLN.out j; omega) (by have := HLN.out j; unfold maxLen; omega) T7.out.1.size _ rfl _ ?_)
            intro g9 c9 w9 r1 r2 r3
            have S9 : Hid (Below w.heap.size w w9 ∧ w9.heap[gb]? = some (.cells (gvc a (.slice pn nl cn) (.slice pe el ce)) 25 (0, 0)) ∧ w9.ownsRow w.heap.size 3 1 (.slice (some ⟨g9, 0, none⟩) ((redN ns es k j).length + 1) c9) (redN ns es k (j + 1)).length (fl EI (redN ns es k (j + 1)))) := by
              have k2 := Kp.grownBy (S := fun q => v5.ownBlock = some q) r2 (fun _ h => h)
              refine ⟨T7.out.1.trans (k2.below T7.out.1.size (fun q e => (owns_rd T7.out.2.2 q e).1)), (k2.block _ (tk_lt T7.out.2.1) (fun e => owns_ne_blk T7.out.2.2 T7.out.2.1 (by decide) gb e rfl)).trans T7.out.2.1, ?_⟩
              rw [redN_yes HD.out (⟨hk0, Or.inr h2⟩)]
              exact owns_re r1 (by simp) (by rw [fl_append, fl_one])
            clear r1 r2 r3
            go_wp2_with fail
            go_roundw
            case rel =>
              rw [← hq1, ← hq2]
              exact ⟨j + 1, _, by omega, by go_num, rfl, S9.out⟩
            case measure => simp [RowKit.intOf]; omega
          · have h2z : (inN ns d.dst d.inn == k) = false := by simpa using h2
            go_wp2_with fail
            refine hi.mono ?_
            rintro r w7 ⟨rfl, g7⟩
            have T7 : Hid (Below w.heap.size w w7 ∧ w7.heap[gb]? = some (.cells (gvc a (.slice pn nl cn) (.slice pe el ce)) 25 (0, 0)) ∧ w7.ownsRow w.heap.size 3 1 v5 (redN ns es k j).length (fl EI (redN ns es k j))) := ⟨T6.out.1.trans (g7.below.mono T6.out.1.size), (g7.below.block _ (tk_lt T6.out.2.1)).trans T6.out.2.1, owns_below T6.out.2.2 g7.below⟩
            clear hi g7 T6 cx lx cy ly
            go_wp2_with fail
            go_roundw
            case rel =>
              rw [← hq1, ← hq2]
              exact ⟨j + 1, _, by omega, by go_num, rfl, by rw [redN_no HD.out (fun h => h.2.elim h1 h2)]; exact T7.out⟩
            case measure => simp [RowKit.intOf]; omega
      · clear S5
        go_wp2_with fail
        go_roundw
        case rel =>
          rw [← hq1, ← hq2]
          exact ⟨j + 1, _, by omega, by go_num, rfl, by rw [redN_no HD.out (fun h => hk0 h.1)]; exact T5.out⟩
        case measure => simp [RowKit.intOf]; omega
    · have hltz : ¬ (j : Int) < (el : Int) := by omega
      have hje : j = el := by omega
      subst hje
      go_wp2_with fail
      go_ret
      exact ⟨_, rfl, HI.out.1, HI.out.2.2⟩
end Go.Proofs.Ytdiecnacbkpceaa.Df

namespace Go.Proofs.Ytdiecnacbkpceaa.Df
open Go.RowKit Go.Sort

theorem pl_lt {g : Gph} (h : Gok g) {j : Nat} {d : Edg} (hj : g.edges[j]? = some d) : outPl g.nodes d < plN g.nodes ∧ inPl g.nodes d < plN g.nodes := by
  obtain ⟨h1, h2⟩ := h.ends hj
  exact ⟨(List.getElem?_eq_some_iff.1 (out_spot h1)).1, (List.getElem?_eq_some_iff.1 (in_spot h2)).1⟩
/-- What the document finds at a place is what hangs there. -/
theorem redN_eq {g : Gph} (h : Gok g) (k : Int) : redN g.nodes g.edges k g.edges.length = edN g k := by
  have key : ∀ j, redN g.nodes g.edges k j = if 0 ≤ k ∧ k < (plN g.nodes : Int) then edgesU g.nodes g.edges k.toNat j else [] := by
    intro j
    induction j with
    | zero => simp [redN, edgesU]
    | succ j ih =>
      rw [redN, edgesU, ih]
      cases hd : g.edges[j]? with
      | none => simp
      | some d =>
        obtain ⟨h1, h2⟩ := h.ends hd
        have h3 := pl_lt h hd
        simp only [outN_pl h1 h.pok, inN_pl h2]
        by_cases hk : 0 ≤ k ∧ k < (plN g.nodes : Int)
        · rw [if_pos hk, if_pos hk]
          congr 1
          by_cases he : outPl g.nodes d = k.toNat ∨ inPl g.nodes d = k.toNat
          · rw [if_pos he, if_pos (by omega)]
          · rw [if_neg he, if_neg (by omega)]
        · rw [if_neg hk, if_neg hk, if_neg (by omega)]
          rfl
  rw [key]
  rfl
end Go.Proofs.Ytdiecnacbkpceaa.Df
