import Derived.Test.YtdiecnacbkpceaaGSame
import Derived.Shelf.SlSortCmp.QuietGrown
namespace Go.Proofs.Ytdiecnacbkpceaa.Df
open Go.RowKit Go.Sort
attribute [local go_sem ↓] Go.wp_at_zero Go.wp_at_succ

theorem teq_self (a b c : Int) : teq a b c a b c = true := by simp [teq]
set_option maxHeartbeats 1000000 in
theorem snode_eq {M : Nat} {x y : NV} (hxy : x.n = y.n) (w : World) (hx : NR M w x) (hy : NR M w y) (hb : x.n.code.length ≤ 140737488355328 ∧ x.n.conns.length ≤ 140737488355328) : Calls Try.prog 42 #[.agg x.cells, .agg y.cells] w fun e w' => e = .returned (.bool true) ∧ Gr w w' := by
  obtain ⟨n, cq, cm, cc, dq, dm, dc⟩ := x
  obtain ⟨n', cq', cm', cc', dq', dm', dc'⟩ := y
  simp only at hxy hb
  subst hxy
  have hso := fun W (hg : Gr w W) => sops_eq W (hx.code.below hg.below) (hy.code.below hg.below) hb.1
  have hsc := fun W (hg : Gr w W) => scons_eq W (hx.conns.below hg.below) (hy.conns.below hg.below) hb.2
  have hP := run_eqP 9998
  have hT := teq_self (n.via.1 : Nat) (n.via.2.1 : Nat) (n.via.2.2 : Nat)
  clear hx hy
  have g2 := fun (o1 o2 : Obj) => hid (((Gr.refl w).alloc o1).alloc o2)
  go_enter Try.func42, Try.ntmps42
  go_wp2_with fail
  go_at_call 54
  refine (hso _ (g2 _ _).out).mono ?_
  rintro r w4 ⟨rfl, g4⟩
  have K4 := hid g4
  have c4 := g4.cells
  have s4 := g4.size
  have G4 := hid ((g2 _ _).out.trans g4)
  clear g4
  go_wp2_with fail
  go_at_call 25
  refine (hsc _ G4.out).mono ?_
  rintro r w5 ⟨rfl, g5⟩
  have G5 := hid (G4.out.trans g5)
  have e1 : w5.cell? ⟨w.heap.size, 9, none⟩ = some (.bool n.start) := ((K4.out.trans g5).cell (o := 9) (tk_lt (new1 w _ _))).trans ((tk_store (new1 w _ _)).1 9)
  have e2 : w5.cell? ⟨w.heap.size + 1, 9, none⟩ = some (.bool n.start) := ((K4.out.trans g5).cell (o := 9) (tk_lt (new2 w _ _))).trans ((tk_store (new2 w _ _)).1 9)
  clear g5 c4 s4 K4
  go_wp2_with fail
  go_ret
  exact ⟨rfl, G5.out⟩
theorem n_at {xs ys : List NV} (h : xs.map NV.n = ys.map NV.n) {k : Nat} {x y : NV} (hx : xs[k]? = some x) (hy : ys[k]? = some y) : x.n = y.n := by
  have h1 := congrArg (·[k]?) h
  simp only [List.getElem?_map, hx, hy, Option.map_some] at h1
  exact Option.some.inj h1
set_option maxHeartbeats 2000000 in
theorem same_eq {M : Nat} {nv ev nv' ev' : Value} {a : Int} {xs ys : List NV} {es : List Edg} (hxy : xs.map NV.n = ys.map NV.n) (w : World) (hx : GR M w nv ev xs es) (hy : GR M w nv' ev' ys es) : Calls Try.prog 22 #[.agg (gvc a nv ev), .agg (gvc a nv' ev')] w fun e w' => e = .returned (.bool true) ∧ Gr w w' := by
  have hm : Try.prog.follows .mixedOrders = true := by kernel_rfl
  have heq := fun (s t : Edg) W => run_eqD s t W
  have hlen : xs.length = ys.length := by simpa using congrArg List.length hxy
  have HX := hid hx
  have HY := hid hy
  have hw := hx.wide
  obtain ⟨pn, cn, rfl⟩ := hx.nodes.form
  obtain ⟨pe, ce, rfl⟩ := hx.edges.form
  obtain ⟨pn', cn', rfl⟩ := hy.nodes.form
  obtain ⟨pe', ce', rfl⟩ := hy.edges.form
  rw [← hlen] at HY ⊢
  have HE := hid hxy
  have HLn := hid hlen
  clear hx hy hxy hlen
  obtain ⟨W1, hW1⟩ : ∃ W1, W1 = (w.alloc (.cells #[.int .i64 a, .slice pn xs.length cn, .slice pe es.length ce] 25)).alloc (.cells #[.int .i64 a, .slice pn' xs.length cn', .slice pe' es.length ce'] 25) := ⟨_, rfl⟩
  obtain ⟨b0, b1, g1⟩ : W1.heap[w.heap.size]? = some (.cells #[.int .i64 a, .slice pn xs.length cn, .slice pe es.length ce] 25 (0, 0)) ∧ W1.heap[w.heap.size + 1]? = some (.cells #[.int .i64 a, .slice pn' xs.length cn', .slice pe' es.length ce'] 25 (0, 0)) ∧ Gr w W1 := by
    rw [hW1]
    exact ⟨new1 w _ _, new2 w _ _, ((Gr.refl w).alloc _).alloc _⟩
  have HW1 := hid hW1.symm
  clear hW1
  have a0 := fun (W : World) (hg : Gr W1 W) => (hg.cell (o := 1) (tk_lt b0)).trans ((tk_store b0).1 1)
  have a1 := fun (W : World) (hg : Gr W1 W) => (hg.cell (o := 1) (tk_lt b1)).trans ((tk_store b1).1 1)
  have a2 := fun (W : World) (hg : Gr W1 W) => (hg.cell (o := 2) (tk_lt b0)).trans ((tk_store b0).1 2)
  have a3 := fun (W : World) (hg : Gr W1 W) => (hg.cell (o := 2) (tk_lt b1)).trans ((tk_store b1).1 2)
  have l0 := tk_lt b0
  have l1 := tk_lt b1
  have A := hid (And.intro a0 (And.intro a1 (And.intro a2 a3)))
  have G1 := hid g1
  clear b0 b1 a0 a1 a2 a3 g1
  go_enter Try.func22, Try.ntmps22
  go_wp2_with fail
  rw [HW1.out]
  clear HW1
  go_loopw [5] (fun s33 wr => ∃ k : Nat, k ≤ xs.length ∧ s33 = .int .i64 (k : Nat) ∧ Hid (Gr W1 wr)) (fun s33 _ => xs.length - (RowKit.intOf s33).toNat)
  case atStart => exact ⟨0, Nat.zero_le _, rfl, Gr.refl _⟩
  case round =>
    obtain ⟨k, hk, rfl, HR⟩ := hrel
    obtain ⟨c0, c1, c2, c3⟩ : _ ∧ _ ∧ _ ∧ _ := ⟨A.out.1 wr HR.out, A.out.2.1 wr HR.out, A.out.2.2.1 wr HR.out, A.out.2.2.2 wr HR.out⟩
    have m0 := Nat.lt_of_lt_of_le l0 HR.out.size
    have m1 := Nat.lt_of_lt_of_le l1 HR.out.size
    have GW := hid (G1.out.trans HR.out)
    by_cases hlt : k < xs.length
    · have hltz : (k : Int) < (xs.length : Int) := by omega
      obtain ⟨x, hs⟩ : ∃ x, xs[k]? = some x := ⟨xs[k], by simp⟩
      obtain ⟨y, ht⟩ : ∃ y, ys[k]? = some y := ⟨ys[k]'(by have := HLn.out; omega), by simp⟩
      have hsn : ∀ (n : Nat) (os : Array Obj), Calls Try.prog 42 #[.agg x.cells, .agg y.cells] (grow (wr.drewN n) os) fun e w' => e = .returned (.bool true) ∧ Gr (grow (wr.drewN n) os) w' := fun n os => by
        have hg : Gr w (grow (wr.drewN n) os) := GW.out.trans ⟨n, os, rfl⟩
        exact snode_eq (n_at HE.out hs ht) _ ((HX.out.each x (List.mem_of_getElem? hs)).below hg.below) ((HY.out.each y (List.mem_of_getElem? ht)).below hg.below) (HX.out.big x (List.mem_of_getElem? hs))
      obtain ⟨b1, o1, q1, e1, z1, x0, x1, x2, x3, x4, x5, x6, x7, x8, x9⟩ := ls_atV ((HX.out.nodes.below GW.out.below).ls hs) hs
      obtain ⟨b2, o2, q2, e2, z2, y0, y1, y2, y3, y4, y5, y6, y7, y8, y9⟩ := ls_atV ((HY.out.nodes.below GW.out.below).ls ht) ht
      simp only [Value.slice.injEq] at e1 e2
      obtain ⟨rfl, -, rfl⟩ := e1
      obtain ⟨rfl, -, rfl⟩ := e2
      have hgc : ∀ (n : Nat) (os : Array Obj) (b o : Nat), b < wr.heap.size → (grow (wr.drewN n) os).cell? ⟨b, o, none⟩ = wr.cell? ⟨b, o, none⟩ := fun n os b o hb => Gr.cell (w := wr) (v := grow (wr.drewN n) os) ⟨n, os, rfl⟩ hb
      clear hs ht HX HY
      go_wp2_with fail
      go_quiet_grown (first | (go_at_call 42; refine Calls.grown_of (hsn _ _)))
      have G2 : Hid (Gr W1 (grow (wr.drewN nq) osq)) := HR.out.trans ⟨nq, osq, rfl⟩
      go_wp2_with fail
      go_roundw
      case rel => exact ⟨k + 1, by omega, by go_num, G2.out⟩
      case measure => simp [RowKit.intOf]; omega
    · have hltz : ¬ (k : Int) < (xs.length : Int) := by omega
      go_wp2_with fail
      go_loopw [6] (fun s52 wr => ∃ k : Nat, k ≤ es.length ∧ s52 = .int .i64 (k : Nat) ∧ Hid (Gr W1 wr)) (fun s52 _ => es.length - (RowKit.intOf s52).toNat)
      case atStart => exact ⟨0, Nat.zero_le _, rfl, HR.out⟩
      case round =>
        clear HR GW c0 c1 c2 c3 m0 m1 hltz hlt hk
        obtain ⟨k, hk, rfl, HR⟩ := hrel
        obtain ⟨c0, c1, c2, c3⟩ : _ ∧ _ ∧ _ ∧ _ := ⟨A.out.1 wr HR.out, A.out.2.1 wr HR.out, A.out.2.2.1 wr HR.out, A.out.2.2.2 wr HR.out⟩
        have m0 := Nat.lt_of_lt_of_le l0 HR.out.size
        have m1 := Nat.lt_of_lt_of_le l1 HR.out.size
        have GW := hid (G1.out.trans HR.out)
        by_cases hlt : k < es.length
        · have hltz : (k : Int) < (es.length : Int) := by omega
          obtain ⟨x, hs⟩ : ∃ x, es[k]? = some x := ⟨es[k], by simp⟩
          obtain ⟨b1, o1, q1, e1, z1, x0, x1, x2, x3, x4⟩ := ls_atD ((HX.out.edges.below GW.out.below).ls hs) hs
          obtain ⟨b2, o2, q2, e2, z2, y0, y1, y2, y3, y4⟩ := ls_atD ((HY.out.edges.below GW.out.below).ls hs) hs
          simp only [Value.slice.injEq] at e1 e2
          obtain ⟨rfl, -, rfl⟩ := e1
          obtain ⟨rfl, -, rfl⟩ := e2
          clear hs HX HY
          go_wp2_with fail
          go_quiet (fail)
          go_wp2_with fail
          go_roundw
          case rel => exact ⟨k + 1, by omega, by go_num, HR.out.drewN _⟩
          case measure => simp [RowKit.intOf]; omega
        · have hltz : ¬ (k : Int) < (es.length : Int) := by omega
          go_wp2_with fail
          go_ret
          exact ⟨rfl, GW.out⟩
end Go.Proofs.Ytdiecnacbkpceaa.Df
