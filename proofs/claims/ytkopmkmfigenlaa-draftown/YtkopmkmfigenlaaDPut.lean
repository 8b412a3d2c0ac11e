import Derived.Test.YtkopmkmfigenlaaDLnod
import Derived.Test.YtkopmkmfigenlaaDGr
namespace Go.Proofs.Ytkopmkmfigenlaa.Df
open Go.RowKit Go.Sort Wi
attribute [local go_sem ↓] Go.wp_at_zero Go.wp_at_succ

theorem ls_atV {w : World} {v : Value} {ts : List NV} (h : Ls EV w v ts) {j : Nat} {x : NV} (hj : ts[j]? = some x) :
    ∃ b off c, v = .slice (some ⟨b, off, none⟩) ts.length c ∧ b < w.heap.size ∧ w.cell? ⟨b, off + j * 10, none⟩ = some (.int .i64 x.n.kind) ∧ w.cell? ⟨b, off + j * 10 + 1, none⟩ = some (.int .i64 x.n.ins) ∧ w.cell? ⟨b, off + j * 10 + 2, none⟩ = some (.int .i64 x.n.outs) ∧ w.cell? ⟨b, off + j * 10 + 3, none⟩ = some x.cv ∧ w.cell? ⟨b, off + j * 10 + 4, none⟩ = some (.int .u64 (x.n.via.1 : Nat)) ∧ w.cell? ⟨b, off + j * 10 + 5, none⟩ = some (.int .u64 (x.n.via.2.1 : Nat)) ∧ w.cell? ⟨b, off + j * 10 + 6, none⟩ = some (.int .u64 (x.n.via.2.2 : Nat)) ∧ w.cell? ⟨b, off + j * 10 + 7, none⟩ = some (.int .u64 (x.n.bound : Nat)) ∧ w.cell? ⟨b, off + j * 10 + 8, none⟩ = some x.dv ∧ w.cell? ⟨b, off + j * 10 + 9, none⟩ = some (.bool x.n.start) := by
  obtain ⟨b, off, c, hv, hb, hc⟩ := h.get hj
  exact ⟨b, off, c, hv, hb, hc 0 _ (by decide) rfl, hc 1 _ (by decide) rfl, hc 2 _ (by decide) rfl, hc 3 _ (by decide) rfl, hc 4 _ (by decide) rfl, hc 5 _ (by decide) rfl, hc 6 _ (by decide) rfl, hc 7 _ (by decide) rfl, hc 8 _ (by decide) rfl, hc 9 _ (by decide) rfl⟩
/-- A graph that is read. -/
structure GR (M : Nat) (w : World) (nv ev : Value) (xs : List NV) (es : List Edg) : Prop where
  nodes : Lz EV M w nv xs
  edges : Lz ED M w ev es
  each : ∀ x ∈ xs, NR M w x
  big : ∀ x ∈ xs, x.n.code.length ≤ 140737488355328 ∧ x.n.conns.length ≤ 140737488355328
  wide : xs.length ≤ 140737488355328 ∧ es.length ≤ 140737488355328
theorem GR.turn {M wb : Nat} {v v' nv ev : Value} {w w' : World} {xs : List NV} {es : List Edg} (h : GR M w nv ev xs es) (hM : Mm M wb v) (ht : Turn wb v v' w w') : GR M w' nv ev xs es :=
  ⟨h.nodes.turn hM ht, h.edges.turn hM ht, fun x hx => (h.each x hx).turn hM ht, h.big, h.wide⟩
theorem NR.below {M : Nat} {w w' : World} {x : NV} (h : NR M w x) (hb : Below w.heap.size w w') : NR M w' x := ⟨h.code.below hb, h.conns.below hb⟩
theorem GR.below {M : Nat} {nv ev : Value} {w w' : World} {xs : List NV} {es : List Edg} (h : GR M w nv ev xs es) (hb : Below w.heap.size w w') : GR M w' nv ev xs es :=
  ⟨h.nodes.below hb, h.edges.below hb, fun x hx => (h.each x hx).below hb, h.big, h.wide⟩
theorem bnods_len {xs : List NV} (hT : ∀ x ∈ xs, NodT x.n) (hz : ∀ x ∈ xs, enod x.n = 0) : (xs.flatMap (fun x => bnod x.n)).length ≤ 2000 * xs.length :=
  flat_len (fun x : NV => bnod x.n) 2000 xs (fun x hx => by
    obtain ⟨_, _, _, h1, h2, _⟩ := (enod_ok x.n).1 (hz x hx)
    exact bnod_len (hT x hx) h1 h2)
set_option maxHeartbeats 2000000 in
theorem lnodel_any {wb M : Nat} {v sv : Value} {L : List UInt8} {l : List NV} (hT : ∀ o ∈ l, NodT o.n) (w : World) (hW : Wr w wb v L 0) (hM : Mm M wb v) (hL : Lz EV M w sv l) (hN : ∀ x ∈ l, NR M w x) (hbg : ∀ x ∈ l, x.n.code.length ≤ 140737488355328 ∧ x.n.conns.length ≤ 140737488355328) (hlen : l.length ≤ 24) (hl : L.length + 60000 ≤ 140737488355328) :
    Calls Try.prog 40 #[lv wb, sv, .func (.func 41) #[lv wb] #[]] w (Pt (efirst (fun x : NV => enod x.n) l) (blst (fun x : NV => bnod x.n) l) wb v L w) := by
  have hmx : Try.prog.follows .mixedOrders = true := by kernel_rfl
  have F0 := hid (Lg.start hW)
  have HL := hid hL
  have HM := hid hM
  have HN := hid hN
  have hten := form_ten (v := l.length) (by omega)
  obtain ⟨p, c, rfl⟩ := hL.form
  have hwl : IntKind.u64.wrap (l.length : Int) = (l.length : Int) := by rw [IntKind.wrap_u64]; omega
  clear hW hL hM hN
  go_enter Try.func40, Try.ntmps40
  go_wp2_with fail
  refine (wnum_any l.length (by omega) _ F0.out.wr (by omega)).mono ?_
  rintro r w1 ⟨v1, rfl, h1, k1⟩
  have I0 : Hid (Lg w w1 wb v v1 (L ++ form l.length ++ (l.take 0).flatMap (fun x : NV => bnod x.n))) := by
    have := F0.out.call k1 h1
    exact hid (by simpa [put0] using this)
  clear F0 h1 k1
  go_wp2_with fail
  go_loopw [16] (fun s16 wr => ∃ (i : Nat) (v2 : Value), i ≤ l.length ∧ s16 = .int .i64 (i : Nat) ∧ Hid (Lg w wr wb v v2 (L ++ form l.length ++ (l.take i).flatMap (fun x : NV => bnod x.n)) ∧ ∀ y ∈ l.take i, enod y.n = 0)) (fun s16 _ => l.length - (RowKit.intOf s16).toNat)
  case atStart => exact ⟨0, v1, Nat.zero_le _, rfl, I0.out, fun y hy => (by simp at hy)⟩
  case round =>
    clear I0
    obtain ⟨i, v2, hi, rfl, HI⟩ := hrel
    by_cases hlt : i < l.length
    · have hltz : (i : Int) < (l.length : Int) := by omega
      obtain ⟨o, ho⟩ : ∃ o, l[i]? = some o := ⟨l[i], by rw [List.getElem?_eq_getElem]⟩
      have hroom : (L ++ form l.length ++ (l.take i).flatMap (fun x : NV => bnod x.n)).length + 4500 ≤ 140737488355328 := by
        have h1 := bnods_len (xs := l.take i) (fun x hx => hT x (List.mem_of_mem_take hx)) HI.out.2
        rw [List.length_take] at h1
        simp only [List.length_append]
        omega
      have hTo := hT o (List.mem_of_getElem? ho)
      have hbo := hbg o (List.mem_of_getElem? ho)
      obtain ⟨b1, o1, c1, e1, z1, x0, x1, x2, x3, x4, x5, x6, x7, x8, x9⟩ := ls_atV ((HL.out.turn HM.out HI.out.1.tn).ls ho) ho
      simp only [Value.slice.injEq] at e1
      obtain ⟨rfl, -, rfl⟩ := e1
      have HO := hid ho
      have hcl := tk_cell HI.out.1.hl
      have hll := tk_lt HI.out.1.hl
      clear ho
      go_wp2_with fail
      have g1 := (Gr.refl wr).alloc (.cells o.cells 67)
      have hg : Lg w (wr.alloc (.cells o.cells 67)) wb v v2 (L ++ form l.length ++ (l.take i).flatMap (fun x : NV => bnod x.n)) := HI.out.1.call (Turn.of_below g1.below) (HI.out.1.wr.gr g1)
      refine (lnode_any o hTo _ hg.wr (HM.out.turn hg.tn hg.lt) ((HN.out o (List.mem_of_getElem? HO.out)).turn HM.out hg.tn) hbo hroom).mono ?_
      intro r w2 h2
      by_cases e0 : enod o.n = 0
      · obtain ⟨v3, rfl, k2, h2⟩ := h2.good e0
        have N1 : Hid (Lg w w2 wb v v3 (L ++ form l.length ++ (l.take (i + 1)).flatMap (fun x : NV => bnod x.n)) ∧ ∀ y ∈ l.take (i + 1), enod y.n = 0) := by
          have e : l.take (i + 1) = l.take i ++ [o] := by rw [List.take_add_one, HO.out]; rfl
          rw [e, List.flatMap_append, List.flatMap_singleton, ← List.append_assoc]
          refine ⟨hg.call k2 h2, fun m hm => ?_⟩
          rcases List.mem_append.1 hm with hm | hm
          · exact HI.out.2 m hm
          · rw [List.mem_singleton] at hm
            subst hm
            exact e0
        clear h2 k2 hg g1 HI HO x0 x1 x2 x3 x4 x5 x6 x7 x8 x9
        go_wp2_with fail
        go_roundw
        case rel => exact ⟨i + 1, v3, by omega, by go_num, N1.out⟩
        case measure => simp [RowKit.intOf]; omega
      · obtain ⟨v3, rfl, k2⟩ := h2.bad e0
        have EF := hid (efirst_take (fun x : NV => enod x.n) l i o HI.out.2 HO.out e0)
        have TN := hid (hg.tn.trans k2)
        clear h2 k2 hg g1 HI HO
        go_wp2_with fail
        exact ⟨rfl, Pt.no EF.out e0 TN.out⟩
    · have hltz : ¬ (i : Int) < (l.length : Int) := by omega
      have hil : i = l.length := by omega
      subst hil
      rw [List.take_length] at HI
      have E0 := hid ((efirst_ok (fun x : NV => enod x.n) l).2 HI.out.2)
      go_wp2_with fail
      go_end0
      exact Pt.yes E0.out HI.out.1.tn (by have := HI.out.1.wr; simpa [blst] using this)
theorem efirst_map {α β : Type} (f : α → β) (e : β → Nat) (l : List α) : efirst e (l.map f) = efirst (fun x => e (f x)) l := by
  induction l with
  | nil => rfl
  | cons x l ih => simp only [List.map_cons, efirst, ih]
theorem blst_map {α β : Type} (f : α → β) (g : β → List UInt8) (l : List α) : blst g (l.map f) = blst (fun x => g (f x)) l := by
  simp only [blst, List.length_map, List.flatMap_map]
/-- The graph that lies there. -/
abbrev gof (a : Int) (xs : List NV) (es : List Edg) : Gph := ⟨a, xs.map NV.n, es⟩
set_option maxHeartbeats 2000000 in
theorem lgraph_any {wb M : Nat} {v nv ev : Value} {L : List UInt8} {a : Int} {xs : List NV} {es : List Edg} (hT : GphT (gof a xs es)) (w : World) (hW : Wr w wb v L 0) (hM : Mm M wb v) (hG : GR M w nv ev xs es) (hl : L.length + 70000 ≤ 140737488355328) :
    Calls Try.prog 23 #[lv wb, .agg (gvc a nv ev)] w (Pt (egph (gof a xs es)) (bgph (gof a xs es)) wb v L w) := by
  have hmf : ∀ (fn : Fn) (first cap : Array Value) (w : World), (Instr.makeFunc fn first cap).run Try.prog w = .ok (.func fn first cap) w := fun _ _ _ _ => rfl
  have F0 := hid (Lf.start hW 25 (gvc a nv ev))
  have HM := hid hM
  have HG := hid hG
  obtain ⟨pn, cn, rfl⟩ := hG.nodes.form
  obtain ⟨pe, ce, rfl⟩ := hG.edges.form
  have hw1 := hG.wide.1
  have hw2 := hG.wide.2
  have hta := hT.1
  simp only at hta
  have hTn : ∀ x ∈ xs, NodT x.n := fun x hx => hT.2.1 x.n (List.mem_map.2 ⟨x, hx, rfl⟩)
  have hTe := hT.2.2
  simp only at hTe
  have EG : Hid (egph (gof a xs es) = if 24 < xs.length then 2 else if 48 < es.length then 2 else if a < 0 then 10 else if efirst (fun x : NV => enod x.n) xs ≠ 0 then efirst (fun x : NV => enod x.n) xs else efirst eedg es) := by
    show _ = _
    unfold egph
    simp only [List.length_map, efirst_map]
  have BG : Hid (bgph (gof a xs es) = bint a ++ (blst (fun x : NV => bnod x.n) xs ++ blst bedg es)) := by
    show _ = _
    unfold bgph
    simp only [blst_map]
  clear hW hM hG hT
  by_cases h24 : 24 < xs.length
  · have hat := fun W => atmost_bad xs.length 24 h24 W
    go_enter Try.func23, Try.ntmps23
    go_wp2_with (go_at_call 38; refine (hat _).mono ?_; rintro r w7 ⟨rfl, rfl⟩)
    exact ⟨rfl, Pt.no (by rw [EG.out, if_pos h24]) (by decide) F0.out.tn⟩
  · have hat := fun W => atmost_ok xs.length 24 (by omega) W
    go_enter Try.func23, Try.ntmps23
    go_wp2_with fail
    go_at_call 38
    refine (hat _).mono ?_
    rintro r w1 ⟨rfl, rfl⟩
    clear hat
    by_cases h48 : 48 < es.length
    · have hat := fun W => atmost_bad es.length 48 h48 W
      go_wp2_with (go_at_call 38; refine (hat _).mono ?_; rintro r w7 ⟨rfl, rfl⟩)
      exact ⟨rfl, Pt.no (by rw [EG.out, if_neg (by omega), if_pos h48]) (by decide) F0.out.tn⟩
    · have hat := fun W => atmost_ok es.length 48 (by omega) W
      go_wp2_with (go_at_call 38; refine (hat _).mono ?_; rintro r w7 ⟨rfl, rfl⟩)
      clear hat
      by_cases ha : a < 0
      · refine (lint_bad a 10 ha _).mono ?_
        rintro r w2 ⟨rfl, k2⟩
        go_wp2_with fail
        exact ⟨rfl, Pt.no (by rw [EG.out, if_neg (by omega), if_neg (by omega), if_pos (by omega)]) (by decide) (F0.out.tn.trans (Turn.of_below k2))⟩
      · refine (lint_ok a 10 (by omega) hta _ F0.out.wr (by omega)).mono ?_
        rintro r w2 ⟨v2, rfl, h2, k2⟩
        have F2 := hid (F0.out.call k2 h2)
        clear F0 h2 k2
        obtain ⟨⟨c0, l0⟩, ca, fa, la⟩ := F2.out.facts
        have t1 := bint_len hta
        go_wp2_with fail
        have G2 := HG.out.turn HM.out F2.out.tn
        refine (lnodel_any hTn _ F2.out.wr (HM.out.turn F2.out.tn F2.out.lt) G2.nodes G2.each G2.big (by omega) (by rw [List.length_append]; omega)).mono ?_
        intro r w3 h3
        by_cases e3 : efirst (fun x : NV => enod x.n) xs = 0
        · obtain ⟨v3, rfl, k3, h3⟩ := h3.good e3
          have F3 := hid (F2.out.call k3 h3)
          clear F2 h3 k3 c0 l0 ca fa la G2
          obtain ⟨⟨c0, l0⟩, ca, fa, la⟩ := F3.out.facts
          have t2 : (blst (fun x : NV => bnod x.n) xs).length ≤ 50000 := by
            have := bnods_len hTn ((efirst_ok (fun x : NV => enod x.n) xs).1 e3)
            have := form_ten (v := xs.length) (by omega)
            unfold blst
            rw [List.length_append]
            omega
          have E3 := hid e3
          clear e3
          go_wp2_with fail
          have G3 := HG.out.turn HM.out F3.out.tn
          refine (ledgel_any hTe _ F3.out.wr (HM.out.turn F3.out.tn F3.out.lt) G3.edges (by omega) (by simp only [List.length_append]; omega)).mono ?_
          intro r w4 h4
          have EE : Hid (egph (gof a xs es) = efirst eedg es) := by
            show _ = _
            rw [EG.out, if_neg (by omega), if_neg (by omega), if_neg (by omega), if_neg (by rw [E3.out]; simp)]
          by_cases e4 : efirst eedg es = 0
          · obtain ⟨v4, rfl, k4, h4⟩ := h4.good e4
            have F4 := hid (F3.out.call k4 h4)
            have E4 := hid e4
            clear F3 h4 k4 c0 l0 ca fa la G3 e4
            go_wp2_with fail
            go_end0
            refine Pt.yes (by rw [EE.out, E4.out]) F4.out.tn ?_
            rw [BG.out]
            have := F4.out.wr
            simpa using this
          · obtain ⟨v4, rfl, k4⟩ := h4.bad e4
            go_wp2_with fail
            exact ⟨rfl, Pt.no EE.out e4 (F3.out.tn.trans k4)⟩
        · obtain ⟨v3, rfl, k3⟩ := h3.bad e3
          have E3 := hid e3
          go_wp2_with fail
          exact ⟨rfl, Pt.no (by rw [EG.out, if_neg (by omega), if_neg (by omega), if_neg (by omega), if_pos E3.out]) E3.out (F2.out.tn.trans k3)⟩
end Go.Proofs.Ytkopmkmfigenlaa.Df
