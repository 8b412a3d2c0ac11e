import Derived.Test.YtpgodnaebkmhhaaGreatJ4
import Derived.BigQuiet
import Derived.Test.YtpgodnaebkmhhaaGreatJ2
namespace Go.Proofs.YtpgodnaebkmhhaaGreat.Df
open Go.RowKit Go.Sort
attribute [local go_sem ↓] Go.wp_at_zero Go.wp_at_succ
theorem infoSt : (Tryz.prog.info? 45).map (fun i => (i.zero, i.size, i.bytes)) = some (some (.agg #[.int .i64 0, .int .i64 0, .int .u64 0, .int .u64 0, .int .u64 0]), 5, 40) := by kernel_rfl
/-- The document's steps: connections first, then edges. -/
def sC (ns : List Nod) (i : Nat) (c : Con) : Con := ⟨((cIn ns i c : Nat) : Int), ((cOut ns i c : Nat) : Int), c.via⟩
def nodR (ns : List Nod) : Nat → List Con
  | 0 => []
  | i + 1 => nodR ns i ++ (connsAt ns (i : Int)).map (sC ns i)
def sE (ns : List Nod) (d : Edg) : Con := ⟨((outPl ns d : Nat) : Int), ((inPl ns d : Nat) : Int), (0, 0, 0)⟩
def stR (g : Gph) : List Con := nodR g.nodes g.nodes.length ++ g.edges.map (sE g.nodes)
def emR (g : Gph) : List Con := (stR g).filter isE
theorem nodR_len {g : Gph} (h : Gok g) (m : Nat) : (nodR g.nodes m).length ≤ 16 * m := by
  induction m with
  | zero => simp [nodR]
  | succ m ih =>
    unfold nodR
    rw [List.length_append, List.length_map]
    have h2 := h.conLen m
    omega
theorem stR_len {g : Gph} (h : Gok g) : (stR g).length ≤ 432 := by
  unfold stR
  rw [List.length_append, List.length_map]
  have h1 := nodR_len h g.nodes.length
  have h2 := h.nl
  have h3 := h.el
  omega
theorem nodR_mem {ns : List Nod} {m : Nat} {x : Con} : x ∈ nodR ns m ↔ ∃ i c, i < m ∧ c ∈ connsAt ns ((i : Nat) : Int) ∧ x = sC ns i c := by
  induction m with
  | zero => simp [nodR]
  | succ m ih =>
    unfold nodR
    rw [List.mem_append, ih]
    constructor
    · rintro (⟨i, c, h1, h2⟩ | h)
      · exact ⟨i, c, by omega, h2⟩
      · obtain ⟨c, hc, rfl⟩ := List.mem_map.1 h
        exact ⟨m, c, by omega, hc, rfl⟩
    · rintro ⟨i, c, h1, h2, rfl⟩
      by_cases e : i = m
      · subst e
        exact Or.inr (List.mem_map.2 ⟨c, h2, rfl⟩)
      · exact Or.inl ⟨i, c, by omega, h2, rfl⟩
/-- The empty steps of the document are those of the program. -/
theorem emR_mem {g : Gph} {x : Con} : x ∈ emR g ↔ ∃ p q : Nat, x = ⟨(p : Int), (q : Int), (0, 0, 0)⟩ ∧ (p, q) ∈ stS g := by
  unfold emR stR stS
  rw [List.mem_filter, List.mem_append, nodR_mem]
  constructor
  · rintro ⟨⟨i, c, h1, h2, rfl⟩ | h, he⟩
    · have hv : c.via = (0, 0, 0) := of_decide_eq_true he
      exact ⟨cIn g.nodes i c, cOut g.nodes i c, by simp [sC, hv], List.mem_append.2 (Or.inr (nodU_mem.2 ⟨i, c, h1, h2, by simp [isE, hv], rfl⟩))⟩
    · obtain ⟨d, hd, rfl⟩ := List.mem_map.1 h
      exact ⟨outPl g.nodes d, inPl g.nodes d, rfl, List.mem_append.2 (Or.inl (List.mem_map.2 ⟨d, hd, rfl⟩))⟩
  · rintro ⟨p, q, rfl, h⟩
    refine ⟨?_, by simp [isE]⟩
    rcases List.mem_append.1 h with h | h
    · obtain ⟨d, hd, e⟩ := List.mem_map.1 h
      unfold edgP at e
      simp only [Prod.mk.injEq] at e
      exact Or.inr (List.mem_map.2 ⟨d, hd, by unfold sE; rw [e.1, e.2]⟩)
    · obtain ⟨i, c, h1, h2, h3, e⟩ := nodU_mem.1 h
      unfold conS at e
      simp only [Prod.mk.injEq] at e
      have hv : c.via = (0, 0, 0) := of_decide_eq_true h3
      exact Or.inl ⟨i, c, h1, h2, by unfold sC; rw [← e.1, ← e.2, hv]⟩
theorem nr_of {M : Nat} {nv ev : Value} {a : Int} {xs : List NV} {es : List Edg} {W : World} (h : GR M W nv ev xs es) (hM : M ≤ W.heap.size) (hOK : Gok (gof a xs es)) : Nr W nv xs := ⟨h.nodes.up hM, by have := hOK.nl; simpa using this, hOK.pok⟩
set_option maxRecDepth 100000 in
set_option maxHeartbeats 8000000 in
theorem ksteps_any {M : Nat} {nv ev : Value} {a : Int} {xs : List NV} {es : List Edg} (w : World) (hG : GR M w nv ev xs es) (hM : M ≤ w.heap.size) (hOK : Gok (gof a xs es)) : Calls Tryz.prog 32 #[.agg (gvc a nv ev)] w (Cp EC 45 w (stR (gof a xs es))) := by
  have hmx : Tryz.prog.follows .mixedOrders = true := by kernel_rfl
  obtain ⟨W0, hW0⟩ : ∃ W, W = w.alloc (.cells (gvc a nv ev) 25) := ⟨_, rfl⟩
  obtain ⟨gb, hgb⟩ : ∃ b, b = w.heap.size := ⟨_, rfl⟩
  have g0 : Gr w W0 := by rw [hW0]; exact (Gr.refl w).alloc _
  have HB : Hid (W0.heap[gb]? = some (.cells (gvc a nv ev) 25 (0, 0)) ∧ Below w.heap.size w W0) := ⟨by rw [hW0, hgb]; exact heap_new' _ _, g0.below⟩
  have HW : Hid (w.alloc (.cells #[.int .i64 a, nv, ev] 25) = W0 ∧ w.heap.size = gb) := ⟨hW0.symm, hgb.symm⟩
  have HG : Hid (∀ W, Below W0.heap.size W0 W → GR M W nv ev xs es ∧ Nr W nv xs) := fun W hb => ⟨(hG.below g0.below).below hb, nr_of ((hG.below g0.below).below hb) (Nat.le_trans (Nat.le_trans hM g0.below.size) hb.size) hOK⟩
  have HMM : Hid (M ≤ W0.heap.size) := Nat.le_trans hM g0.below.size
  obtain ⟨qn, cn, hnv⟩ := hG.nodes.form
  obtain ⟨qe, ce, hev⟩ := hG.edges.form
  subst hnv
  subst hev
  obtain ⟨nl, hnl⟩ : ∃ n, n = xs.length := ⟨_, rfl⟩
  obtain ⟨el, hel⟩ : ∃ n, n = es.length := ⟨_, rfl⟩
  obtain ⟨ns, hns⟩ : ∃ ns, ns = xs.map NV.n := ⟨_, rfl⟩
  have hnsl : ns.length = nl := by rw [hns, hnl]; simp
  have h24 : nl ≤ 24 := by have := hOK.nl; rw [hnl]; simpa using this
  have h48 : el ≤ 48 := by have := hOK.el; rw [hel]; exact this
  have HNL : Hid (nl = xs.length ∧ el = es.length ∧ ns = xs.map NV.n ∧ ns.length = nl) := ⟨hnl, hel, hns, hnsl⟩
  have HOK := hid hOK
  have HSR : Hid (stR (gof a xs es) = nodR ns nl ++ es.map (sE ns)) := by show nodR (xs.map NV.n) (xs.map NV.n).length ++ es.map (sE (xs.map NV.n)) = _; rw [← hns, hnsl]
  rw [← hnl] at HB HW HG ⊢
  rw [← hel] at HB HW HG ⊢
  have c0 := (tk_store HB.out.1).1
  have l0 := tk_lt HB.out.1
  clear hG hM hW0 hgb g0 hOK hnl hel hns hnsl
  go_enter Tryz.func32, Tryz.ntmps32
  go_upto_region 1 with fail
  rw [HW.out.1, HW.out.2]
  clear HW
  go_wp2_with fail
  clear c0 l0
  go_loopw [3, 4] (fun s3 s4 wr => ∃ (i : Nat) (lv : Value), i ≤ nl ∧ s4 = .int .i64 (i : Nat) ∧ lv = s3 ∧ Hid (Below W0.heap.size W0 wr ∧ wr.ownsRow W0.heap.size 45 5 lv (nodR ns i).length (fl EC (nodR ns i)))) (fun _ s4 _ => nl - (RowKit.intOf s4).toNat)
  case atStart => exact ⟨0, _, Nat.zero_le _, rfl, rfl, Below.refl _ _, World.ownsRow_nil _ _ _ _⟩
  case round =>
    obtain ⟨i, lv, hi, rfl, rfl, HI⟩ := hrel
    have hb0 := (HI.out.1.block _ (tk_lt HB.out.1)).trans HB.out.1
    have c1 := (tk_store hb0).1
    have l1 := tk_lt hb0
    clear hb0
    by_cases hlt : i < nl
    · have hltz : (i : Int) < (nl : Int) := by omega
      have hi0 : (0 : Int) ≤ (i : Int) := by omega
      obtain ⟨y, hy⟩ : ∃ y, xs[i]? = some y := ⟨xs[i]'(by have := HNL.out.1; omega), by simp⟩
      have HYN : Hid (xs[i]? = some y ∧ ns[i]? = some y.n ∧ connsAt ns (i : Int) = connsN y.n) := by
        have e1 : ns[i]? = some y.n := by rw [HNL.out.2.2.1]; simp [hy]
        exact ⟨hy, e1, by rw [connsAt_nat, e1]⟩
      have hfl : nflaw a y.n = 0 := HOK.out.ng i y.n (by have := HNL.out.1; simpa using (by omega : i < xs.length)) (by simp [hy])
      have hcon := kconns_any wr ((HG.out wr HI.out.1).1.each y (List.mem_of_getElem? hy)).conns (Nat.le_trans HMM.out HI.out.1.size) hfl
      obtain ⟨b1, o1, q1, ev1, zz1, x0, x1, x2, x3, x4, x5, x6, x7, x8, x9⟩ := ls_atV ((HG.out wr HI.out.1).1.nodes.ls hy) hy
      simp only [Value.slice.injEq] at ev1
      obtain ⟨rfl, -, rfl⟩ := ev1
      have HCL : Hid ((connsN y.n).length ≤ 16) := connsN_len hfl
      obtain ⟨cs, hcs⟩ : ∃ l, l = connsN y.n := ⟨_, rfl⟩
      rw [← hcs] at hcon HCL
      have HCS := hid hcs
      have hcl9 := HCL.out
      clear hy hfl hcs
      go_wp2_with fail
      refine hcon.mono ?_
      clear hcon c1 l1 x0 x1 x2 x3 x4 x5 x6 x7 x8 x9 zz1
      rintro r w5 ⟨cv, rfl, hb5, hrs⟩
      obtain ⟨pc, cc, rfl⟩ := hrs.1.form
      have S5 : Hid (Below W0.heap.size W0 w5 ∧ w5.ownsRow W0.heap.size 45 5 lv (nodR ns i).length (fl EC (nodR ns i)) ∧ Rs M w5 (.slice pc cs.length cc) cs) := ⟨HI.out.1.trans (hb5.mono HI.out.1.size), owns_below HI.out.2 hb5, hrs⟩
      obtain ⟨cl, hcl⟩ : ∃ n, n = cs.length := ⟨_, rfl⟩
      rw [← hcl] at S5 hcl9 ⊢
      have HCLN := hid hcl
      clear hb5 hrs HI hcl
      go_wp2_with fail
      go_loopw [3, 6] (fun s3 s6 wr => ∃ (k : Nat) (lv : Value), k ≤ cl ∧ s6 = .int .i64 (k : Nat) ∧ lv = s3 ∧ Hid (Below W0.heap.size W0 wr ∧ wr.ownsRow W0.heap.size 45 5 lv (nodR ns i ++ (cs.take k).map (sC ns i)).length (fl EC (nodR ns i ++ (cs.take k).map (sC ns i))) ∧ Rs M wr (.slice pc cl cc) cs)) (fun _ s6 _ => cl - (RowKit.intOf s6).toNat)
      case atStart => exact ⟨0, _, Nat.zero_le _, rfl, rfl, by have h := S5.out; show _ ∧ _ ∧ _; simpa using h⟩
      case round =>
        clear S5
        obtain ⟨k, lv, hk, rfl, rfl, HI⟩ := hrel
        by_cases hlk : k < cl
        · have hlkz : (k : Int) < (cl : Int) := by omega
          have hk0 : (0 : Int) ≤ (k : Int) := by omega
          obtain ⟨z, hz⟩ : ∃ z, cs[k]? = some z := ⟨cs[k]'(by have := HCLN.out; omega), by simp⟩
          have hhas := HOK.out.con (g := gof a xs es) (i := i) (c := z) (by rw [show (gof a xs es).nodes = ns from HNL.out.2.2.1.symm, HYN.out.2.2, ← HCS.out]; exact List.mem_of_getElem? hz)
          rw [show (gof a xs es).nodes = ns from HNL.out.2.2.1.symm] at hhas
          obtain ⟨b2, o2, q2, ev2, zz2, y0, y1, y2, y3, y4⟩ := ls_atC (HI.out.2.2.1.ls hz) hz
          simp only [Value.slice.injEq] at ev2
          obtain ⟨rfl, -, rfl⟩ := ev2
          obtain ⟨_, hn1, _, _, hz1, hz2⟩ := has_in hhas.1
          obtain ⟨_, hn2, _, _, hz3, hz4⟩ := has_out hhas.2
          have hp2 := HOK.out.pok
          rw [show (gof a xs es).nodes = ns from HNL.out.2.2.1.symm] at hp2
          rw [show ((i : Nat) : Int).toNat = i by omega, HYN.out.2.1] at hn1 hn2
          obtain rfl := Option.some.inj hn1
          obtain rfl := Option.some.inj hn2
          have hpy := hp2 y.n (List.mem_of_getElem? HYN.out.2.1)
          have HCALL : Hid (∀ W, Below wr.heap.size wr W → Calls Tryz.prog 60 #[.agg (gvc a (.slice (some ⟨b1, o1, none⟩) nl cn) (.slice qe el ce)), .int .i64 (i : Nat), .int .i64 z.inn] W fun r w' => r = .returned (.int .i64 ((cIn ns i z : Nat) : Int)) ∧ Gr W w') := fun W hb => by
            have h := kin_any (ev := .slice qe el ce) (a := a) i z.inn hz1 (by omega) (by have := HNL.out.1; omega) W (HG.out W (HI.out.1.trans (hb.mono HI.out.1.size))).2
            rw [← HNL.out.2.2.1] at h
            refine h.mono (fun r w' hr => ⟨hr.1.trans ?_, hr.2⟩)
            congr 2
            unfold cIn
            push_cast
            omega
          have HCALL2 : Hid (∀ W, Below wr.heap.size wr W → Calls Tryz.prog 61 #[.agg (gvc a (.slice (some ⟨b1, o1, none⟩) nl cn) (.slice qe el ce)), .int .i64 (i : Nat), .int .i64 z.out] W fun r w' => r = .returned (.int .i64 ((cOut ns i z : Nat) : Int)) ∧ Gr W w') := fun W hb => by
            have h := kout_any (ev := .slice qe el ce) (a := a) i z.out y HYN.out.1 hz3 (by omega) W (HG.out W (HI.out.1.trans (hb.mono HI.out.1.size))).2
            rw [← HNL.out.2.2.1] at h
            refine h.mono (fun r w' hr => ⟨hr.1.trans ?_, hr.2⟩)
            congr 2
            unfold cOut
            rw [HYN.out.2.1]
            push_cast
            omega
          obtain ⟨ln, hln⟩ : ∃ l, l = nodR ns i ++ (cs.take k).map (sC ns i) := ⟨_, rfl⟩
          have HNX : Hid (ln ++ [sC ns i z] = nodR ns i ++ (cs.take (k + 1)).map (sC ns i)) := by
            show _ = _
            rw [hln, List.take_add_one, hz]
            simp
          have HLE : Hid (ln.length ≤ 500) := by
            have h1 := nodR_len HOK.out i
            rw [show (gof a xs es).nodes = ns from HNL.out.2.2.1.symm] at h1
            show _ ≤ _
            rw [hln, List.length_append, List.length_map, List.length_take]
            omega
          have hI := HI.out
          rw [← hln] at hI
          have HRW := hid hI.2.1
          have HRS := hid hI.2.2
          have HBL := hid hI.1
          have HBW := hid hI.1.size
          have HD : Hid ((wr.heap[gb]? = some (.cells (gvc a (.slice (some ⟨b1, o1, none⟩) nl cn) (.slice qe el ce)) 25 (0, 0))) ∧ b2 < wr.heap.size ∧ wr.cell? ⟨b2, o2 + k * 5, none⟩ = some (.int .i64 z.inn) ∧ wr.cell? ⟨b2, o2 + k * 5 + 1, none⟩ = some (.int .i64 z.out) ∧ wr.cell? ⟨b2, o2 + k * 5 + 2, none⟩ = some (.int .u64 (z.via.1 : Nat)) ∧ wr.cell? ⟨b2, o2 + k * 5 + 3, none⟩ = some (.int .u64 (z.via.2.1 : Nat)) ∧ wr.cell? ⟨b2, o2 + k * 5 + 4, none⟩ = some (.int .u64 (z.via.2.2 : Nat))) := ⟨(HI.out.1.block _ (tk_lt HB.out.1)).trans HB.out.1, zz2, y0, y1, y2, y3, y4⟩
          obtain ⟨ci, hci⟩ : ∃ k, k = cIn ns i z := ⟨_, rfl⟩
          obtain ⟨co, hco⟩ : ∃ k, k = cOut ns i z := ⟨_, rfl⟩
          rw [← hci] at HCALL
          rw [← hco] at HCALL2
          have HEL : Hid (sC ns i z = ⟨(ci : Int), (co : Int), z.via⟩) := by show _ = _; unfold sC; rw [hci, hco]
          clear HI hI hz hhas hz1 hz2 hz3 hz4 hpy hp2 hn1 hn2 hln y0 y1 y2 y3 y4 zz2 hci hco
          go_upto_region 9 with fail
          obtain ⟨W6, hW6⟩ : ∃ W, W = wr := ⟨_, rfl⟩
          rw [← hW6] at HCALL HCALL2 HRW HRS HBL HBW HD ⊢
          clear hW6
          have hB0 : Below W6.heap.size W6 W6.drew := (Gr.refl W6).drew.below
          have HSK : Hid (∀ (S : Nat → Prop) (W1 W : World), Below W6.heap.size W6 W1 → Kp S W1 W → ¬ S gb → ¬ S b2 → W.heap[gb]? = some (.cells (gvc a (.slice (some ⟨b1, o1, none⟩) nl cn) (.slice qe el ce)) 25 (0, 0)) ∧ b2 < W.heap.size ∧ W.cell? ⟨b2, o2 + k * 5, none⟩ = some (.int .i64 z.inn) ∧ W.cell? ⟨b2, o2 + k * 5 + 1, none⟩ = some (.int .i64 z.out) ∧ W.cell? ⟨b2, o2 + k * 5 + 2, none⟩ = some (.int .u64 (z.via.1 : Nat)) ∧ W.cell? ⟨b2, o2 + k * 5 + 3, none⟩ = some (.int .u64 (z.via.2.1 : Nat)) ∧ W.cell? ⟨b2, o2 + k * 5 + 4, none⟩ = some (.int .u64 (z.via.2.2 : Nat))) := fun S W1 W hb hk h1 h2 => by
            have hc : ∀ (o : Nat) (x : Value), W6.cell? ⟨b2, o, none⟩ = some x → W.cell? ⟨b2, o, none⟩ = some x := fun o x hx => (hk.cell (b := b2) (o := o) (Nat.lt_of_lt_of_le HD.out.2.1 hb.size) h2).trans ((hb.cell (p := ⟨b2, o, none⟩) HD.out.2.1).trans hx)
            exact ⟨(hk.block _ (Nat.lt_of_lt_of_le (tk_lt HD.out.1) hb.size) h1).trans ((hb.block _ (tk_lt HD.out.1)).trans HD.out.1), Nat.lt_of_lt_of_le HD.out.2.1 (Nat.le_trans hb.size hk.size), hc _ _ HD.out.2.2.1, hc _ _ HD.out.2.2.2.1, hc _ _ HD.out.2.2.2.2.1, hc _ _ HD.out.2.2.2.2.2.1, hc _ _ HD.out.2.2.2.2.2.2⟩
          have HSB : Hid (∀ W, Below W6.heap.size W6 W → W.heap[gb]? = some (.cells (gvc a (.slice (some ⟨b1, o1, none⟩) nl cn) (.slice qe el ce)) 25 (0, 0)) ∧ b2 < W.heap.size ∧ W.cell? ⟨b2, o2 + k * 5, none⟩ = some (.int .i64 z.inn) ∧ W.cell? ⟨b2, o2 + k * 5 + 1, none⟩ = some (.int .i64 z.out) ∧ W.cell? ⟨b2, o2 + k * 5 + 2, none⟩ = some (.int .u64 (z.via.1 : Nat)) ∧ W.cell? ⟨b2, o2 + k * 5 + 3, none⟩ = some (.int .u64 (z.via.2.1 : Nat)) ∧ W.cell? ⟨b2, o2 + k * 5 + 4, none⟩ = some (.int .u64 (z.via.2.2 : Nat))) := fun W hb => HSK.out (fun _ => False) W W hb (Kp.refl _ _) id id
          have HNB : Hid (∀ j, lv.ownBlock = some j → j ≠ gb ∧ j ≠ b2) := fun j e => ⟨fun e2 => owns_ne_blk HRW.out HD.out.1 (by decide) j e e2, fun e2 => by
            rcases HRS.out.2 with e3 | h3
            · have := HCLN.out
              rw [e3] at this
              simp at this
              omega
            · rcases h3 b2 rfl with h4 | ⟨csx, zx, h4⟩
              · have h5 := (owns_rd HRW.out j e).1
                have h6 := HMM.out
                omega
              · exact owns_ne_blk HRW.out h4 (by decide) j e e2⟩
          have hS0 := HSB.out _ hB0
          refine wp_regionD (S := fun W => W.heap[gb]? = some (.cells (gvc a (.slice (some ⟨b1, o1, none⟩) nl cn) (.slice qe el ce)) 25 (0, 0)) ∧ b2 < W.heap.size ∧ W.cell? ⟨b2, o2 + k * 5, none⟩ = some (.int .i64 z.inn) ∧ W.cell? ⟨b2, o2 + k * 5 + 1, none⟩ = some (.int .i64 z.out) ∧ W.cell? ⟨b2, o2 + k * 5 + 2, none⟩ = some (.int .u64 (z.via.1 : Nat)) ∧ W.cell? ⟨b2, o2 + k * 5 + 3, none⟩ = some (.int .u64 (z.via.2.1 : Nat)) ∧ W.cell? ⟨b2, o2 + k * 5 + 4, none⟩ = some (.int .u64 (z.via.2.2 : Nat))) (D := []) hmx ?_
          refine' wpAnyD_take (i := 0) (oi := { dst := some 28, op := Go.Op.move (Go.Operand.tmp 3), type := 38, pos := "ref.go:58", after := #[], guard := none }) (v := _) rfl (by kernel_rfl) (by kernel_rfl) (by kernel_rfl) (fun _ _ _ h => h) (by kernel_rfl) (Or.inl ⟨by rfl, ?hy1⟩) hS0 ?rest1
          case hy1 => (intro W hSw; go_simp; try (with_reducible rfl))
          try simp only [Act.put, List.setIfInBounds_toArray, List.set_cons_zero, List.set_cons_succ]
          refine' wpAnyD_take (i := 1) (oi := { dst := some 29, op := Go.Op.load 25 (Go.Operand.tmp 1), type := 25, pos := "ref.go:58", after := #[], guard := none }) (v := _) rfl (by kernel_rfl) (by kernel_rfl) (by kernel_rfl) (fun _ _ _ h => h) (by kernel_rfl) (Or.inl ⟨by rfl, ?hy2⟩) hS0 ?rest2
          case hy2 => (intro W hSw; have hc := (tk_store hSw.1).1; have hl := tk_lt hSw.1; go_simp; try (with_reducible rfl))
          try simp only [Act.put, List.setIfInBounds_toArray, List.set_cons_zero, List.set_cons_succ]
          refine' wpAnyD_take (i := 2) (oi := { dst := some 30, op := Go.Op.move (Go.Operand.tmp 4), type := 3, pos := "ref.go:58", after := #[], guard := none }) (v := _) rfl (by kernel_rfl) (by kernel_rfl) (by kernel_rfl) (fun _ _ _ h => h) (by kernel_rfl) (Or.inl ⟨by rfl, ?hy3⟩) hS0 ?rest3
          case hy3 => (intro W hSw; go_simp; try (with_reducible rfl))
          try simp only [Act.put, List.setIfInBounds_toArray, List.set_cons_zero, List.set_cons_succ]
          refine' wpAnyD_take (i := 3) (oi := { dst := some 31, op := Go.Op.move (Go.Operand.tmp 5), type := 56, pos := "ref.go:58", after := #[], guard := none }) (v := _) rfl (by kernel_rfl) (by kernel_rfl) (by kernel_rfl) (fun _ _ _ h => h) (by kernel_rfl) (Or.inl ⟨by rfl, ?hy4⟩) hS0 ?rest4
          case hy4 => (intro W hSw; go_simp; try (with_reducible rfl))
          try simp only [Act.put, List.setIfInBounds_toArray, List.set_cons_zero, List.set_cons_succ]
          refine' wpAnyD_take (i := 4) (oi := { dst := some 32, op := Go.Op.move (Go.Operand.tmp 6), type := 3, pos := "ref.go:58", after := #[], guard := none }) (v := _) rfl (by kernel_rfl) (by kernel_rfl) (by kernel_rfl) (fun _ _ _ h => h) (by kernel_rfl) (Or.inl ⟨by rfl, ?hy5⟩) hS0 ?rest5
          case hy5 => (intro W hSw; go_simp; try (with_reducible rfl))
          try simp only [Act.put, List.setIfInBounds_toArray, List.set_cons_zero, List.set_cons_succ]
          refine' wpAnyD_take (i := 5) (oi := { dst := some 33, op := Go.Op.indexAddr 56 (Go.Operand.tmp 31) (Go.Operand.tmp 32), type := 0, pos := "ref.go:58", after := #[{ on := 3, ground := Go.Ground.data }, { on := 4, ground := Go.Ground.data }], guard := none }) (v := _) rfl (by kernel_rfl) (by kernel_rfl) (by kernel_rfl) (fun _ _ _ h => h) (by kernel_rfl) (Or.inl ⟨by rfl, ?hy6⟩) hS0 ?rest6
          case hy6 => (intro W hSw; go_simp; try (with_reducible rfl))
          try simp only [Act.put, List.setIfInBounds_toArray, List.set_cons_zero, List.set_cons_succ]
          refine' wpAnyD_take (i := 6) (oi := { dst := some 34, op := Go.Op.fieldAddr 72 (Go.Operand.tmp 33) 0, type := 0, pos := "ref.go:58", after := #[{ on := 5, ground := Go.Ground.data }], guard := none }) (v := _) rfl (by kernel_rfl) (by kernel_rfl) (by kernel_rfl) (fun _ _ _ h => h) (by kernel_rfl) (Or.inl ⟨by rfl, ?hy7⟩) hS0 ?rest7
          case hy7 => (intro W hSw; go_simp; try (with_reducible rfl))
          try simp only [Act.put, List.setIfInBounds_toArray, List.set_cons_zero, List.set_cons_succ]
          refine' wpAnyD_take (i := 7) (oi := { dst := some 35, op := Go.Op.load 3 (Go.Operand.tmp 34), type := 3, pos := "ref.go:58", after := #[{ on := 6, ground := Go.Ground.data }], guard := none }) (v := _) rfl (by kernel_rfl) (by kernel_rfl) (by kernel_rfl) (fun _ _ _ h => h) (by kernel_rfl) (Or.inl ⟨by rfl, ?hy8⟩) hS0 ?rest8
          case hy8 => (intro W hSw; have hc := hSw.2.2.1; have hl := hSw.2.1; go_simp; try (with_reducible rfl))
          try simp only [Act.put, List.setIfInBounds_toArray, List.set_cons_zero, List.set_cons_succ]
          refine' wpAnyD_take (i := 9) (oi := { dst := some 37, op := Go.Op.load 25 (Go.Operand.tmp 1), type := 25, pos := "ref.go:58", after := #[], guard := none }) (v := _) rfl (by kernel_rfl) (by kernel_rfl) (by kernel_rfl) (fun _ _ _ h => h) (by kernel_rfl) (Or.inl ⟨by rfl, ?hy9⟩) hS0 ?rest9
          case hy9 => (intro W hSw; have hc := (tk_store hSw.1).1; have hl := tk_lt hSw.1; go_simp; try (with_reducible rfl))
          try simp only [Act.put, List.setIfInBounds_toArray, List.set_cons_zero, List.set_cons_succ]
          refine' wpAnyD_take (i := 10) (oi := { dst := some 38, op := Go.Op.move (Go.Operand.tmp 4), type := 3, pos := "ref.go:58", after := #[], guard := none }) (v := _) rfl (by kernel_rfl) (by kernel_rfl) (by kernel_rfl) (fun _ _ _ h => h) (by kernel_rfl) (Or.inl ⟨by rfl, ?hy10⟩) hS0 ?rest10
          case hy10 => (intro W hSw; go_simp; try (with_reducible rfl))
          try simp only [Act.put, List.setIfInBounds_toArray, List.set_cons_zero, List.set_cons_succ]
          refine' wpAnyD_take (i := 11) (oi := { dst := some 39, op := Go.Op.move (Go.Operand.tmp 5), type := 56, pos := "ref.go:58", after := #[], guard := none }) (v := _) rfl (by kernel_rfl) (by kernel_rfl) (by kernel_rfl) (fun _ _ _ h => h) (by kernel_rfl) (Or.inl ⟨by rfl, ?hy11⟩) hS0 ?rest11
          case hy11 => (intro W hSw; go_simp; try (with_reducible rfl))
          try simp only [Act.put, List.setIfInBounds_toArray, List.set_cons_zero, List.set_cons_succ]
          refine' wpAnyD_take (i := 12) (oi := { dst := some 40, op := Go.Op.move (Go.Operand.tmp 6), type := 3, pos := "ref.go:58", after := #[], guard := none }) (v := _) rfl (by kernel_rfl) (by kernel_rfl) (by kernel_rfl) (fun _ _ _ h => h) (by kernel_rfl) (Or.inl ⟨by rfl, ?hy12⟩) hS0 ?rest12
          case hy12 => (intro W hSw; go_simp; try (with_reducible rfl))
          try simp only [Act.put, List.setIfInBounds_toArray, List.set_cons_zero, List.set_cons_succ]
          refine' wpAnyD_take (i := 13) (oi := { dst := some 41, op := Go.Op.indexAddr 56 (Go.Operand.tmp 39) (Go.Operand.tmp 40), type := 0, pos := "ref.go:58", after := #[{ on := 11, ground := Go.Ground.data }, { on := 12, ground := Go.Ground.data }], guard := none }) (v := _) rfl (by kernel_rfl) (by kernel_rfl) (by kernel_rfl) (fun _ _ _ h => h) (by kernel_rfl) (Or.inl ⟨by rfl, ?hy13⟩) hS0 ?rest13
          case hy13 => (intro W hSw; go_simp; try (with_reducible rfl))
          try simp only [Act.put, List.setIfInBounds_toArray, List.set_cons_zero, List.set_cons_succ]
          refine' wpAnyD_take (i := 14) (oi := { dst := some 42, op := Go.Op.fieldAddr 72 (Go.Operand.tmp 41) 1, type := 0, pos := "ref.go:58", after := #[{ on := 13, ground := Go.Ground.data }], guard := none }) (v := _) rfl (by kernel_rfl) (by kernel_rfl) (by kernel_rfl) (fun _ _ _ h => h) (by kernel_rfl) (Or.inl ⟨by rfl, ?hy14⟩) hS0 ?rest14
          case hy14 => (intro W hSw; go_simp; try (with_reducible rfl))
          try simp only [Act.put, List.setIfInBounds_toArray, List.set_cons_zero, List.set_cons_succ]
          refine' wpAnyD_take (i := 15) (oi := { dst := some 43, op := Go.Op.load 3 (Go.Operand.tmp 42), type := 3, pos := "ref.go:58", after := #[{ on := 14, ground := Go.Ground.data }], guard := none }) (v := _) rfl (by kernel_rfl) (by kernel_rfl) (by kernel_rfl) (fun _ _ _ h => h) (by kernel_rfl) (Or.inl ⟨by rfl, ?hy15⟩) hS0 ?rest15
          case hy15 => (intro W hSw; have hc := hSw.2.2.2.1; have hl := hSw.2.1; go_simp; try (with_reducible rfl))
          try simp only [Act.put, List.setIfInBounds_toArray, List.set_cons_zero, List.set_cons_succ]
          refine' wpAnyD_take (i := 17) (oi := { dst := some 45, op := Go.Op.move (Go.Operand.tmp 5), type := 56, pos := "ref.go:58", after := #[], guard := none }) (v := _) rfl (by kernel_rfl) (by kernel_rfl) (by kernel_rfl) (fun _ _ _ h => h) (by kernel_rfl) (Or.inl ⟨by rfl, ?hy16⟩) hS0 ?rest16
          case hy16 => (intro W hSw; go_simp; try (with_reducible rfl))
          try simp only [Act.put, List.setIfInBounds_toArray, List.set_cons_zero, List.set_cons_succ]
          refine' wpAnyD_take (i := 18) (oi := { dst := some 46, op := Go.Op.move (Go.Operand.tmp 6), type := 3, pos := "ref.go:58", after := #[], guard := none }) (v := _) rfl (by kernel_rfl) (by kernel_rfl) (by kernel_rfl) (fun _ _ _ h => h) (by kernel_rfl) (Or.inl ⟨by rfl, ?hy17⟩) hS0 ?rest17
          case hy17 => (intro W hSw; go_simp; try (with_reducible rfl))
          try simp only [Act.put, List.setIfInBounds_toArray, List.set_cons_zero, List.set_cons_succ]
          refine' wpAnyD_take (i := 19) (oi := { dst := some 47, op := Go.Op.indexAddr 56 (Go.Operand.tmp 45) (Go.Operand.tmp 46), type := 0, pos := "ref.go:58", after := #[{ on := 17, ground := Go.Ground.data }, { on := 18, ground := Go.Ground.data }], guard := none }) (v := _) rfl (by kernel_rfl) (by kernel_rfl) (by kernel_rfl) (fun _ _ _ h => h) (by kernel_rfl) (Or.inl ⟨by rfl, ?hy18⟩) hS0 ?rest18
          case hy18 => (intro W hSw; go_simp; try (with_reducible rfl))
          try simp only [Act.put, List.setIfInBounds_toArray, List.set_cons_zero, List.set_cons_succ]
          refine' wpAnyD_take (i := 20) (oi := { dst := some 48, op := Go.Op.fieldAddr 72 (Go.Operand.tmp 47) 2, type := 0, pos := "ref.go:58", after := #[{ on := 19, ground := Go.Ground.data }], guard := none }) (v := _) rfl (by kernel_rfl) (by kernel_rfl) (by kernel_rfl) (fun _ _ _ h => h) (by kernel_rfl) (Or.inl ⟨by rfl, ?hy19⟩) hS0 ?rest19
          case hy19 => (intro W hSw; go_simp; try (with_reducible rfl))
          try simp only [Act.put, List.setIfInBounds_toArray, List.set_cons_zero, List.set_cons_succ]
          refine' wpAnyD_take (i := 21) (oi := { dst := some 49, op := Go.Op.load 43 (Go.Operand.tmp 48), type := 43, pos := "ref.go:58", after := #[{ on := 20, ground := Go.Ground.data }], guard := none }) (v := _) rfl (by kernel_rfl) (by kernel_rfl) (by kernel_rfl) (fun _ _ _ h => h) (by kernel_rfl) (Or.inl ⟨by rfl, ?hy20⟩) hS0 ?rest20
          case hy20 => (intro W hSw; have hc1 := hSw.2.2.2.2.1; have hc2 := hSw.2.2.2.2.2.1; have hc3 := hSw.2.2.2.2.2.2; have hl := hSw.2.1; go_simp; try (with_reducible rfl))
          try simp only [Act.put, List.setIfInBounds_toArray, List.set_cons_zero, List.set_cons_succ]
          refine wpAnyD_one (i := 8) (o := { dst := some 36, op := Go.Op.call { callee := Go.Callee.value (Go.Operand.func 60), args := #[Go.Operand.tmp 29, Go.Operand.tmp 30, Go.Operand.tmp 35], argTypes := #[25, 3, 3] }, type := 3, pos := "ref.go:58", after := #[{ on := 1, ground := Go.Ground.data }, { on := 2, ground := Go.Ground.data }, { on := 7, ground := Go.Ground.data }], guard := none }) (by kernel_rfl) rfl (fun K hK => ?_)
          go_simp
          refine (HCALL.out _ hB0).mono ?_
          rintro r w7 ⟨rfl, g7⟩
          have hS7 : Below W6.heap.size W6 w7 := hB0.trans (g7.below.mono hB0.size)
          clear g7
          go_wp2_with fail
          refine hK.out _ _ (fun hD => (HSB.out _ hS7)) ?_
          clear hK K
          try simp only [Act.put, List.setIfInBounds_toArray, List.set_cons_zero, List.set_cons_succ]
          refine wpAnyD_one (i := 16) (o := { dst := some 44, op := Go.Op.call { callee := Go.Callee.value (Go.Operand.func 61), args := #[Go.Operand.tmp 37, Go.Operand.tmp 38, Go.Operand.tmp 43], argTypes := #[25, 3, 3] }, type := 3, pos := "ref.go:58", after := #[{ on := 9, ground := Go.Ground.data }, { on := 10, ground := Go.Ground.data }, { on := 15, ground := Go.Ground.data }, { on := 8, ground := Go.Ground.chain }], guard := none }) (by kernel_rfl) rfl (fun K hK => ?_)
          go_simp
          refine (HCALL2.out _ hS7).mono ?_
          rintro r w8 ⟨rfl, g8⟩
          have hS8 : Below W6.heap.size W6 w8 := hS7.trans (g8.below.mono hS7.size)
          clear g8
          go_wp2_with fail
          refine hK.out _ _ (fun hD => (HSB.out _ hS8)) ?_
          clear hK K
          try simp only [Act.put, List.setIfInBounds_toArray, List.set_cons_zero, List.set_cons_succ]
          refine' wpAnyD_take (i := 22) (oi := { dst := some 50, op := Go.Op.build 45 #[(0, Go.Operand.tmp 36), (1, Go.Operand.tmp 44), (2, Go.Operand.tmp 49)], type := 45, pos := "ref.go:58", after := #[{ on := 8, ground := Go.Ground.data }, { on := 16, ground := Go.Ground.data }, { on := 21, ground := Go.Ground.data }], guard := none }) (v := _) rfl (by kernel_rfl) (by kernel_rfl) (by kernel_rfl) (fun _ _ _ h => h) (by kernel_rfl) (Or.inl ⟨by rfl, ?hy23⟩) (HSB.out _ hS8) ?rest23
          case hy23 => (intro W hSw; go_simp; try (with_reducible rfl))
          try simp only [Act.put, List.setIfInBounds_toArray, List.set_cons_zero, List.set_cons_succ]
          refine wpAnyD_one (i := 23) (o := { dst := some 51, op := Go.Op.buildSlice 38 1 #[(0, Go.Operand.tmp 50)], type := 38, pos := "ref.go:58", after := #[{ on := 22, ground := Go.Ground.data }], guard := none }) (by kernel_rfl) rfl (fun K hK => ?_)
          go_simp
          have hS9 : Below W6.heap.size W6 (w8.alloc (.cells #[.int .i64 ((ci : Nat) : Int), .int .i64 ((co : Nat) : Int), .int .u64 (z.via.1 : Nat), .int .u64 (z.via.2.1 : Nat), .int .u64 (z.via.2.2 : Nat)] 45)) := hS8.trans (((Gr.refl w8).alloc _).below.mono hS8.size)
          refine hK.out _ _ (fun hD => (HSB.out _ hS9)) ?_
          clear hK K
          try simp only [Act.put, List.setIfInBounds_toArray, List.set_cons_zero, List.set_cons_succ]
          refine wpAnyD_one (i := 24) (o := { dst := some 52, op := Go.Op.call { callee := Go.Callee.builtin Go.Builtin.append, args := #[Go.Operand.tmp 28, Go.Operand.tmp 51], argTypes := #[38, 38] }, type := 38, pos := "ref.go:58", after := #[{ on := 0, ground := Go.Ground.data }, { on := 23, ground := Go.Ground.data }, { on := 16, ground := Go.Ground.chain }], guard := none }) (by kernel_rfl) rfl (fun K hK => ?_)
          refine step_app1 EC Tryz.underlying38 infoSt rfl (by decide) rfl _ _ rfl W0.heap.size lv ln.length (fl EC ln) rfl (owns_below HRW.out hS8) (⟨((ci : Nat) : Int), ((co : Nat) : Int), z.via⟩ : Con) (by first | rfl | simp) (by have := HLE.out; omega) (by have := HLE.out; unfold maxLen; omega) (Nat.le_trans HBW.out hS8.size) _ rfl _ ?_
          intro g9 c9 w9 h9 k9 n9
          have K9 := Kp.grownBy (S := fun j => lv.ownBlock = some j) k9.out (fun _ h => h)
          have ST : Hid (Below W0.heap.size W0 w9 ∧ w9.ownsRow W0.heap.size 45 5 (.slice (some ⟨g9, 0, none⟩) (ln.length + 1) c9) (ln ++ [(⟨((ci : Nat) : Int), ((co : Nat) : Int), z.via⟩ : Con)]).length (fl EC (ln ++ [(⟨((ci : Nat) : Int), ((co : Nat) : Int), z.via⟩ : Con)])) ∧ Kp (fun j => lv.ownBlock = some j) w8 w9) := ⟨(HBL.out.trans (hS8.mono HBL.out.size)).trans (K9.below (Nat.le_trans HBL.out.size hS8.size) (fun j e => (owns_rd HRW.out j e).1)), owns_re h9.out (by simp) (by rw [fl_append, fl_one]), K9⟩
          have SQ := HSK.out _ w8 w9 hS8 K9 (fun e => (HNB.out _ e).1 rfl) (fun e => (HNB.out _ e).2 rfl)
          clear h9 k9 n9 K9
          refine hK.out _ _ (fun hD => SQ) ?_
          clear hK K
          try simp only [Act.put, List.setIfInBounds_toArray, List.set_cons_zero, List.set_cons_succ]
          refine' wpAnyD_take (i := 25) (oi := { dst := some 3, op := Go.Op.assign (Go.Operand.tmp 52), type := 38, pos := "ref.go:58", after := #[{ on := 24, ground := Go.Ground.data }, { on := 24, ground := Go.Ground.chain }, { on := 0, ground := Go.Ground.phase }, { on := 1, ground := Go.Ground.phase }, { on := 2, ground := Go.Ground.phase }, { on := 3, ground := Go.Ground.phase }, { on := 4, ground := Go.Ground.phase }, { on := 5, ground := Go.Ground.phase }, { on := 6, ground := Go.Ground.phase }, { on := 7, ground := Go.Ground.phase }, { on := 8, ground := Go.Ground.phase }, { on := 9, ground := Go.Ground.phase }, { on := 10, ground := Go.Ground.phase }, { on := 11, ground := Go.Ground.phase }, { on := 12, ground := Go.Ground.phase }, { on := 13, ground := Go.Ground.phase }, { on := 14, ground := Go.Ground.phase }, { on := 15, ground := Go.Ground.phase }, { on := 16, ground := Go.Ground.phase }, { on := 17, ground := Go.Ground.phase }, { on := 18, ground := Go.Ground.phase }, { on := 19, ground := Go.Ground.phase }, { on := 20, ground := Go.Ground.phase }, { on := 21, ground := Go.Ground.phase }, { on := 22, ground := Go.Ground.phase }, { on := 23, ground := Go.Ground.phase }, { on := 24, ground := Go.Ground.phase }], guard := none }) (v := _) rfl (by kernel_rfl) (by kernel_rfl) (by kernel_rfl) (fun _ _ _ h => h) (by kernel_rfl) (Or.inl ⟨by rfl, ?hy26⟩) SQ ?rest26
          case hy26 => (intro W hSw; go_simp; try (with_reducible rfl))
          try simp only [Act.put, List.setIfInBounds_toArray, List.set_cons_zero, List.set_cons_succ]
          refine wpAnyD_done (by kernel_rfl) ?_ _
          have FIN : Hid (Below W0.heap.size W0 w9 ∧ w9.ownsRow W0.heap.size 45 5 (.slice (some ⟨g9, 0, none⟩) (ln.length + 1) c9) (nodR ns i ++ (cs.take (k + 1)).map (sC ns i)).length (fl EC (nodR ns i ++ (cs.take (k + 1)).map (sC ns i))) ∧ Rs M w9 (.slice (some ⟨b2, o2, none⟩) cl cc) cs) := by
            rw [← HNX.out, HEL.out]
            have hr8 := HRS.out.below hS8
            refine ⟨ST.out.1, ST.out.2.1, hr8.kp ST.out.2.2 (fun j e => ⟨Nat.le_trans HMM.out (owns_rd HRW.out j e).1, fun csx zx hx => ?_⟩)⟩
            obtain ⟨c, f, hc⟩ := Lib.ownsRow_kind (owns_below HRW.out hS8) j e
            rw [hc] at hx
            simp only [Option.some.injEq, Obj.cells.injEq] at hx
            exact absurd hx.2.1 (by decide)
          clear ST hS0 hS7 hS8 hS9 HNX HEL HRW HRS HBL HBW HD HCALL HCALL2 HSK HSB HNB hB0 SQ
          generalize ln.length + 1 = lm at FIN ⊢
          go_wp2_with fail
          go_roundw
          case rel => exact ⟨k + 1, _, by omega, by go_num, rfl, FIN.out⟩
          case measure => simp [RowKit.intOf]; omega
        · have hlkz : ¬ (k : Int) < (cl : Int) := by omega
          have FIN : Hid (Below W0.heap.size W0 wr ∧ wr.ownsRow W0.heap.size 45 5 lv (nodR ns (i + 1)).length (fl EC (nodR ns (i + 1)))) := by
            have h := HI.out
            rw [List.take_of_length_le (by have := HCLN.out; omega)] at h
            unfold nodR
            rw [HYN.out.2.2, ← HCS.out]
            exact ⟨h.1, h.2.1⟩
          clear HI
          go_wp2_with fail
          go_roundw
          case rel => exact ⟨i + 1, _, by omega, by go_num, rfl, FIN.out⟩
          case measure => simp [RowKit.intOf]; omega
    · have hltz : ¬ (i : Int) < (nl : Int) := by omega
      obtain rfl : i = nl := by omega
      have S9 := hid HI.out
      clear HI
      go_wp2_with fail
      clear c1 l1
      go_loopw [3, 7] (fun s3 s7 wr => ∃ (k : Nat) (lv : Value), k ≤ el ∧ s7 = .int .i64 (k : Nat) ∧ lv = s3 ∧ Hid (Below W0.heap.size W0 wr ∧ wr.ownsRow W0.heap.size 45 5 lv (nodR ns i ++ (es.take k).map (sE ns)).length (fl EC (nodR ns i ++ (es.take k).map (sE ns))))) (fun _ s7 _ => el - (RowKit.intOf s7).toNat)
      case atStart => exact ⟨0, _, Nat.zero_le _, rfl, rfl, by have h := S9.out; show _ ∧ _; simpa using h⟩
      case round =>
        clear S9
        obtain ⟨k, lv, hk, rfl, rfl, HI⟩ := hrel
        have hb0 := (HI.out.1.block _ (tk_lt HB.out.1)).trans HB.out.1
        have c1 := (tk_store hb0).1
        have l1 := tk_lt hb0
        by_cases hlk : k < el
        · have hlkz : (k : Int) < (el : Int) := by omega
          have hk0 : (0 : Int) ≤ (k : Int) := by omega
          obtain ⟨z, hz⟩ : ∃ z, es[k]? = some z := ⟨es[k]'(by have := HNL.out.2.1; omega), by simp⟩
          have hhas := HOK.out.ends (g := gof a xs es) (j := k) (d := z) hz
          rw [show (gof a xs es).nodes = ns from HNL.out.2.2.1.symm] at hhas
          obtain ⟨b2, o2, q2, ev2, zz2, y0, y1, y2, y3, y4⟩ := ls_atD ((HG.out wr HI.out.1).1.edges.ls hz) hz
          simp only [Value.slice.injEq] at ev2
          obtain ⟨rfl, -, rfl⟩ := ev2
          obtain ⟨yi, hn1, hz0, hzl, hz1, hz2⟩ := has_in hhas.2
          obtain ⟨yo, hn2, hz3, hzm, hz4, hz5⟩ := has_out hhas.1
          have hp2 := HOK.out.pok
          rw [show (gof a xs es).nodes = ns from HNL.out.2.2.1.symm] at hp2
          have hpi := hp2 yi (List.mem_of_getElem? hn1)
          have hpo := hp2 yo (List.mem_of_getElem? hn2)
          obtain ⟨Y, hY1, hY2⟩ := nd_get (xs := xs) (j := z.src.toNat) (n := yo) (by rw [← HNL.out.2.2.1]; exact hn2)
          obtain ⟨yb, hyb⟩ : ∃ b, b = wr.heap.size := ⟨_, rfl⟩
          obtain ⟨W6, hW6⟩ : ∃ W, W = wr.alloc (.cells (ecells z) 74) := ⟨_, rfl⟩
          have hb6 : Below wr.heap.size wr W6 := by rw [hW6]; exact ((Gr.refl wr).alloc _).below
          have HW6 : Hid (wr.alloc (.cells #[.int .i64 z.src, .int .i64 z.out, .int .i64 z.dst, .int .i64 z.inn, .bool z.keyed] 74) = W6 ∧ wr.heap.size = yb) := ⟨hW6.symm, hyb.symm⟩
          have hbl : Below W0.heap.size W0 W6 := HI.out.1.trans (hb6.mono HI.out.1.size)
          have HD : Hid (W6.heap[gb]? = some (.cells (gvc a (.slice qn i cn) (.slice (some ⟨b2, o2, none⟩) el ce)) 25 (0, 0)) ∧ W6.heap[yb]? = some (.cells (ecells z) 74 (0, 0))) := ⟨(hb6.block _ (tk_lt hb0)).trans hb0, by rw [hW6, hyb]; exact heap_new' _ _⟩
          have HCALL : Hid (∀ W, Below W6.heap.size W6 W → Calls Tryz.prog 61 #[.agg (gvc a (.slice qn i cn) (.slice (some ⟨b2, o2, none⟩) el ce)), .int .i64 z.src, .int .i64 z.out] W fun r w' => r = .returned (.int .i64 ((outPl ns z : Nat) : Int)) ∧ Gr W w') := fun W hb => by
            have h := kout_any (ev := .slice (some ⟨b2, o2, none⟩) el ce) (a := a) z.src.toNat z.out Y hY1 hz4 (by omega) W (HG.out W (hbl.trans (hb.mono hbl.size))).2
            rw [← HNL.out.2.2.1, show ((z.src.toNat : Nat) : Int) = z.src by omega] at h
            refine h.mono (fun r w' hr => ⟨hr.1.trans ?_, hr.2⟩)
            congr 2
            unfold outPl
            rw [hn2, hY2]
            push_cast
            omega
          have HCALL2 : Hid (∀ W, Below W6.heap.size W6 W → Calls Tryz.prog 60 #[.agg (gvc a (.slice qn i cn) (.slice (some ⟨b2, o2, none⟩) el ce)), .int .i64 z.dst, .int .i64 z.inn] W fun r w' => r = .returned (.int .i64 ((inPl ns z : Nat) : Int)) ∧ Gr W w') := fun W hb => by
            have h := kin_any (ev := .slice (some ⟨b2, o2, none⟩) el ce) (a := a) z.dst.toNat z.inn hz1 (by omega) (by have h1 := HNL.out.1; have h2 := HNL.out.2.2.2; omega) W (HG.out W (hbl.trans (hb.mono hbl.size))).2
            rw [← HNL.out.2.2.1, show ((z.dst.toNat : Nat) : Int) = z.dst by omega] at h
            refine h.mono (fun r w' hr => ⟨hr.1.trans ?_, hr.2⟩)
            congr 2
            unfold inPl
            push_cast
            omega
          obtain ⟨ln, hln⟩ : ∃ l, l = nodR ns i ++ (es.take k).map (sE ns) := ⟨_, rfl⟩
          have HNX : Hid (ln ++ [sE ns z] = nodR ns i ++ (es.take (k + 1)).map (sE ns)) := by
            show _ = _
            rw [hln, List.take_add_one, hz]
            simp
          have HLE : Hid (ln.length ≤ 500) := by
            have h1 := nodR_len HOK.out i
            rw [show (gof a xs es).nodes = ns from HNL.out.2.2.1.symm] at h1
            show _ ≤ _
            rw [hln, List.length_append, List.length_map, List.length_take]
            omega
          have hI := HI.out
          rw [← hln] at hI
          have HRW := hid (owns_below hI.2 hb6)
          have HBL := hid hbl
          have HBW := hid hbl.size
          obtain ⟨ci, hci⟩ : ∃ k, k = outPl ns z := ⟨_, rfl⟩
          obtain ⟨co, hco⟩ : ∃ k, k = inPl ns z := ⟨_, rfl⟩
          rw [← hci] at HCALL
          rw [← hco] at HCALL2
          have HEL : Hid (sE ns z = ⟨(ci : Int), (co : Int), (0, 0, 0)⟩) := by show _ = _; unfold sE; rw [hci, hco]
          clear HI hI hz hhas hz0 hzl hz1 hz2 hz3 hzm hz4 hz5 hpi hpo hp2 hn1 hn2 hln hci hco hY1 hY2 hbl hb6 hW6 hyb hb0
          go_upto_region 14 with fail
          rw [HW6.out.1, HW6.out.2]
          clear HW6 y0 y1 y2 y3 y4 zz2 c1 l1
          have hB0 : Below W6.heap.size W6 W6.drew := (Gr.refl W6).drew.below
          have HSB : Hid (∀ W, Below W6.heap.size W6 W → W.heap[gb]? = some (.cells (gvc a (.slice qn i cn) (.slice (some ⟨b2, o2, none⟩) el ce)) 25 (0, 0)) ∧ W.heap[yb]? = some (.cells (ecells z) 74 (0, 0))) := fun W hb => ⟨(hb.block _ (tk_lt HD.out.1)).trans HD.out.1, (hb.block _ (tk_lt HD.out.2)).trans HD.out.2⟩
          have HNB : Hid (∀ j, lv.ownBlock = some j → j ≠ gb ∧ j ≠ yb) := fun j e => ⟨fun e2 => owns_ne_blk HRW.out HD.out.1 (by decide) j e e2, fun e2 => owns_ne_blk HRW.out HD.out.2 (by decide) j e e2⟩
          have hS0 := HSB.out _ hB0
          refine wp_regionD (S := fun W => W.heap[gb]? = some (.cells (gvc a (.slice qn i cn) (.slice (some ⟨b2, o2, none⟩) el ce)) 25 (0, 0)) ∧ W.heap[yb]? = some (.cells (ecells z) 74 (0, 0))) (D := []) hmx ?_
          refine' wpAnyD_take (i := 0) (oi := { dst := some 65, op := Go.Op.move (Go.Operand.tmp 3), type := 38, pos := "ref.go:63", after := #[], guard := none }) (v := _) rfl (by kernel_rfl) (by kernel_rfl) (by kernel_rfl) (fun _ _ _ h => h) (by kernel_rfl) (Or.inl ⟨by rfl, ?hy27⟩) hS0 ?rest27
          case hy27 => (intro W hSw; go_simp; try (with_reducible rfl))
          try simp only [Act.put, List.setIfInBounds_toArray, List.set_cons_zero, List.set_cons_succ]
          refine' wpAnyD_take (i := 1) (oi := { dst := some 66, op := Go.Op.load 25 (Go.Operand.tmp 1), type := 25, pos := "ref.go:63", after := #[], guard := none }) (v := _) rfl (by kernel_rfl) (by kernel_rfl) (by kernel_rfl) (fun _ _ _ h => h) (by kernel_rfl) (Or.inl ⟨by rfl, ?hy28⟩) hS0 ?rest28
          case hy28 => (intro W hSw; have hc := (tk_store hSw.1).1; have hl := tk_lt hSw.1; go_simp; try (with_reducible rfl))
          try simp only [Act.put, List.setIfInBounds_toArray, List.set_cons_zero, List.set_cons_succ]
          refine' wpAnyD_take (i := 2) (oi := { dst := some 67, op := Go.Op.fieldAddr 74 (Go.Operand.tmp 8) 0, type := 0, pos := "ref.go:63", after := #[], guard := none }) (v := _) rfl (by kernel_rfl) (by kernel_rfl) (by kernel_rfl) (fun _ _ _ h => h) (by kernel_rfl) (Or.inl ⟨by rfl, ?hy29⟩) hS0 ?rest29
          case hy29 => (intro W hSw; have hc := (tk_store hSw.2).1; have hl := tk_lt hSw.2; go_simp; try (with_reducible rfl))
          try simp only [Act.put, List.setIfInBounds_toArray, List.set_cons_zero, List.set_cons_succ]
          refine' wpAnyD_take (i := 3) (oi := { dst := some 68, op := Go.Op.load 3 (Go.Operand.tmp 67), type := 3, pos := "ref.go:63", after := #[{ on := 2, ground := Go.Ground.data }], guard := none }) (v := _) rfl (by kernel_rfl) (by kernel_rfl) (by kernel_rfl) (fun _ _ _ h => h) (by kernel_rfl) (Or.inl ⟨by rfl, ?hy30⟩) hS0 ?rest30
          case hy30 => (intro W hSw; have hc := (tk_store hSw.2).1; have hl := tk_lt hSw.2; go_simp; try (with_reducible rfl))
          try simp only [Act.put, List.setIfInBounds_toArray, List.set_cons_zero, List.set_cons_succ]
          refine' wpAnyD_take (i := 4) (oi := { dst := some 69, op := Go.Op.fieldAddr 74 (Go.Operand.tmp 8) 1, type := 0, pos := "ref.go:63", after := #[], guard := none }) (v := _) rfl (by kernel_rfl) (by kernel_rfl) (by kernel_rfl) (fun _ _ _ h => h) (by kernel_rfl) (Or.inl ⟨by rfl, ?hy31⟩) hS0 ?rest31
          case hy31 => (intro W hSw; have hc := (tk_store hSw.2).1; have hl := tk_lt hSw.2; go_simp; try (with_reducible rfl))
          try simp only [Act.put, List.setIfInBounds_toArray, List.set_cons_zero, List.set_cons_succ]
          refine' wpAnyD_take (i := 5) (oi := { dst := some 70, op := Go.Op.load 3 (Go.Operand.tmp 69), type := 3, pos := "ref.go:63", after := #[{ on := 4, ground := Go.Ground.data }], guard := none }) (v := _) rfl (by kernel_rfl) (by kernel_rfl) (by kernel_rfl) (fun _ _ _ h => h) (by kernel_rfl) (Or.inl ⟨by rfl, ?hy32⟩) hS0 ?rest32
          case hy32 => (intro W hSw; have hc := (tk_store hSw.2).1; have hl := tk_lt hSw.2; go_simp; try (with_reducible rfl))
          try simp only [Act.put, List.setIfInBounds_toArray, List.set_cons_zero, List.set_cons_succ]
          refine' wpAnyD_take (i := 7) (oi := { dst := some 72, op := Go.Op.load 25 (Go.Operand.tmp 1), type := 25, pos := "ref.go:63", after := #[], guard := none }) (v := _) rfl (by kernel_rfl) (by kernel_rfl) (by kernel_rfl) (fun _ _ _ h => h) (by kernel_rfl) (Or.inl ⟨by rfl, ?hy33⟩) hS0 ?rest33
          case hy33 => (intro W hSw; have hc := (tk_store hSw.1).1; have hl := tk_lt hSw.1; go_simp; try (with_reducible rfl))
          try simp only [Act.put, List.setIfInBounds_toArray, List.set_cons_zero, List.set_cons_succ]
          refine' wpAnyD_take (i := 8) (oi := { dst := some 73, op := Go.Op.fieldAddr 74 (Go.Operand.tmp 8) 2, type := 0, pos := "ref.go:63", after := #[], guard := none }) (v := _) rfl (by kernel_rfl) (by kernel_rfl) (by kernel_rfl) (fun _ _ _ h => h) (by kernel_rfl) (Or.inl ⟨by rfl, ?hy34⟩) hS0 ?rest34
          case hy34 => (intro W hSw; have hc := (tk_store hSw.2).1; have hl := tk_lt hSw.2; go_simp; try (with_reducible rfl))
          try simp only [Act.put, List.setIfInBounds_toArray, List.set_cons_zero, List.set_cons_succ]
          refine' wpAnyD_take (i := 9) (oi := { dst := some 74, op := Go.Op.load 3 (Go.Operand.tmp 73), type := 3, pos := "ref.go:63", after := #[{ on := 8, ground := Go.Ground.data }], guard := none }) (v := _) rfl (by kernel_rfl) (by kernel_rfl) (by kernel_rfl) (fun _ _ _ h => h) (by kernel_rfl) (Or.inl ⟨by rfl, ?hy35⟩) hS0 ?rest35
          case hy35 => (intro W hSw; have hc := (tk_store hSw.2).1; have hl := tk_lt hSw.2; go_simp; try (with_reducible rfl))
          try simp only [Act.put, List.setIfInBounds_toArray, List.set_cons_zero, List.set_cons_succ]
          refine' wpAnyD_take (i := 10) (oi := { dst := some 75, op := Go.Op.fieldAddr 74 (Go.Operand.tmp 8) 3, type := 0, pos := "ref.go:63", after := #[], guard := none }) (v := _) rfl (by kernel_rfl) (by kernel_rfl) (by kernel_rfl) (fun _ _ _ h => h) (by kernel_rfl) (Or.inl ⟨by rfl, ?hy36⟩) hS0 ?rest36
          case hy36 => (intro W hSw; have hc := (tk_store hSw.2).1; have hl := tk_lt hSw.2; go_simp; try (with_reducible rfl))
          try simp only [Act.put, List.setIfInBounds_toArray, List.set_cons_zero, List.set_cons_succ]
          refine' wpAnyD_take (i := 11) (oi := { dst := some 76, op := Go.Op.load 3 (Go.Operand.tmp 75), type := 3, pos := "ref.go:63", after := #[{ on := 10, ground := Go.Ground.data }], guard := none }) (v := _) rfl (by kernel_rfl) (by kernel_rfl) (by kernel_rfl) (fun _ _ _ h => h) (by kernel_rfl) (Or.inl ⟨by rfl, ?hy37⟩) hS0 ?rest37
          case hy37 => (intro W hSw; have hc := (tk_store hSw.2).1; have hl := tk_lt hSw.2; go_simp; try (with_reducible rfl))
          try simp only [Act.put, List.setIfInBounds_toArray, List.set_cons_zero, List.set_cons_succ]
          refine wpAnyD_one (i := 6) (o := { dst := some 71, op := Go.Op.call { callee := Go.Callee.value (Go.Operand.func 61), args := #[Go.Operand.tmp 66, Go.Operand.tmp 68, Go.Operand.tmp 70], argTypes := #[25, 3, 3] }, type := 3, pos := "ref.go:63", after := #[{ on := 1, ground := Go.Ground.data }, { on := 3, ground := Go.Ground.data }, { on := 5, ground := Go.Ground.data }], guard := none }) (by kernel_rfl) rfl (fun K hK => ?_)
          go_simp
          refine (HCALL.out _ hB0).mono ?_
          rintro r w7 ⟨rfl, g7⟩
          have hS7 : Below W6.heap.size W6 w7 := hB0.trans (g7.below.mono hB0.size)
          clear g7
          go_wp2_with fail
          refine hK.out _ _ (fun hD => (HSB.out _ hS7)) ?_
          clear hK K
          try simp only [Act.put, List.setIfInBounds_toArray, List.set_cons_zero, List.set_cons_succ]
          refine wpAnyD_one (i := 12) (o := { dst := some 77, op := Go.Op.call { callee := Go.Callee.value (Go.Operand.func 60), args := #[Go.Operand.tmp 72, Go.Operand.tmp 74, Go.Operand.tmp 76], argTypes := #[25, 3, 3] }, type := 3, pos := "ref.go:63", after := #[{ on := 7, ground := Go.Ground.data }, { on := 9, ground := Go.Ground.data }, { on := 11, ground := Go.Ground.data }, { on := 6, ground := Go.Ground.chain }], guard := none }) (by kernel_rfl) rfl (fun K hK => ?_)
          go_simp
          refine (HCALL2.out _ hS7).mono ?_
          rintro r w8 ⟨rfl, g8⟩
          have hS8 : Below W6.heap.size W6 w8 := hS7.trans (g8.below.mono hS7.size)
          clear g8
          go_wp2_with fail
          refine hK.out _ _ (fun hD => (HSB.out _ hS8)) ?_
          clear hK K
          try simp only [Act.put, List.setIfInBounds_toArray, List.set_cons_zero, List.set_cons_succ]
          refine' wpAnyD_take (i := 13) (oi := { dst := some 78, op := Go.Op.build 45 #[(0, Go.Operand.tmp 71), (1, Go.Operand.tmp 77)], type := 45, pos := "ref.go:63", after := #[{ on := 6, ground := Go.Ground.data }, { on := 12, ground := Go.Ground.data }], guard := none }) (v := _) rfl (by kernel_rfl) (by kernel_rfl) (by kernel_rfl) (fun _ _ _ h => h) (by kernel_rfl) (Or.inl ⟨by rfl, ?hy40⟩) (HSB.out _ hS8) ?rest40
          case hy40 => (intro W hSw; go_simp; try (with_reducible rfl))
          try simp only [Act.put, List.setIfInBounds_toArray, List.set_cons_zero, List.set_cons_succ]
          refine wpAnyD_one (i := 14) (o := { dst := some 79, op := Go.Op.buildSlice 38 1 #[(0, Go.Operand.tmp 78)], type := 38, pos := "ref.go:63", after := #[{ on := 13, ground := Go.Ground.data }], guard := none }) (by kernel_rfl) rfl (fun K hK => ?_)
          go_simp
          have hS9 : Below W6.heap.size W6 (w8.alloc (.cells #[.int .i64 ((ci : Nat) : Int), .int .i64 ((co : Nat) : Int), .int .u64 0, .int .u64 0, .int .u64 0] 45)) := hS8.trans (((Gr.refl w8).alloc _).below.mono hS8.size)
          refine hK.out _ _ (fun hD => (HSB.out _ hS9)) ?_
          clear hK K
          try simp only [Act.put, List.setIfInBounds_toArray, List.set_cons_zero, List.set_cons_succ]
          refine wpAnyD_one (i := 15) (o := { dst := some 80, op := Go.Op.call { callee := Go.Callee.builtin Go.Builtin.append, args := #[Go.Operand.tmp 65, Go.Operand.tmp 79], argTypes := #[38, 38] }, type := 38, pos := "ref.go:63", after := #[{ on := 0, ground := Go.Ground.data }, { on := 14, ground := Go.Ground.data }, { on := 12, ground := Go.Ground.chain }], guard := none }) (by kernel_rfl) rfl (fun K hK => ?_)
          refine step_app1 EC Tryz.underlying38 infoSt rfl (by decide) rfl _ _ rfl W0.heap.size lv ln.length (fl EC ln) rfl (owns_below HRW.out hS8) (⟨((ci : Nat) : Int), ((co : Nat) : Int), (0, 0, 0)⟩ : Con) (by first | rfl | simp) (by have := HLE.out; omega) (by have := HLE.out; unfold maxLen; omega) (Nat.le_trans HBW.out hS8.size) _ rfl _ ?_
          intro g9 c9 w9 h9 k9 n9
          have K9 := Kp.grownBy (S := fun j => lv.ownBlock = some j) k9.out (fun _ h => h)
          have ST : Hid (Below W0.heap.size W0 w9 ∧ w9.ownsRow W0.heap.size 45 5 (.slice (some ⟨g9, 0, none⟩) (ln.length + 1) c9) (ln ++ [(⟨((ci : Nat) : Int), ((co : Nat) : Int), (0, 0, 0)⟩ : Con)]).length (fl EC (ln ++ [(⟨((ci : Nat) : Int), ((co : Nat) : Int), (0, 0, 0)⟩ : Con)])) ∧ Kp (fun j => lv.ownBlock = some j) w8 w9) := ⟨(HBL.out.trans (hS8.mono HBL.out.size)).trans (K9.below (Nat.le_trans HBL.out.size hS8.size) (fun j e => (owns_rd HRW.out j e).1)), owns_re h9.out (by simp) (by rw [fl_append, fl_one]), K9⟩
          have SQ := (show _ ∧ _ from ⟨(K9.block _ (tk_lt (HSB.out _ hS8).1) (fun e => (HNB.out _ e).1 rfl)).trans (HSB.out _ hS8).1, (K9.block _ (tk_lt (HSB.out _ hS8).2) (fun e => (HNB.out _ e).2 rfl)).trans (HSB.out _ hS8).2⟩)
          clear h9 k9 n9 K9
          refine hK.out _ _ (fun hD => SQ) ?_
          clear hK K
          try simp only [Act.put, List.setIfInBounds_toArray, List.set_cons_zero, List.set_cons_succ]
          refine' wpAnyD_take (i := 16) (oi := { dst := some 3, op := Go.Op.assign (Go.Operand.tmp 80), type := 38, pos := "ref.go:63", after := #[{ on := 15, ground := Go.Ground.data }, { on := 15, ground := Go.Ground.chain }, { on := 0, ground := Go.Ground.phase }, { on := 1, ground := Go.Ground.phase }, { on := 2, ground := Go.Ground.phase }, { on := 3, ground := Go.Ground.phase }, { on := 4, ground := Go.Ground.phase }, { on := 5, ground := Go.Ground.phase }, { on := 6, ground := Go.Ground.phase }, { on := 7, ground := Go.Ground.phase }, { on := 8, ground := Go.Ground.phase }, { on := 9, ground := Go.Ground.phase }, { on := 10, ground := Go.Ground.phase }, { on := 11, ground := Go.Ground.phase }, { on := 12, ground := Go.Ground.phase }, { on := 13, ground := Go.Ground.phase }, { on := 14, ground := Go.Ground.phase }, { on := 15, ground := Go.Ground.phase }], guard := none }) (v := _) rfl (by kernel_rfl) (by kernel_rfl) (by kernel_rfl) (fun _ _ _ h => h) (by kernel_rfl) (Or.inl ⟨by rfl, ?hy43⟩) SQ ?rest43
          case hy43 => (intro W hSw; go_simp; try (with_reducible rfl))
          try simp only [Act.put, List.setIfInBounds_toArray, List.set_cons_zero, List.set_cons_succ]
          refine wpAnyD_done (by kernel_rfl) ?_ _
          have FIN : Hid (Below W0.heap.size W0 w9 ∧ w9.ownsRow W0.heap.size 45 5 (.slice (some ⟨g9, 0, none⟩) (ln.length + 1) c9) (nodR ns i ++ (es.take (k + 1)).map (sE ns)).length (fl EC (nodR ns i ++ (es.take (k + 1)).map (sE ns)))) := by
            rw [← HNX.out, HEL.out]
            exact ⟨ST.out.1, ST.out.2.1⟩
          clear ST hS0 hS7 hS8 hS9 HNX HEL HRW HBL HBW HD HCALL HCALL2 HSB HNB hB0 SQ
          generalize ln.length + 1 = lm at FIN ⊢
          go_wp2_with fail
          go_roundw
          case rel => exact ⟨k + 1, _, by omega, by go_num, rfl, FIN.out⟩
          case measure => simp [RowKit.intOf]; omega
        · have hlkz : ¬ (k : Int) < (el : Int) := by omega
          have FIN : Hid (Cp EC 45 w (stR (gof a xs es)) (.returned lv) wr) := by
            have h := HI.out
            rw [List.take_of_length_le (by have := HNL.out.2.1; omega), ← HSR.out] at h
            exact ⟨lv, rfl, HB.out.2.trans (h.1.mono HB.out.2.size), owns_base h.2 HB.out.2.size⟩
          clear HI hb0
          go_wp2_with fail
          go_ret
          exact FIN.out
end Go.Proofs.YtpgodnaebkmhhaaGreat.Df

namespace Go.Proofs.YtpgodnaebkmhhaaGreat.Df
open Go.RowKit Go.Sort
attribute [local go_sem ↓] Go.wp_at_zero Go.wp_at_succ

set_option maxRecDepth 100000 in
set_option maxHeartbeats 8000000 in
/-- The document's empty steps. -/
theorem kempty_any {M : Nat} {nv ev : Value} {a : Int} {xs : List NV} {es : List Edg} (w : World) (hG : GR M w nv ev xs es) (hM : M ≤ w.heap.size) (hOK : Gok (gof a xs es)) : Calls Tryz.prog 13 #[.agg (gvc a nv ev)] w (Cp EC 45 w (emR (gof a xs es))) := by
  obtain ⟨W0, hW0⟩ : ∃ W, W = w.alloc (.cells (gvc a nv ev) 25) := ⟨_, rfl⟩
  obtain ⟨gb, hgb⟩ : ∃ b, b = w.heap.size := ⟨_, rfl⟩
  have g0 : Gr w W0 := by rw [hW0]; exact (Gr.refl w).alloc _
  have HB : Hid (W0.heap[gb]? = some (.cells (gvc a nv ev) 25 (0, 0)) ∧ Below w.heap.size w W0) := ⟨by rw [hW0, hgb]; exact heap_new' _ _, g0.below⟩
  have HW : Hid (w.alloc (.cells #[.int .i64 a, nv, ev] 25) = W0 ∧ w.heap.size = gb) := ⟨hW0.symm, hgb.symm⟩
  have hst := ksteps_any (a := a) W0 (hG.below g0.below) (Nat.le_trans hM g0.below.size) hOK
  have hsl := stR_len hOK
  obtain ⟨ss, hss⟩ : ∃ l, l = stR (gof a xs es) := ⟨_, rfl⟩
  have HSS : Hid (emR (gof a xs es) = ss.filter isE) := by show _ = _; rw [hss]; rfl
  rw [← hss] at hst hsl
  obtain ⟨qn, cn, hnv⟩ := hG.nodes.form
  obtain ⟨qe, ce, hev⟩ := hG.edges.form
  subst hnv
  subst hev
  have c0 := (tk_store HB.out.1).1
  have l0 := tk_lt HB.out.1
  generalize xs.length = nl at *
  generalize es.length = el at *
  clear hG hM hW0 hgb g0 hOK hss
  go_enter Tryz.func13, Tryz.ntmps13
  go_upto_region 1 with fail
  rw [HW.out.1, HW.out.2]
  clear HW
  go_wp2_with fail
  refine hst.mono ?_
  clear hst c0 l0
  rintro r w1 ⟨d, rfl, hb1, hrow⟩
  obtain ⟨q, m, c, rfl⟩ := owns_form hrow
  obtain ⟨rfl, hcap⟩ := owns_caps hrow _ _ _ rfl
  have HL : Hid (Lz EC w1.heap.size w1 (.slice q ss.length c) ss) := owns_lz (E := EC) hrow
  have H1 : Hid (Below w.heap.size w w1) := HB.out.2.trans (hb1.mono HB.out.2.size)
  obtain ⟨sl, hsl2⟩ : ∃ n, n = ss.length := ⟨_, rfl⟩
  rw [← hsl2] at HL hsl ⊢
  have HSL := hid hsl2
  clear hb1 hrow hcap hsl2
  go_wp2_with fail
  go_loopw [3, 5] (fun s3 s5 wr => ∃ (k : Nat) (lv : Value), k ≤ sl ∧ s5 = .int .i64 (k : Nat) ∧ lv = s3 ∧ Hid (Below w1.heap.size w1 wr ∧ wr.ownsRow w1.heap.size 45 5 lv ((ss.take k).filter isE).length (fl EC ((ss.take k).filter isE)))) (fun _ s5 _ => sl - (RowKit.intOf s5).toNat)
  case atStart => exact ⟨0, _, Nat.zero_le _, rfl, rfl, Below.refl _ _, World.ownsRow_nil _ _ _ _⟩
  case round =>
    obtain ⟨k, lv, hk, rfl, rfl, HI⟩ := hrel
    by_cases hlk : k < sl
    · have hlkz : (k : Int) < (sl : Int) := by omega
      have hk0 : (0 : Int) ≤ (k : Int) := by omega
      obtain ⟨z, hz⟩ : ∃ z, ss[k]? = some z := ⟨ss[k]'(by have := HSL.out; omega), by simp⟩
      obtain ⟨b2, o2, q2, ev2, zz2, y0, y1, y2, y3, y4⟩ := ls_atC ((HL.out.below HI.out.1).ls hz) hz
      simp only [Value.slice.injEq] at ev2
      obtain ⟨rfl, -, rfl⟩ := ev2
      have HT : Hid ((ss.take (k + 1)).filter isE = (ss.take k).filter isE ++ if isE z = true then [z] else []) := by
        show _ = _
        rw [List.take_add_one, hz, List.filter_append]
        simp only [Option.toList_some, List.filter_cons, List.filter_nil]
      obtain ⟨ln, hln⟩ : ∃ l, l = (ss.take k).filter isE := ⟨_, rfl⟩
      rw [← hln] at HI HT
      have HLE : Hid (ln.length ≤ 500) := by
        show _ ≤ _
        rw [hln]
        exact Nat.le_trans (List.length_filter_le _ _) (by rw [List.length_take]; omega)
      have HBW := hid HI.out.1.size
      clear hz hln
      by_cases hE : z.via = (0, 0, 0)
      · obtain ⟨hE1, hE2, hE3⟩ : z.via.1 = 0 ∧ z.via.2.1 = 0 ∧ z.via.2.2 = 0 := by rw [hE]; exact ⟨rfl, rfl, rfl⟩
        have hie : isE z = true := decide_eq_true hE
        have HZ : Hid (z = ⟨z.inn, z.out, (0, 0, 0)⟩) := by
          show _ = _
          obtain ⟨zi, zo, zv⟩ := z
          dsimp only at hE
          rw [hE]
        have HIE := hid hie
        clear hE hie
        go_wp2_with (at_builtin; refine wpApp1 EC Tryz.underlying38 infoSt rfl (by decide) rfl _ _ rfl w1.heap.size _ ln.length _ rfl HI.out.2 ⟨z.inn, z.out, (0, 0, 0)⟩ (by first | rfl | simp) (by have := HLE.out; omega) (by have := HLE.out; unfold maxLen; omega) HBW.out _ (by first | rfl | (simp; rfl)) _ ?_; intro g9 c9 w9 r1 r2 r3)
        have FIN : Hid (Below w1.heap.size w1 w9 ∧ w9.ownsRow w1.heap.size 45 5 (.slice (some ⟨g9, 0, none⟩) (ln.length + 1) c9) ((ss.take (k + 1)).filter isE).length (fl EC ((ss.take (k + 1)).filter isE))) := by
          have k2 := Kp.grownBy (S := fun j => lv.ownBlock = some j) r2 (fun _ h => h)
          refine ⟨HI.out.1.trans (k2.below HI.out.1.size (fun j e => (owns_rd HI.out.2 j e).1)), ?_⟩
          rw [HT.out, if_pos HIE.out, HZ.out]
          exact owns_re r1 (by simp) (by rw [fl_append, fl_one])
        clear r1 r2 r3
        generalize ln.length + 1 = lm at FIN ⊢
        go_roundw
        case rel => exact ⟨k + 1, _, by omega, by go_num, rfl, FIN.out⟩
        case measure => simp [RowKit.intOf]; omega
      · have FIN : Hid (Below w1.heap.size w1 wr ∧ wr.ownsRow w1.heap.size 45 5 lv ((ss.take (k + 1)).filter isE).length (fl EC ((ss.take (k + 1)).filter isE))) := by
          rw [HT.out, if_neg (by simp [isE, hE]), List.append_nil]
          exact HI.out
        have hne : ¬ (z.via.1 = 0 ∧ z.via.2.1 = 0 ∧ z.via.2.2 = 0) := fun e => hE (Prod.ext e.1 (Prod.ext e.2.1 e.2.2))
        have hne3 : z.via.1 ≠ 0 ∨ (z.via.1 = 0 ∧ z.via.2.1 ≠ 0) ∨ (z.via.1 = 0 ∧ z.via.2.1 = 0 ∧ z.via.2.2 ≠ 0) := by omega
        clear hE hne HT HI
        rcases hne3 with h1 | ⟨h1, h2⟩ | ⟨h1, h2, h3⟩
        · go_wp2_with fail
          go_roundw
          case rel => exact ⟨k + 1, _, by omega, by go_num, rfl, FIN.out⟩
          case measure => simp [RowKit.intOf]; omega
        · go_wp2_with fail
          go_roundw
          case rel => exact ⟨k + 1, _, by omega, by go_num, rfl, FIN.out⟩
          case measure => simp [RowKit.intOf]; omega
        · go_wp2_with fail
          go_roundw
          case rel => exact ⟨k + 1, _, by omega, by go_num, rfl, FIN.out⟩
          case measure => simp [RowKit.intOf]; omega
    · have hlkz : ¬ (k : Int) < (sl : Int) := by omega
      have FIN : Hid (Cp EC 45 w (emR (gof a xs es)) (.returned lv) wr) := by
        have h := HI.out
        rw [List.take_of_length_le (by have := HSL.out; omega), ← HSS.out] at h
        exact ⟨lv, rfl, H1.out.trans (h.1.mono H1.out.size), owns_base h.2 H1.out.size⟩
      clear HI
      go_wp2_with fail
      go_ret
      exact FIN.out
end Go.Proofs.YtpgodnaebkmhhaaGreat.Df

namespace Go.Proofs.YtpgodnaebkmhhaaGreat.Df
open Go.RowKit Go.Sort

/-- A place waits for none just if it is not listed and all steps to it come from listed places. -/
theorem Oi.free {ls : List (List Int)} {us : List Nat} {f : Nat → Int} (h : Oi ls us f) (k : Nat) : f k = 0 ↔ k ∉ us ∧ ∀ p, Sp ls p k → p ∈ us := by
  constructor
  · intro hf
    have hk : k ∉ us := fun e => by have := h.lo k e; omega
    refine ⟨hk, fun p hp => ?_⟩
    by_cases e : p ∈ us
    · exact e
    · have h3 := sum_le (cAt ls k) (p :: us) (List.range ls.length) (List.nodup_cons.2 ⟨e, h.nd⟩) (fun x hx => by
        rcases List.mem_cons.1 hx with rfl | hx
        · exact List.mem_range.2 hp.lt
        · exact List.mem_range.2 (h.bd x hx))
      rw [← cntL_range, List.map_cons, List.sum_cons] at h3
      have h4 := h.hi k hk
      have h5 := cAt_pos.2 hp
      omega
  · rintro ⟨hk, hall⟩
    have h4 := h.hi k hk
    have h5 := sum_ge (cAt ls k) (List.range ls.length) us List.nodup_range (fun x _ hx => hall x (cAt_pos.1 hx))
    have h6 := sum_le (cAt ls k) us (List.range ls.length) h.nd (fun x hx => List.mem_range.2 (h.bd x hx))
    rw [← cntL_range] at h5 h6
    omega
/-- The next place of an order, in the document's words. -/
theorem Oi.next {ls : List (List Int)} {us : List Nat} {f : Nat → Int} (h : Oi ls us f) : match zeroN ls.length f with
    | some p => p < ls.length ∧ (p ∉ us ∧ ∀ r, Sp ls r p → r ∈ us) ∧ ∀ k, k < p → ¬ (k ∉ us ∧ ∀ r, Sp ls r k → r ∈ us)
    | none => ∀ k, k < ls.length → ¬ (k ∉ us ∧ ∀ r, Sp ls r k → r ∈ us) := by
  cases e : zeroN ls.length f with
  | none =>
    intro k hk hf
    have := List.find?_eq_none.1 e k (List.mem_range.2 hk)
    simp [(h.free k).2 hf] at this
  | some p =>
    unfold zeroN at e
    rw [List.find?_range_eq_some] at e
    obtain ⟨h1, h2, h3⟩ := e
    have hp : p < ls.length := by simpa using h2
    refine ⟨hp, (h.free p).1 (by simpa using h1), fun k hk hf => ?_⟩
    have := h3 k hk
    simp [(h.free k).2 hf] at this
/-- The greatest of the ranks behind a place, and one more. -/
theorem Rk.rank {ls : List (List Int)} {us : List Nat} {f : Nat → Int} (h : Or ls us) (hr : Rk ls us us.length f) (q : Nat) : (∀ p, Sp ls p q → f p + 1 ≤ f q) ∧ (f q = 0 ∨ ∃ p, Sp ls p q ∧ f p + 1 = f q) := by
  refine ⟨fun p hp => hr.up p q (by rw [List.take_length]; exact all_in h.nd h.bd h.len p hp.lt) hp, ?_⟩
  by_cases e : 0 < f q
  · obtain ⟨p, _, h1, h2⟩ := hr.held q e
    exact Or.inr ⟨p, h1, h2⟩
  · exact Or.inl (by have := (hr.pos q).1; omega)
end Go.Proofs.YtpgodnaebkmhhaaGreat.Df

namespace Go.Proofs.YtpgodnaebkmhhaaGreat.Df
open Go.RowKit Go.Sort

section
variable {ls : List (List Int)} {q : Nat}
/-- So many steps, and no fewer, lead from x to q. -/
def At (ls : List (List Int)) (q k x : Nat) : Prop := (k = 0 ∧ x = q) ∨ (x ≠ q ∧ 0 < k ∧ Ry ls q k x ∧ ¬ Ry ls q (k - 1) x)
theorem Ry.least {m x : Nat} (h : Ry ls q m x) : ∃ k, 0 < k ∧ k ≤ m ∧ Ry ls q k x ∧ ¬ Ry ls q (k - 1) x := by
  induction m with
  | zero => exact absurd h Ry.zero
  | succ m ih =>
    by_cases e : Ry ls q m x
    · obtain ⟨k, h1, h2, h3⟩ := ih e
      exact ⟨k, h1, by omega, h3⟩
    · exact ⟨m + 1, by omega, Nat.le_refl _, h, e⟩
theorem Ry.one {x : Nat} (h : Sp ls x q) : Ry ls q 1 x := ⟨[x], rfl, by simpa [Wp] using h, Nat.le_refl _⟩
theorem Ry.cons {m x y : Nat} (h : Sp ls x y) (hy : Ry ls q m y) : Ry ls q (m + 1) x := by
  obtain ⟨l, h1, h2, h3⟩ := hy
  exact ⟨x :: l, rfl, Wp.cons h h2 h1, by simp; omega⟩
theorem At.uniq {j k x : Nat} (h : At ls q j x) (h' : At ls q k x) : j = k := by
  rcases h with ⟨rfl, rfl⟩ | ⟨hx, hj, h1, h2⟩
  · rcases h' with ⟨rfl, _⟩ | ⟨hx, _⟩
    · rfl
    · exact absurd rfl hx
  · rcases h' with ⟨_, e⟩ | ⟨_, hk, h3, h4⟩
    · exact absurd e hx
    · rcases Nat.lt_trichotomy j k with e | e | e
      · exact absurd (h1.mono (by omega)) h4
      · exact e
      · exact absurd (h3.mono (by omega)) h2
theorem Ry.at {m x : Nat} (hx : x ≠ q) (h : Ry ls q m x) : ∃ k, 0 < k ∧ k ≤ m ∧ At ls q k x := by
  obtain ⟨k, h1, h2, h3, h4⟩ := h.least
  exact ⟨k, h1, h2, Or.inr ⟨hx, h1, h3, h4⟩⟩
/-- One step further. -/
theorem at_succ {k x : Nat} : At ls q (k + 1) x ↔ x ≠ q ∧ (∀ j, j ≤ k → ¬ At ls q j x) ∧ ∃ y, Sp ls x y ∧ At ls q k y := by
  constructor
  · rintro (⟨h, _⟩ | ⟨hx, _, h1, h2⟩)
    · omega
    · refine ⟨hx, fun j hj hq => ?_, ?_⟩
      · have := hq.uniq (Or.inr ⟨hx, by omega, h1, h2⟩ : At ls q (k + 1) x)
        omega
      · obtain ⟨u, hs, hu⟩ := h1.next
        by_cases e : u = q
        · subst e
          have h3 : k = 0 := by
            by_cases hk : k = 0
            · exact hk
            · exact absurd ((Ry.one hs).mono (by omega)) h2
          subst h3
          exact ⟨u, hs, Or.inl ⟨rfl, rfl⟩⟩
        · have hu' : Ry ls q k u := hu.resolve_left e
          have hk : 0 < k := by
            by_cases hk : k = 0
            · subst hk; exact absurd hu' Ry.zero
            · omega
          refine ⟨u, hs, Or.inr ⟨e, hk, hu', fun h3 => h2 ?_⟩⟩
          have := Ry.cons hs h3
          rwa [Nat.sub_add_cancel hk] at this
  · rintro ⟨hx, hno, y, hs, hy⟩
    have h1 : Ry ls q (k + 1) x := by
      rcases hy with ⟨rfl, rfl⟩ | ⟨_, _, h1, _⟩
      · exact Ry.one hs
      · exact Ry.cons hs h1
    refine Or.inr ⟨hx, by omega, h1, fun h2 => ?_⟩
    obtain ⟨j, _, hj2, hj3⟩ := Ry.at hx h2
    exact hno j hj2 hj3
theorem At.lt {k x : Nat} (h : At ls q k x) (hq : q < ls.length) : x < ls.length := by
  rcases h with ⟨_, rfl⟩ | ⟨_, _, ⟨l, h1, h2, _⟩, _⟩
  · exact hq
  · exact Wp.lt l h2 x (by cases l with | nil => cases h1 | cons a l => simp at h1; simp [h1])
theorem At.le {k x : Nat} (h : At ls q k x) : k ≤ ls.length := by
  rcases h with ⟨rfl, _⟩ | ⟨_, _, h1, h2⟩
  · omega
  · by_cases e : k ≤ ls.length
    · exact e
    · exact absurd (h1.most.mono (by omega)) h2
/-- The shortest ring of a place, by its first step. -/
theorem ring_iff {k : Nat} : (Ry ls q (k + 1) q ∧ ¬ Ry ls q k q) ↔ (∃ y, Sp ls q y ∧ At ls q k y) ∧ ∀ j, j < k → ¬ ∃ y, Sp ls q y ∧ At ls q j y := by
  have up : ∀ j, (∃ y, Sp ls q y ∧ At ls q j y) → Ry ls q (j + 1) q := by
    rintro j ⟨y, hs, ⟨rfl, rfl⟩ | ⟨_, _, h1, _⟩⟩
    · exact Ry.one hs
    · exact Ry.cons hs h1
  have dn : ∀ m, Ry ls q (m + 1) q → ∃ j, j ≤ m ∧ ∃ y, Sp ls q y ∧ At ls q j y := by
    intro m h
    obtain ⟨u, hs, hu⟩ := h.next
    by_cases e : u = q
    · exact ⟨0, Nat.zero_le _, u, hs, Or.inl ⟨rfl, e⟩⟩
    · obtain ⟨j, _, hj2, hj3⟩ := Ry.at e (hu.resolve_left e)
      exact ⟨j, hj2, u, hs, hj3⟩
  constructor
  · rintro ⟨h1, h2⟩
    obtain ⟨j, hj, hy⟩ := dn k h1
    have hjk : j = k := by
      by_cases e : j = k
      · exact e
      · exact absurd ((up j hy).mono (by omega)) h2
    subst hjk
    refine ⟨hy, fun i hi hy' => h2 ((up i hy').mono (by omega))⟩
  · rintro ⟨h1, h2⟩
    refine ⟨up k h1, fun h3 => ?_⟩
    cases k with
    | zero => exact Ry.zero h3
    | succ k =>
      obtain ⟨j, hj, hy⟩ := dn k h3
      exact h2 j (by omega) hy

/-- The way that is tried first and leads on. -/
def gdN (ls : List (List Int)) (q : Nat) : Nat → Nat → Option (List Nat)
  | 0, _ => none
  | m + 1, p => match ((ls[p]?).getD []).find? fun x => decide (x = (q : Int)) || (gdN ls q m x.toNat).isSome with
    | none => none
    | some x => if x = (q : Int) then some [p] else (gdN ls q m x.toNat).map (p :: ·)
theorem gd_ry (h0 : ∀ l ∈ ls, ∀ x ∈ l, (0 : Int) ≤ x) : ∀ (m p : Nat), (gdN ls q m p).isSome = true ↔ Ry ls q m p := by
  intro m
  induction m with
  | zero => intro p; exact ⟨fun h => by simp [gdN] at h, fun h => absurd h Ry.zero⟩
  | succ m ih =>
    intro p
    have hget : ∀ x, x ∈ (ls[p]?).getD [] → 0 ≤ x ∧ Sp ls p x.toNat := fun x hx => by
      cases e : ls[p]? with
      | none => rw [e] at hx; simp at hx
      | some l =>
        rw [e] at hx
        have h1 := h0 l (List.mem_of_getElem? e) x hx
        exact ⟨h1, l, e, by rw [Int.toNat_of_nonneg h1]; exact hx⟩
    unfold gdN
    cases hf : ((ls[p]?).getD []).find? fun x => decide (x = (q : Int)) || (gdN ls q m x.toNat).isSome with
    | none =>
      refine ⟨fun h => by simp at h, fun h => ?_⟩
      obtain ⟨u, hs, hu⟩ := h.next
      have h1 := List.find?_eq_none.1 hf (u : Int) (sp_getD.2 hs)
      simp only [Bool.or_eq_true, decide_eq_true_eq, not_or] at h1
      rcases hu with rfl | hu
      · exact absurd rfl h1.1
      · exact absurd ((ih u).2 hu) (by simpa using h1.2)
    | some x =>
      have h1 := List.find?_some hf
      have h2 := List.mem_of_find?_eq_some hf
      simp only [Bool.or_eq_true, decide_eq_true_eq] at h1
      obtain ⟨hx0, hs⟩ := hget x h2
      dsimp only
      by_cases e : x = (q : Int)
      · rw [if_pos e]
        subst e
        exact ⟨fun _ => (Ry.one hs).mono (by omega), fun _ => rfl⟩
      · rw [if_neg e]
        have h3 := (ih x.toNat).1 (h1.resolve_left e)
        refine ⟨fun _ => Ry.cons hs h3, fun _ => ?_⟩
        rw [Option.isSome_map]
        exact h1.resolve_left e
theorem loop_gd {m : Nat} {d : Nat → (Nat → Int) → Option (List Nat) × (Nat → Int)} (hd : ∀ p f, Vn ls q f → Vn ls q (d p f).2 ∧ (d p f).1 = gdN ls q m p) :
    ∀ (xs : List Int) (f : Nat → Int), Vn ls q f → Vn ls q (loopN d q xs f).2 ∧ (loopN d q xs f).1 = match xs.find? (fun x => decide (x = (q : Int)) || (gdN ls q m x.toNat).isSome) with
      | none => none
      | some x => if x = (q : Int) then some [] else gdN ls q m x.toNat := by
  intro xs
  induction xs with
  | nil => intro f hf; exact ⟨hf, rfl⟩
  | cons x xs ih =>
    intro f hf
    unfold loopN
    by_cases e : x = (q : Int)
    · rw [if_pos e, List.find?_cons_of_pos (by simp [e])]
      dsimp only
      rw [if_pos e]
      exact ⟨hf, rfl⟩
    · rw [if_neg e]
      obtain ⟨h1, h2⟩ := hd x.toNat f hf
      cases hq : d x.toNat f with
      | mk a f' =>
        rw [hq] at h1 h2
        cases a with
        | some l =>
          have h3 : gdN ls q m x.toNat = some l := h2.symm
          rw [List.find?_cons_of_pos (by simp [h3])]
          dsimp only
          rw [if_neg e, h3]
          exact ⟨h1, rfl⟩
        | none =>
          have h3 : gdN ls q m x.toNat = none := h2.symm
          rw [List.find?_cons_of_neg (by simp [h3, e])]
          exact ih f' h1
theorem down_gd (h0 : ∀ l ∈ ls, ∀ x ∈ l, (0 : Int) ≤ x) : ∀ (m p : Nat) (f : Nat → Int), Vn ls q f → Vn ls q (downN ls q m p f).2 ∧ (downN ls q m p f).1 = gdN ls q m p := by
  intro m
  induction m with
  | zero => intro p f hf; exact ⟨hf, rfl⟩
  | succ m ih =>
    intro p f hf
    refine ⟨(downN_ok h0 (m + 1) p f hf).1, ?_⟩
    have hl := loop_gd ih ((ls[p]?).getD []) f hf
    by_cases e : (m : Int) + 1 ≤ f p
    · have h1 : gdN ls q (m + 1) p = none := by
        cases hg : gdN ls q (m + 1) p with
        | none => rfl
        | some l =>
          have h2 := (gd_ry h0 (m + 1) p).1 (by rw [hg]; rfl)
          exact absurd (h2.mono (by have := (hf p).1; omega)) (hf p).2
      rw [h1]
      unfold downN
      rw [if_pos e]
    · unfold downN gdN
      rw [if_neg e]
      obtain ⟨h1, h2⟩ := hl
      cases hq : loopN (downN ls q m) q ((ls[p]?).getD []) f with
      | mk a f' =>
        rw [hq] at h2
        simp only at h2
        cases hf' : ((ls[p]?).getD []).find? (fun x => decide (x = (q : Int)) || (gdN ls q m x.toNat).isSome) with
        | none =>
          rw [hf'] at h2
          simp only at h2
          subst h2
          simp
        | some x =>
          rw [hf'] at h2
          simp only at h2
          by_cases ex : x = (q : Int)
          · rw [if_pos ex] at h2
            subst h2
            simp [ex]
          · rw [if_neg ex] at h2
            have h3 := List.find?_some hf'
            simp only [Bool.or_eq_true, decide_eq_true_eq] at h3
            have h4 := h3.resolve_left ex
            cases hg : gdN ls q m x.toNat with
            | none => rw [hg] at h4; simp at h4
            | some l =>
              rw [hg] at h2
              subst h2
              simp [ex, hg]
/-- The lowest next place from which so many steps lead on. -/
structure Lst (ls : List (List Int)) (q k p y : Nat) : Prop where
  sp : Sp ls p y
  at_ : At ls q k y
  low : ∀ y', Sp ls p y' → At ls q k y' → y ≤ y'
theorem Lst.uniq {k p y y' : Nat} (h : Lst ls q k p y) (h' : Lst ls q k p y') : y = y' := by
  have := h.low y' h'.sp h'.at_
  have := h'.low y h.sp h.at_
  omega
/-- The rest of a ring, from a place on. -/
def Gwy (ls : List (List Int)) (q : Nat) : Nat → Nat → List Nat → Prop
  | 0, _, l => l = []
  | k + 1, y, l => ∃ y' l', Lst ls q k y y' ∧ Gwy ls q k y' l' ∧ l = y :: l'
theorem Gwy.uniq : ∀ (k y : Nat) (l l' : List Nat), Gwy ls q k y l → Gwy ls q k y l' → l = l' := by
  intro k
  induction k with
  | zero => intro y l l' h h'; exact (show l = [] from h).trans (show l' = [] from h').symm
  | succ k ih =>
    rintro y l l' ⟨y1, l1, h1, h2, rfl⟩ ⟨y2, l2, h3, h4, rfl⟩
    obtain rfl := h1.uniq h3
    rw [ih y1 l1 l2 h2 h4]
/-- None of the next places is nearer, one is so near. -/
def Nx (ls : List (List Int)) (q m p : Nat) : Prop := (∀ j, j < m → ¬ ∃ y, Sp ls p y ∧ At ls q j y) ∧ ∃ y, Sp ls p y ∧ At ls q m y
theorem At.nx {m p : Nat} (h : At ls q (m + 1) p) : Nx ls q m p := by
  obtain ⟨hx, hno, hy⟩ := at_succ.1 h
  refine ⟨fun j hj ⟨y, hs, hq⟩ => ?_, hy⟩
  have h1 : Ry ls q (j + 1) p := by
    rcases hq with ⟨rfl, rfl⟩ | ⟨_, _, h1, _⟩
    · exact Ry.one hs
    · exact Ry.cons hs h1
  obtain ⟨i, _, hi2, hi3⟩ := Ry.at hx h1
  exact hno i (by omega) hi3
theorem find_low {l : List Int} (hs : l.Pairwise (· ≤ ·)) {P : Int → Bool} {x : Int} (h : l.find? P = some x) : ∀ y ∈ l, P y = true → x ≤ y := by
  induction l with
  | nil => simp at h
  | cons a l ih =>
    rw [List.pairwise_cons] at hs
    intro y hy hp
    by_cases ha : P a = true
    · rw [List.find?_cons_of_pos ha] at h
      cases h
      rcases List.mem_cons.1 hy with rfl | hy
      · exact Int.le_refl _
      · exact hs.1 y hy
    · rw [List.find?_cons_of_neg ha] at h
      rcases List.mem_cons.1 hy with rfl | hy
      · exact absurd hp ha
      · exact ih hs.2 h y hy hp
theorem gd_path (h0 : ∀ l ∈ ls, ∀ x ∈ l, (0 : Int) ≤ x) (hs : ∀ l ∈ ls, l.Pairwise (· ≤ ·)) : ∀ (m p : Nat), Nx ls q m p → ∃ y l, Lst ls q m p y ∧ Gwy ls q m y l ∧ gdN ls q (m + 1) p = some (p :: l) := by
  intro m
  induction m with
  | zero =>
    intro p hN
    obtain ⟨y, hy, ha⟩ := hN.2
    have hyq : y = q := by
      rcases ha with ⟨_, e⟩ | ⟨_, h, _⟩
      · exact e
      · omega
    subst hyq
    refine ⟨y, [], ⟨hy, ha, fun y' _ h' => ?_⟩, rfl, ?_⟩
    · rcases h' with ⟨_, e⟩ | ⟨_, h, _⟩
      · omega
      · omega
    · unfold gdN
      cases hf : ((ls[p]?).getD []).find? fun x => decide (x = (y : Int)) || (gdN ls y 0 x.toNat).isSome with
      | none =>
        have := List.find?_eq_none.1 hf (y : Int) (sp_getD.2 hy)
        simp at this
      | some x =>
        have h1 := List.find?_some hf
        simp only [gdN, Option.isSome_none, Bool.or_false, decide_eq_true_eq] at h1
        dsimp only
        rw [if_pos h1]
  | succ m ih =>
    intro p hN
    have hget : ∀ x, x ∈ (ls[p]?).getD [] → 0 ≤ x ∧ Sp ls p x.toNat := fun x hx => by
      cases e : ls[p]? with
      | none => rw [e] at hx; simp at hx
      | some l =>
        rw [e] at hx
        have h1 := h0 l (List.mem_of_getElem? e) x hx
        exact ⟨h1, l, e, by rw [Int.toNat_of_nonneg h1]; exact hx⟩
    have hsr : ((ls[p]?).getD []).Pairwise (· ≤ ·) := by
      cases e : ls[p]? with
      | none => simp
      | some l => exact hs l (List.mem_of_getElem? e)
    have hiff : ∀ x, x ∈ (ls[p]?).getD [] → ((decide (x = (q : Int)) || (gdN ls q (m + 1) x.toNat).isSome) = true ↔ At ls q (m + 1) x.toNat) := fun x hx => by
      obtain ⟨hx0, hsp⟩ := hget x hx
      rw [Bool.or_eq_true, decide_eq_true_eq, gd_ry h0]
      constructor
      · intro h
        by_cases e : x.toNat = q
        · exact absurd ⟨x.toNat, hsp, Or.inl ⟨rfl, e⟩⟩ (hN.1 0 (by omega))
        · have hr : Ry ls q (m + 1) x.toNat := h.resolve_left (fun e2 => e (by omega))
          obtain ⟨j, _, hj2, hj3⟩ := Ry.at e hr
          by_cases ej : j = m + 1
          · exact ej ▸ hj3
          · exact absurd ⟨x.toNat, hsp, hj3⟩ (hN.1 j (by omega))
      · rintro (⟨h, _⟩ | ⟨_, _, h, _⟩)
        · omega
        · exact Or.inr h
    obtain ⟨y, hy, ha⟩ := hN.2
    cases hf : ((ls[p]?).getD []).find? fun x => decide (x = (q : Int)) || (gdN ls q (m + 1) x.toNat).isSome with
    | none =>
      have := List.find?_eq_none.1 hf (y : Int) (sp_getD.2 hy)
      rw [hiff _ (sp_getD.2 hy)] at this
      exact absurd (by simpa using ha) this
    | some x =>
      have h1 := List.find?_some hf
      have h2 := List.mem_of_find?_eq_some hf
      obtain ⟨hx0, hsp⟩ := hget x h2
      have h3 := (hiff x h2).1 h1
      have hne : ¬ x = (q : Int) := fun e => by
        rcases h3 with ⟨h, _⟩ | ⟨h, _⟩
        · omega
        · exact h (by omega)
      obtain ⟨y2, l2, hl, hp, hg⟩ := ih x.toNat h3.nx
      refine ⟨x.toNat, x.toNat :: l2, ⟨hsp, h3, fun y' hs' ha' => ?_⟩, ⟨y2, l2, hl, hp, rfl⟩, ?_⟩
      · have := find_low hsr hf (y' : Int) (sp_getD.2 hs') ((hiff _ (sp_getD.2 hs')).2 (by simpa using ha'))
        omega
      · unfold gdN
        rw [hf]
        dsimp only
        rw [if_neg hne, hg]
        rfl
theorem most_gd (h0 : ∀ l ∈ ls, ∀ x ∈ l, (0 : Int) ≤ x) (m : Nat) : Vn ls q (mostN ls q m).1 ∧ match (mostN ls q m).2 with
    | none => ¬ Ry ls q m q
    | some l => ∃ k, k < m ∧ (Ry ls q (k + 1) q ∧ ¬ Ry ls q k q) ∧ gdN ls q (k + 1) q = some l := by
  induction m with
  | zero => exact ⟨fun p => ⟨Int.le_refl _, Ry.zero⟩, Ry.zero⟩
  | succ m ih =>
    unfold mostN
    cases e : mostN ls q m with
    | mk f a =>
      rw [e] at ih
      cases a with
      | some l =>
        obtain ⟨h1, k, hk, h2⟩ := ih
        exact ⟨h1, k, by omega, h2⟩
      | none =>
        have h1 := down_gd h0 (m + 1) q f ih.1
        dsimp only
        cases e2 : downN ls q (m + 1) q f with
        | mk b f' =>
          rw [e2] at h1
          refine ⟨h1.1, ?_⟩
          have h2 : b = gdN ls q (m + 1) q := h1.2
          cases b with
          | none =>
            show ¬ Ry ls q (m + 1) q
            intro h
            have := (gd_ry h0 (m + 1) q).2 h
            rw [← h2] at this
            cases this
          | some l => exact ⟨m, by omega, ⟨(gd_ry h0 (m + 1) q).1 (by rw [← h2]; rfl), ih.2⟩, h2.symm⟩
/-- A ring of the document's: from the lowest place that has one, as short as can be, always by the lowest next place. -/
def Rn (ls : List (List Int)) (q : Nat) (l : List Nat) : Prop := ∃ k y l', k < ls.length ∧ (∀ j, j < k → ¬ ∃ y, Sp ls q y ∧ At ls q j y) ∧ Lst ls q k q y ∧ Gwy ls q k y l' ∧ l = q :: l'
theorem Rn.uniq {l l' : List Nat} (h : Rn ls q l) (h' : Rn ls q l') : l = l' := by
  obtain ⟨k, y, m, _, h1, h2, h3, rfl⟩ := h
  obtain ⟨k', y', m', _, h1', h2', h3', rfl⟩ := h'
  have hk : k = k' := by
    rcases Nat.lt_trichotomy k k' with e | e | e
    · exact absurd ⟨y, h2.sp, h2.at_⟩ (h1' k e)
    · exact e
    · exact absurd ⟨y', h2'.sp, h2'.at_⟩ (h1 k' e)
  subst hk
  obtain rfl := h2.uniq h2'
  rw [Gwy.uniq k y m m' h3 h3']
theorem find_rn (h0 : ∀ l ∈ ls, ∀ x ∈ l, (0 : Int) ≤ x) (hs : ∀ l ∈ ls, l.Pairwise (· ≤ ·)) (t : Nat) : match findN ls t with
    | none => ∀ q, q < t → ∀ k, ¬ ∃ y, Sp ls q y ∧ At ls q k y
    | some l => ∃ q, q < t ∧ (∀ q', q' < q → ∀ k, ¬ ∃ y, Sp ls q' y ∧ At ls q' k y) ∧ Rn ls q l := by
  have no : ∀ q, ¬ Ry ls q ls.length q → ∀ k, ¬ ∃ y, Sp ls q y ∧ At ls q k y := by
    rintro q h k ⟨y, hy, ha⟩
    refine h (Ry.most (m := k + 1) ?_)
    rcases ha with ⟨rfl, rfl⟩ | ⟨_, _, h1, _⟩
    · exact Ry.one hy
    · exact Ry.cons hy h1
  induction t with
  | zero => intro q hq; exact absurd hq (Nat.not_lt_zero _)
  | succ t ih =>
    unfold findN
    cases e : findN ls t with
    | some l =>
      rw [e] at ih
      obtain ⟨q, hq, h⟩ := ih
      exact ⟨q, by omega, h⟩
    | none =>
      rw [e] at ih
      have h1 := (most_gd (ls := ls) (q := t) h0 ls.length).2
      cases e2 : (mostN ls t ls.length).2 with
      | none =>
        rw [e2] at h1
        intro q hq
        by_cases eq : q = t
        · subst eq
          exact no q h1
        · exact ih q (by omega)
      | some l =>
        rw [e2] at h1
        obtain ⟨k, hk, h2, h3⟩ := h1
        have h4 := ring_iff.1 h2
        obtain ⟨y, l', hl, hp, hg⟩ := gd_path h0 hs k t ⟨h4.2, h4.1⟩
        rw [hg] at h3
        cases h3
        exact ⟨t, by omega, ih, k, y, l', hk, h4.2, hl, hp, rfl⟩
end
end Go.Proofs.YtpgodnaebkmhhaaGreat.Df
