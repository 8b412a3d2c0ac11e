import Derived.Test.YtijbmchgajhkeaaSuTell
namespace Go.Proofs.Ytijbmchgajhkeaa
open Go.RowKit Go.Sort Go.Maps Go.Shelf
open Tt (Tl)
attribute [local go_sem ↓] Go.wp_at_zero Go.wp_at_succ

theorem run_makeMapH (n : Nat) (w : World) : (Instr.makeMap 63 (some (.int .i64 (n : Int)))).run Try.prog w = .ok (.map (some w.heap.size)) (w.alloc (.map #[] 0)) := by
  simp [Instr.makeMap, run_underlying Try.underlying63, asInt, asIntOf, Result.andThen]
/-- The keys while they are copied: those of ss are there, each with a tally of its own. -/
structure Cc (w : World) (N nb lo : Nat) (A : List Ct) (ss : List Tm) (T B : Tm → Nat) (wr : World) : Prop where
  mp : Mp ZT wr nb ss.length (fun t => if t ∈ ss then some (T t) else none)
  each : ∀ t ∈ ss, Tl wr (T t) (B t) 42 N (gA A t) ∧ lo ≤ T t ∧ lo ≤ B t
  inj : ∀ t u, t ∈ ss → u ∈ ss → B t = B u → t = u
  nb : w.heap.size ≤ nb ∧ nb < lo
  bl : Below w.heap.size w wr
theorem Cc.below {w wr w' : World} {N nb lo : Nat} {A : List Ct} {ss : List Tm} {T B : Tm → Nat} (h : Cc w N nb lo A ss T B wr) (hb : Below wr.heap.size wr w') : Cc w N nb lo A ss T B w' :=
  ⟨h.mp.kept (hb.block nb h.mp.lt), fun t ht => ⟨(h.each t ht).1.below hb, (h.each t ht).2⟩, h.inj, h.nb, h.bl.trans (hb.mono h.bl.size)⟩
/-- The iterator goes on. -/
theorem Cc.iter {w wr w' : World} {N nb lo it : Nat} {A : List Ct} {ss : List Tm} {T B : Tm → Nat} {o : Obj} (h : Cc w N nb lo A ss T B wr) (hg : wr.grownBy w' (some it)) (hit : wr.heap[it]? = some o) (ho : ∀ es cl, o ≠ .map es cl) (ho2 : ∀ cs ty fz, o ≠ .cells cs ty fz) (hw : w.heap.size ≤ it) : Cc w N nb lo A ss T B w' := by
  have hk : Kp (fun k => k = it) wr w' := Kp.grownBy hg (fun k hk => by simpa using hk.symm)
  have hn : ∀ {k : Nat} {es : Array MapEntry} {cl : Nat}, wr.heap[k]? = some (.map es cl) → ¬ k = it := fun hk2 e => by
    rw [e, hit] at hk2
    exact ho _ _ (Option.some.inj hk2)
  obtain ⟨es, cl, hnb⟩ := h.mp.blk
  refine ⟨h.mp.kept (hk.block nb h.mp.lt (hn hnb)), fun t ht => ⟨(h.each t ht).1.kp hk (fun e => ?_) ?_, (h.each t ht).2⟩, h.inj, h.nb, h.bl.trans (hk.below h.bl.size fun k e => by rw [e]; exact hw)⟩
  · have := (h.each t ht).1.blk
    rw [e, hit] at this
    exact ho2 _ _ _ (Option.some.inj this)
  · obtain ⟨es, cl, hb⟩ := (h.each t ht).1.ta.blk
    exact hn hb
/-- One more. -/
theorem Cc.put {w wr w5 w6 : World} {N nb lo : Nat} {A : List Ct} {ss : List Tm} {T B : Tm → Nat} {x : Tm} (h : Cc w N nb lo A ss T B wr) (hx : x ∉ ss) (hlo : lo ≤ wr.heap.size) (hT : Tl w5 (wr.heap.size + 1) wr.heap.size 42 N (gA A x)) (hg : Below wr.heap.size wr w5) (hM : Mp ZT w6 nb (ss.length + 1) (updP (fun t => if t ∈ ss then some (T t) else none) x (some (wr.heap.size + 1)))) (hk : Kp (fun k => k = nb) w5 w6) :
    Cc w N nb lo A (ss ++ [x]) (fun t => if t = x then wr.heap.size + 1 else T t) (fun t => if t = x then wr.heap.size else B t) w6 := by
  obtain ⟨es, cl, hnb⟩ := (h.below hg).mp.blk
  have hnlt := h.nb
  refine ⟨?_, fun t ht => ?_, fun t u ht hu e => ?_, h.nb, (h.bl.trans (hg.mono h.bl.size)).trans (hk.below (Nat.le_trans h.bl.size hg.size) fun k e => by rw [e]; exact h.nb.1)⟩
  · rw [List.length_append]
    refine hM.re fun t => ?_
    by_cases e : t = x
    · rw [e, updP_same]; simp
    · rw [updP_other _ _ e]
      simp [e]
  · by_cases e : t = x
    · subst e
      simp only [if_true]
      exact ⟨hT.kp hk (tl_ne hT hnb) (by omega), by omega, hlo⟩
    · simp only [if_neg e]
      have ht' : t ∈ ss := by simpa [e] using ht
      have h2 := h.each t ht'
      have h3 := h2.1.below hg
      exact ⟨h3.kp hk (tl_ne h3 hnb) (by omega), h2.2⟩
  · by_cases e1 : t = x <;> by_cases e2 : u = x
    · rw [e1, e2]
    · have hu' : u ∈ ss := by simpa [e2] using hu
      have := (h.each u hu').1.ta.lt
      simp only [if_pos e1, if_neg e2] at e
      omega
    · have ht' : t ∈ ss := by simpa [e1] using ht
      have := (h.each t ht').1.ta.lt
      simp only [if_neg e1, if_pos e2] at e
      omega
    · simp only [if_neg e1, if_neg e2] at e
      exact h.inj t u (by simpa [e1] using ht) (by simpa [e2] using hu) e
theorem ranges_re {P : Program} {k : TypeId} {R : Value → Option (DataW Unit × List MemPlace)} {w w' : World} {b r n : Nat} {D : DataW Unit} {left : Lit → Bool} {cnt : Nat} (h : w.ranges P k R b r n D left cnt) (hb : w'.heap[b]? = w.heap[b]?) (hr : w'.heap[r]? = w.heap[r]?) : w'.ranges P k R b r n D left cnt := by
  obtain ⟨es, clock, since, seen, c0, h1, h2, h3, h4, h5, h6⟩ := h
  exact ⟨es, clock, since, seen, c0, hb.trans h1, h2, h3, h4, hr.trans h5, h6⟩
theorem Mw.clone {P : Program} {k e : TypeId} {K : Type} {Z : KK P k K} {w : World} {b n : Nat} {f : K → Int} {ks : K → Prop} (h : Mw Z e w b n f ks) : ∃ es cl, w.heap[b]? = some (.map es cl) ∧ Mw Z e (w.alloc (.map es cl)) w.heap.size n f ks := by
  obtain ⟨D, ⟨es, clock, h1, h2⟩, h3⟩ := h
  exact ⟨es, clock, h1, D, ⟨es, clock, heap_new' _ _, h2⟩, h3⟩
set_option maxHeartbeats 4000000 in
set_option maxRecDepth 100000 in
theorem scopy_full {S : Nat → Prop} {N sb mb kb : Nat} {A : List Ct} {T : Tm → Option Nat} {B : Tm → Nat} (w : World) (h : Fu w S N sb mb kb (fun s => (sm A s).1) (Has A) T B (gA A)) (hT : ∀ u, (T u).isSome = true ↔ Hld A u) (hN : N ≤ 100000000) :
    Calls Try.prog 14 #[.pointer (some ⟨sb, 0, none⟩)] w fun e w' => ∃ sc, e = .returned (.pointer (some ⟨sc, 0, none⟩)) ∧ Hid (Su w' (fun k => w.heap.size ≤ k) N sc A ∧ Below w.heap.size w w') := by
  have hmx : Try.prog.follows .mixedOrders = true := by kernel_rfl
  have hmh := run_makeMapH
  have HF := hid h
  have HT := hid hT
  obtain ⟨D, hown, h1, h2⟩ := h.mp
  have c0 := h.c0
  have c1 := h.c1
  have hlt := h.lt
  have hlen := fun ty => hown.len Try.underlying63 ty
  have hszD := hown.size_le
  have HAT := hid h1
  have HHS := hid h2
  obtain ⟨nb, hnb⟩ : ∃ nb, nb = w.heap.size := ⟨_, rfl⟩
  obtain ⟨W1, hW1⟩ : ∃ W1, W1 = w.alloc (.map #[] 0) := ⟨_, rfl⟩
  have G1 : Gr w W1 := by rw [hW1]; exact (Gr.refl _).alloc _
  have hown1 : W1.ownsMap Try.prog 32 ptE kb N D := by
    obtain ⟨es, cl, hb, h3⟩ := hown
    exact ⟨es, cl, (G1.below.block kb (Array.getElem?_eq_some_iff.1 hb).1).trans hb, h3⟩
  have HC0 : Hid (Cc w N nb (nb + 1) A [] (fun _ => 0) (fun _ => 0) W1) := by
    refine ⟨?_, fun t ht => (by cases ht), fun t u ht => (by cases ht), ⟨by omega, by omega⟩, G1.below⟩
    have := Mp.made (Z := ZT) w
    rw [← hW1, ← hnb] at this
    exact this.re fun s => by simp
  have hz1 : Hid (W1.heap.size = nb + 1) := by rw [hW1, hnb]; simp [Hid]
  have c11 := (G1.cell (o := 1) hlt).trans c1
  have hlt1 := Nat.lt_of_lt_of_le hlt G1.size
  clear h hT h1 h2 hown
  go_enter Try.func14, Try.ntmps14
  go_upto_region 4 with fail
  rw [← hnb, ← hW1]
  have HNB := hid hnb
  have HG1 := hid G1
  clear hW1 hnb G1
  go_wp2_with (first
    | (at_range; refine wpList_range_own _ rfl _ 63 rfl 32 64 ZT.law Try.underlying63 _ kb N _ rfl hown1 ?_; intro w0 hrg0 hg0 hs0)
    | go_in)
  obtain ⟨it, hit⟩ : ∃ it, it = W1.heap.size := ⟨_, rfl⟩
  rw [← hit] at hrg0
  rw [← hit]
  have HC1 : Hid (Cc w N nb (nb + 1) A [] (fun _ => 0) (fun _ => 0) w0) := HC0.out.below ⟨hg0.os, hg0.tape, hg0.output, hg0.size, fun k hk => hg0.block k hk (by simp)⟩
  have hlo : Hid (nb + 1 = it ∧ w.heap.size ≤ it) := ⟨by have := hz1.out; omega, by have := HG1.out.size; omega⟩
  have hw0 : Hid (it ≤ w0.heap.size) := by rw [hit]; exact hg0.size
  have HSb : Hid (sb < w.heap.size ∧ w.cell? ⟨sb, 0, none⟩ = some (.map (some mb))) := ⟨hlt, c0⟩
  clear hg0 hs0 c11 hlt1 hlen hown1 HC0 hz1 hit c0 c1 hlt
  go_loopw [4, 5] (fun _ _ wr => ∃ (left : Lit → Bool) (cnt : Nat) (ss : List Tm) (T' B' : Tm → Nat), wr.ranges Try.prog 32 ptE kb it N D left cnt ∧ ss.length + cnt ≤ Maps.size D ∧ Coll ZT D left ss ∧ Hid (Cc w N nb (nb + 1) A ss T' B' wr ∧ it ≤ wr.heap.size))
    (fun _ _ wr => wr.rangeLeft kb it)
  case atStart => exact ⟨_, _, [], _, _, hrg0, by simp, Coll.start D, HC1.out, hw0.out⟩
  case round =>
    obtain ⟨left, cnt, ss, T', B', hrg, hcs, hC, HI⟩ := hrel
    go_wp2_with (first
      | (at_next; refine wpList_next_ranges _ rfl _ rfl 32 ZT.law ptE tv pv (fun key kl hk => invTm key kl hk) (fun v y hv => by obtain ⟨o, rfl, _⟩ := ptE_inv hv; exact ⟨o, rfl⟩) kb it N _ _ _ rfl hrg ?_ ?_)
      | go_in)
    · intro hc0 hl0
      have hcb := HI.out.1.bl
      have c0r := (hcb.cell (p := ⟨sb, 0, none⟩) HSb.out.1).trans HSb.out.2
      have hltr := Nat.lt_of_lt_of_le HSb.out.1 hcb.size
      have hFr := HF.out.below hcb
      obtain ⟨es, cl, hmk, hMc⟩ := hFr.mw.clone
      have hcl := AnyW.maps_Clone Try.lCloneX mb es cl wr hmk
      change Calls Try.prog 31 _ _ _ at hcl
      have HMC := hid hMc
      have hss : Hid (∀ t, t ∈ ss ↔ Hld A t) := fun t => by
        rw [hC.2 t, hl0]
        simp only [and_true]
        rw [HHS.out t]
        exact HT.out t
      clear hFr hMc hmk hcb hC
      go_wp2_with fail
      refine hcl.mono ?_
      rintro e w9 ⟨rfl, rfl⟩
      clear hcl
      go_wp2
      go_ret
      refine ⟨_, rfl, .inr ⟨wr.heap.size, nb, fun t => if t ∈ ss then some (T' t) else none, B', ?_, fun t => ?_⟩, ?_⟩
      · have hb2 : Below wr.heap.size wr ((wr.alloc (.map es cl)).alloc (.cells #[.map (some wr.heap.size), .map (some nb)] 67)) := (((Gr.refl wr).alloc _).alloc _).below
        have hCe := HI.out.1.below hb2
        have hnb := HI.out.1.nb
        have hlt := HI.out.1.mp.lt
        have hbw := HI.out.1.bl.size
        refine ⟨?_, ?_, hbw, hnb.1, by omega, HMC.out.kept (Below.heap_alloc _ _ _ (by simp)), hCe.mp.mono (by omega), fun t q hq => ?_, fun t q hq => ?_, fun t u q r hq hr e => ?_⟩
        · have := heap_new' (wr.alloc (.map es cl)) (.cells #[.map (some wr.heap.size), .map (some nb)] 67)
          simpa using this
        · have := HI.out.1.bl.size
          simp; omega
        · by_cases e : t ∈ ss
          · simp only [if_pos e] at hq
            cases hq
            exact (hCe.each t e).1
          · simp only [if_neg e] at hq
            cases hq
        · by_cases e : t ∈ ss
          · simp only [if_pos e] at hq
            cases hq
            have h3 := hCe.each t e
            have h4 := (HI.out.1.each t e).1.ta.lt
            refine ⟨by omega, by omega, by omega, by omega⟩
          · simp only [if_neg e] at hq
            cases hq
        · by_cases e1 : t ∈ ss
          · by_cases e2 : u ∈ ss
            · exact hCe.inj t u e1 e2 e
            · simp only [if_neg e2] at hr
              cases hr
          · simp only [if_neg e1] at hq
            cases hq
      · rw [← hss.out t]
        by_cases e : t ∈ ss <;> simp [e]
      · exact HI.out.1.bl.trans ((((Gr.refl wr).alloc _).alloc _).below.mono HI.out.1.bl.size)
    · intro ta tb tc tp c kl yd yp w2 cnt2 hkey hlk hv hat hrg2 hlt2 hg2 hs2 hen
      obtain ⟨x, hx⟩ : ∃ x : Tm, x = ⟨(ta, tb, tc), tp⟩ := ⟨_, rfl⟩
      rw [← hx] at hkey hen ⊢
      clear hx tp ta tb tc
      obtain rfl : kl = ZT.lit x := by
        have h7 := (ZT.key x).symm.trans hkey
        exact (Option.some.inj h7).symm
      have hhas : Maps.has D (ZT.lit x) = true := has_true_of_atKey hat
      obtain ⟨q, hq⟩ : ∃ q, T x = some q := Option.isSome_iff_exists.1 (by rw [← HHS.out x]; exact hhas)
      have hcq : c = some q := by
        obtain ⟨o, e1, e2⟩ := ptE_inv hv
        have e3 := hat .nil
        rw [HAT.out x, hq] at e3
        have e4 := congrArg Prod.fst e2
        rw [pv_inj e1]
        have e5 : pd (some q) = pd o := e3.trans e4
        exact (pd_inj e5).symm
      subst hcq
      have hen : (Instr.entry (.pointer (some ⟨it, 0, none⟩))).run Try.prog w2 = .ok (.tuple #[tv x, .pointer (some ⟨q, 0, none⟩)]) w2 := hen
      have hnx : x ∉ ss := fun hx => by have := ((hC.2 x).1 hx).2; rw [hlk] at this; cases this
      have HNX := hid hnx
      have HC2 := hid (hC.step hlk hat)
      have HLT := hid hlt2
      have HI2 : Hid (Cc w N nb (nb + 1) A ss T' B' w2 ∧ it ≤ w2.heap.size ∧ it < w2.heap.size) := by
        obtain ⟨es, clock, since, seen, c0, _, _, _, _, hob, _⟩ := hrg
        exact ⟨HI.out.1.iter hg2 hob (fun _ _ e => by cases e) (fun _ _ _ e => by cases e) hlo.out.2, Nat.le_trans HI.out.2 hg2.size, Nat.lt_of_lt_of_le (Array.getElem?_eq_some_iff.1 hob).1 hg2.size⟩
      obtain ⟨W4, hW4⟩ : ∃ W4, W4 = w2.alloc (.cells #[.int .u64 x.1.1, .int .u64 x.1.2.1, .int .u64 x.1.2.2] 32) := ⟨_, rfl⟩
      obtain ⟨b4, hb4⟩ : ∃ b4, b4 = w2.heap.size := ⟨_, rfl⟩
      have G4 : Gr w2 W4 := by rw [hW4]; exact (Gr.refl _).alloc _
      have HX4 : Hid (W4.heap[b4]? = some (.cells #[.int .u64 x.1.1, .int .u64 x.1.2.1, .int .u64 x.1.2.2] 32 (0, 0))) := by rw [hW4, hb4]; exact heap_new' _ _
      have HCD : Hid (Cc w N nb (nb + 1) A ss T' B' W4.drew) := HI2.out.1.below (G4.drew).below
      have HTq := hid ((HF.out.below HCD.out.bl).each x q hq)
      have hcp := Tt.copy_any W4.drew HTq.out
      have HRG := hid hrg2
      have HG4 := hid G4
      have hssz : ss.length < 1000000000 := by omega
      clear hs2 hv hat hkey hlk hhas hq hnx hrg2 hg2 hlt2 G4
      go_upto_region 7 with fail
      rw [← hW4, ← hb4]
      clear hW4 hb4 hen
      have hS0 : (fun X : World => Hid (X.heap[b4]? = some (.cells #[.int .u64 x.1.1, .int .u64 x.1.2.1, .int .u64 x.1.2.2] 32 (0, 0)))) W4.drew := HX4
      refine wp_regionD (S := fun X : World => Hid (X.heap[b4]? = some (.cells #[.int .u64 x.1.1, .int .u64 x.1.2.1, .int .u64 x.1.2.2] 32 (0, 0)))) (D := []) hmx ?_
      refine' wpAnyD_take (i := 0) (oi := { dst := some 24, op := Go.Op.move (Go.Operand.tmp 3), type := 63, pos := "sums.go:80", after := #[], guard := none }) (v := _) rfl (by kernel_rfl) (by kernel_rfl) (by kernel_rfl) (fun _ _ _ h => h) (by kernel_rfl) (Or.inl ⟨by rfl, ?hy1⟩) hS0 ?rest1
      case hy1 => (intro W hSw; go_simp; try (with_reducible rfl))
      try simp only [Act.put, List.setIfInBounds_toArray, List.set_cons_zero, List.set_cons_succ]
      refine' wpAnyD_take (i := 1) (oi := { dst := some 25, op := Go.Op.load 32 (Go.Operand.tmp 4), type := 32, pos := "sums.go:80", after := #[], guard := none }) (v := _) rfl (by kernel_rfl) (by kernel_rfl) (by kernel_rfl) (fun _ _ _ h => h) (by kernel_rfl) (Or.inl ⟨by rfl, ?hy2⟩) hS0 ?rest2
      case hy2 => (intro W hSw; obtain ⟨m0, m1, m2, m3⟩ := bx_cell hSw.out; go_simp; try (with_reducible rfl))
      try simp only [Act.put, List.setIfInBounds_toArray, List.set_cons_zero, List.set_cons_succ]
      refine' wpAnyD_take (i := 2) (oi := { dst := some 26, op := Go.Op.move (Go.Operand.tmp 5), type := 64, pos := "sums.go:80", after := #[], guard := none }) (v := _) rfl (by kernel_rfl) (by kernel_rfl) (by kernel_rfl) (fun _ _ _ h => h) (by kernel_rfl) (Or.inl ⟨by rfl, ?hy3⟩) hS0 ?rest3
      case hy3 => (intro W hSw; go_simp; try (with_reducible rfl))
      try simp only [Act.put, List.setIfInBounds_toArray, List.set_cons_zero, List.set_cons_succ]
      refine wpAnyD_one (i := 3) (o := { dst := some 27, op := Go.Op.call { callee := Go.Callee.value (Go.Operand.func 30), args := #[Go.Operand.tmp 26], argTypes := #[64] }, type := 64, pos := "sums.go:80", after := #[{ on := 2, ground := Go.Ground.data }], guard := none }) (by kernel_rfl) rfl (fun K hK => ?_)
      rw [if_pos (by kernel_rfl)]
      go_simp
      refine hcp.mono ?_
      rintro e W5 ⟨rfl, ht5, hg5⟩
      have HC5 := hid (HCD.out.below hg5.below)
      have HX5 : Hid (W5.heap[b4]? = some (.cells #[.int .u64 x.1.1, .int .u64 x.1.2.1, .int .u64 x.1.2.2] 32 (0, 0))) := (hg5.below.block b4 (Array.getElem?_eq_some_iff.1 HX4.out).1).trans HX4.out
      have hS5 : (fun X : World => Hid (X.heap[b4]? = some (.cells #[.int .u64 x.1.1, .int .u64 x.1.2.1, .int .u64 x.1.2.2] 32 (0, 0)))) W5 := HX5
      have HT5 := hid ht5
      have HG5 := hid hg5
      clear ht5 hg5
      go_wp2_with fail
      refine hK.out _ _ (fun hD => hS5) ?_
      clear hK K
      try simp only [Act.put, List.setIfInBounds_toArray, List.set_cons_zero, List.set_cons_succ]
      refine wpAnyD_one (i := 4) (o := { dst := none, op := Go.Op.mapUpdate 63 (Go.Operand.tmp 24) (Go.Operand.tmp 25) (Go.Operand.tmp 27), type := 0, pos := "sums.go:80", after := #[{ on := 0, ground := Go.Ground.data }, { on := 1, ground := Go.Ground.data }, { on := 3, ground := Go.Ground.data }, { on := 3, ground := Go.Ground.chain }, { on := 0, ground := Go.Ground.phase }, { on := 1, ground := Go.Ground.phase }, { on := 2, ground := Go.Ground.phase }, { on := 3, ground := Go.Ground.phase }], guard := none }) (by kernel_rfl) rfl (fun K hK => ?_)
      rw [if_pos (by kernel_rfl)]
      obtain ⟨W6, hrun, hM6, hgb⟩ := HC5.out.mp.store (t := 63) Try.underlying63 (by unfold maxLen; omega) x (W4.drew.heap.size + 1)
      have hrun : (Instr.mapUpdate 63 (.map (some nb)) (tv x) (.pointer (some ⟨W4.heap.size + 1, 0, none⟩))).run Try.prog W5 = .ok () W6 := hrun
      have k6 : Kp (fun k => k = nb) W5 W6 := Kp.grownBy hgb (fun k hk => by simpa using hk.symm)
      have hne4 : b4 ≠ nb := by
        obtain ⟨es, cl, hk⟩ := HC5.out.mp.blk
        exact blk_ne HX5.out hk (by simp)
      have hS6 : (fun X : World => Hid (X.heap[b4]? = some (.cells #[.int .u64 x.1.1, .int .u64 x.1.2.1, .int .u64 x.1.2.2] 32 (0, 0)))) W6 := (k6.block b4 (Array.getElem?_eq_some_iff.1 HX5.out).1 hne4).trans HX5.out
      go_simp
      refine hK.out _ _ (fun hD => hS6) ?_
      clear hK K
      try simp only [Act.put, List.setIfInBounds_toArray, List.set_cons_zero, List.set_cons_succ]
      refine wpAnyD_done (by kernel_rfl) ?_ _
      have HFin : Hid (Cc w N nb (nb + 1) A (ss ++ [x]) (fun t => if t = x then W4.drew.heap.size + 1 else T' t) (fun t => if t = x then W4.drew.heap.size else B' t) W6) :=
        HCD.out.put HNX.out (by have := hlo.out.1; have := HI2.out.2.1; have := (HG4.out.drew).size; omega) HT5.out HG5.out.below hM6 k6
      have HRG6 : Hid (W6.ranges Try.prog 32 ptE kb it N D (fun z => left z && !z.sameKey (ZT.lit x)) cnt2) := by
        have hnb := HCD.out.nb
        have hkb := HF.out.mp.lt
        have hG : Gr w2 W5 := HG4.out.drew.trans HG5.out
        have hk2 : kb < w2.heap.size := Nat.lt_of_lt_of_le hkb HI2.out.1.bl.size
        refine ranges_re HRG.out ((k6.block kb (Nat.lt_of_lt_of_le hk2 hG.size) (by omega)).trans (hG.below.block kb hk2)) ((k6.block it (Nat.lt_of_lt_of_le HI2.out.2.2 hG.size) (by have := hlo.out.1; omega)).trans (hG.below.block it HI2.out.2.2))
      have HZ6 : Hid (it ≤ W6.heap.size) := Nat.le_trans HI2.out.2.1 (Nat.le_trans (HG4.out.drew.trans HG5.out).size k6.size)
      clear hS0 hS5 hS6 hrun hM6 hgb k6 hcp HC5 HX5 HT5 HG5 HCD
      go_wp2_with fail
      go_roundw
      case rel => exact ⟨_, cnt2, ss ++ [x], _, _, HRG6.out, by have := HLT.out; simp; omega, HC2.out, HFin.out, HZ6.out⟩
      case measure => rw [HRG6.out.left_eq, hrg.left_eq]; exact HLT.out
end Go.Proofs.Ytijbmchgajhkeaa
