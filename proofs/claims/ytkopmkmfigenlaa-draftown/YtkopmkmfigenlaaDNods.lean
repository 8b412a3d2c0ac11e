import Derived.Test.YtkopmkmfigenlaaDNod
namespace Go.Proofs.Ytkopmkmfigenlaa.Df
open Go.RowKit Go.Sort Wi
attribute [local go_sem ↓] Go.wp_at_zero Go.wp_at_succ

def EV : El NV where
  k := 10
  enc x := x.cells.toList
  len _ := rfl
  one x u hu := by
    simp at hu
    rcases hu with rfl | rfl | rfl | rfl | rfl | rfl | rfl | rfl | rfl | rfl <;> rfl
theorem infoV : (Try.prog.info? 67).map (fun i => (i.zero, i.size, i.bytes)) = some (some (.agg #[.int .i64 0, .int .i64 0, .int .i64 0, .slice none 0 0, .int .u64 0, .int .u64 0, .int .u64 0, .int .u64 0, .slice none 0 0, .bool false]), 10, 112) := by kernel_rfl
/-- The blocks of a node's lists. -/
def NV.bs (x : NV) : List Nat := x.cv.ownBlock.toList ++ x.dv.ownBlock.toList
theorem NV.bs_mem {x : NV} {k : Nat} : k ∈ x.bs ↔ x.cv.ownBlock = some k ∨ x.dv.ownBlock = some k := by simp [NV.bs]
theorem NO.kp {base : Nat} {S : Nat → Prop} {w w' : World} {x : NV} (h : NO base w x) (hk : Kp S w w') (hS : ∀ k ∈ x.bs, ¬ S k) : NO base w' x :=
  ⟨owns_kp hk h.code (fun k e => hS k (NV.bs_mem.2 (Or.inl e))), owns_kp hk h.conns (fun k e => hS k (NV.bs_mem.2 (Or.inr e))), h.apart⟩
theorem NO.lt {base : Nat} {w : World} {x : NV} (h : NO base w x) : ∀ k ∈ x.bs, base ≤ k ∧ k < w.heap.size := fun k hk => by
  rcases NV.bs_mem.1 hk with e | e
  · exact owns_rd h.code k e
  · exact owns_rd h.conns k e
theorem NO.base {b b' : Nat} {w : World} {x : NV} (h : NO b w x) (hb : b' ≤ b) : NO b' w x := ⟨owns_base h.code hb, owns_base h.conns hb, h.apart⟩
theorem NO.nodup {base : Nat} {w : World} {x : NV} (h : NO base w x) : x.bs.Nodup := by
  have h3 := h.apart
  unfold NV.bs
  cases hc : x.cv.ownBlock <;> cases hd : x.dv.ownBlock <;> simp
  intro e
  exact h3 _ hc (by rw [hd, e])
/-- A list of nodes, and their lists: every block has one owner. -/
structure NL (base : Nat) (w : World) (u : Value) (xs : List NV) : Prop where
  row : w.ownsRow base 67 10 u xs.length (fl EV xs)
  each : ∀ x ∈ xs, NO base w x
  dup : (u.ownBlock.toList ++ xs.flatMap NV.bs).Nodup
def VNL (base : Nat) (w : World) (u : Value) (l : List Nod) : Prop := ∃ xs : List NV, xs.map NV.n = l ∧ NL base w u xs
theorem NL.nil (base : Nat) (w : World) : NL base w (.slice none 0 0) [] := ⟨World.ownsRow_nil _ _ _ _, fun _ h => (by cases h), by simp [Value.ownBlock]⟩
theorem NL.lt {base : Nat} {w : World} {u : Value} {xs : List NV} (h : NL base w u xs) : ∀ k ∈ u.ownBlock.toList ++ xs.flatMap NV.bs, base ≤ k ∧ k < w.heap.size := fun k hk => by
  rcases List.mem_append.1 hk with e | e
  · exact owns_rd h.row k (by simpa using e)
  · obtain ⟨x, hx, hk⟩ := List.mem_flatMap.1 e
    exact (h.each x hx).lt k hk
theorem NL.kp {base : Nat} {S : Nat → Prop} {w w' : World} {u : Value} {xs : List NV} (h : NL base w u xs) (hk : Kp S w w') (hS : ∀ k ∈ u.ownBlock.toList ++ xs.flatMap NV.bs, ¬ S k) : NL base w' u xs :=
  ⟨owns_kp hk h.row (fun k e => hS k (by simp [e])), fun x hx => (h.each x hx).kp hk (fun k hk => hS k (List.mem_append.2 (Or.inr (List.mem_flatMap.2 ⟨x, hx, hk⟩)))), h.dup⟩
theorem NL.base {b b' : Nat} {w : World} {u : Value} {xs : List NV} (h : NL b w u xs) (hb : b' ≤ b) : NL b' w u xs := ⟨owns_base h.row hb, fun x hx => (h.each x hx).base hb, h.dup⟩
/-- One more: the row has grown, where it stood or anew. -/
theorem nl_more {base M : Nat} {w5 w6 : World} {u : Value} {xs : List NV} {x : NV} {g c : Nat} (h : NL base w5 u xs) (hM : ∀ k ∈ u.ownBlock.toList ++ xs.flatMap NV.bs, k < M) (hb : base ≤ M) (hx : NO M w5 x)
    (h1 : w6.ownsRow base 67 10 (.slice (some ⟨g, 0, none⟩) (xs.length + 1) c) (xs.length + 1) (fl EV xs ++ EV.enc x)) (h2 : w5.grownBy w6 u.ownBlock) (h3 : u.ownBlock = some g ∨ w5.heap.size ≤ g) : NL base w6 (.slice (some ⟨g, 0, none⟩) (xs.length + 1) c) (xs ++ [x]) := by
  have hk2 : Kp (fun k => u.ownBlock = some k) w5 w6 := Kp.grownBy h2 (fun _ h => h)
  have hd := h.dup
  have hlt := h.lt
  have hold : ∀ k ∈ xs.flatMap NV.bs, u.ownBlock ≠ some k := fun k hk e => by
    rw [e] at hd
    simp only [Option.toList_some, List.cons_append, List.nil_append, List.nodup_cons] at hd
    exact hd.1 hk
  have hxu : ∀ k ∈ x.bs, u.ownBlock ≠ some k := fun k hk e => by
    have h5 := hM k (by simp [e])
    have h6 := (hx.lt k hk).1
    omega
  refine ⟨owns_re h1 (by simp) (by rw [fl_append, fl_one]), fun y hy => ?_, ?_⟩
  · rcases List.mem_append.1 hy with hy | hy
    · exact (h.each y hy).kp hk2 (fun k hk => hold k (List.mem_flatMap.2 ⟨y, hy, hk⟩))
    · rw [List.mem_singleton] at hy
      subst hy
      exact (hx.kp hk2 hxu).base hb
  · rw [List.flatMap_append, List.flatMap_singleton, show (Value.slice (some ⟨g, 0, none⟩) (xs.length + 1) c).ownBlock = some g from rfl]
    simp only [Option.toList_some, List.cons_append, List.nil_append, List.nodup_cons]
    have hdx : (xs.flatMap NV.bs).Nodup := (List.nodup_append.1 hd).2.1
    refine ⟨fun hg => ?_, List.nodup_append.2 ⟨hdx, hx.nodup, fun a ha c hb e => ?_⟩⟩
    · rcases List.mem_append.1 hg with hg | hg
      · rcases h3 with h3 | h3
        · exact hold g hg h3
        · have := (hlt g (List.mem_append.2 (Or.inr hg))).2
          omega
      · rcases h3 with h3 | h3
        · exact hxu g hg h3
        · have := (hx.lt g hg).2
          omega
    · subst e
      have h5 := hM a (List.mem_append.2 (Or.inr ha))
      have h6 := (hx.lt a hb).1
      omega
set_option maxHeartbeats 2000000 in
theorem tnodel_any {rb a : Nat} {v : Value} {L : List UInt8} (most : Nat) (hmo : most ≤ 48) (w : World) (hR : Rd w rb v L a 0) : Calls Try.prog 46 #[tv rb, .int .u64 (most : Nat), .func (.func 47) #[tv rb] #[]] w (Tk (lst most pnod) (VNL w.heap.size) rb v L a w) := by
  have hmx : Try.prog.follows .mixedOrders = true := by kernel_rfl
  have HR := hid hR
  have hsz := hR.lt
  have hup := fun W (hg : Gr w W) => upto_any most 2 W (hR.gr hg)
  have hone := fun (W : World) (b : Nat) (h : Rd W rb v L b 0) => tnode_any W h
  have HB : Hid (rb < w.heap.size ∧ ∀ k, v.ownBlock = some k → k < w.heap.size) := ⟨hsz, hR.ls.blk⟩
  have hle := hR.le
  clear hR
  go_enter Try.func46, Try.ntmps46
  go_wp2_with fail
  go_at_call 69
  refine (hup _ ((Gr.refl _).alloc _)).mono ?_
  intro r w4 h4
  cases e4 : num most 2 L a with
  | inl x =>
    obtain ⟨rfl, k4⟩ := h4.bad e4
    go_wp2_with fail
    exact ⟨rfl, Tk.no (Rp.none e4) (kp_then ((Gr.refl w).alloc _) k4)⟩
  | inr x =>
    obtain ⟨u, rfl, rfl, r4, k4⟩ := h4.good e4
    have hx := (num_back (by omega) hle e4).1
    have I0 : Hid (NL w.heap.size w4 (.slice none 0 0) [] ∧ Rd w4 rb v L x.2 0 ∧ Kp (fun k => k = rb) w w4 ∧ Rp pnod most L a x.1 (([] : List NV).map NV.n) x.2) := ⟨NL.nil _ _, r4, kp_then ((Gr.refl w).alloc _) k4, Rp.start e4⟩
    clear h4 k4 r4 hup e4
    obtain ⟨n, b0⟩ := x
    simp only at I0 hx ⊢
    go_wp2_with fail
    go_loopw [7, 11] (fun s7 s11 wr => ∃ (done : List NV) (b : Nat), done.length ≤ n ∧ s11 = .int .u64 (done.length : Nat) ∧ Hid (NL w.heap.size wr s7 done ∧ Rd wr rb v L b 0 ∧ Kp (fun k => k = rb) w wr ∧ Rp pnod most L a n (done.map NV.n) b)) (fun _ s11 _ => n - (RowKit.intOf s11).toNat)
    case atStart => exact ⟨[], b0, Nat.zero_le _, rfl, I0.out⟩
    case round =>
      clear I0
      obtain ⟨done, b, hd, rfl, HI⟩ := hrel
      by_cases hlt : done.length < n
      · have hltz : (done.length : Int) < (n : Int) := by omega
        have hwz : IntKind.u64.wrap ((done.length : Int) + 1) = ((done.length + 1 : Nat) : Int) := by rw [IntKind.wrap_u64]; omega
        have hlm : (done.map NV.n).length < n := by simpa using hlt
        obtain ⟨q, m, c, hs7⟩ := owns_form HI.out.1.row
        go_wp2_with fail
        go_at_call 47
        refine (hone _ b HI.out.2.1).mono ?_
        intro r w5 h5
        cases e5 : pnod L b with
        | inl y =>
          obtain ⟨rfl, k5⟩ := h5.bad e5
          go_wp2_with fail
          exact ⟨rfl, Tk.no (HI.out.2.2.2.bad hlm e5) (HI.out.2.2.1.trans k5 (fun _ _ h => h))⟩
        | inr y =>
          obtain ⟨u, rfl, ⟨x, hxn, rfl, hxo⟩, r5, k5⟩ := h5.good e5
          obtain ⟨y1, y2⟩ := y
          simp only at r5 e5 hxn
          subst hxn
          have N5 : Hid (NL w.heap.size w5 (.slice q m c) done) := (hs7 ▸ HI.out.1).kp k5 (fun k hk e => by have := ((hs7 ▸ HI.out.1 : NL w.heap.size wr (.slice q m c) done).lt k hk).1; omega)
          have K5 := hid (HI.out.2.2.1.trans k5 (fun _ _ h => h))
          have R5 := hid r5
          have P5 := hid (HI.out.2.2.2.more hlm e5)
          have X5 := hid hxo
          have S5 : Hid (∀ k ∈ (Value.slice q m c).ownBlock.toList ++ done.flatMap NV.bs, k < wr.heap.size) := fun k hk => ((hs7 ▸ HI.out.1 : NL w.heap.size wr (.slice q m c) done).lt k hk).2
          have Z5 : Hid (w.heap.size ≤ wr.heap.size ∧ wr.heap.size ≤ w5.heap.size) := ⟨HI.out.2.2.1.size, k5.size⟩
          clear h5 k5 r5 e5 HI hxo
          go_wp2_with (at_builtin; refine wpApp1 EV Try.underlying22 infoV rfl (by decide) rfl _ _ rfl w.heap.size _ done.length _ rfl N5.out.row x rfl (by omega) (by unfold maxLen; omega) K5.out.size _ rfl _ ?_)
          intro g cap w6 h1 h2 h3
          have hu := fun k hk => (owns_rd N5.out.row k hk).1
          have N6 : Hid (NL w.heap.size w6 (.slice (some ⟨g, 0, none⟩) (done.length + 1) cap) (done ++ [x]) ∧ Rd w6 rb v L y2 0 ∧ Kp (fun k => k = rb) w w6 ∧ Rp pnod most L a n ((done ++ [x]).map NV.n) y2) := by
            refine ⟨nl_more N5.out S5.out Z5.out.1 X5.out h1 h2 h3, grown_rd R5.out HB.out h2 hu, grown_kp K5.out rfl h2 hu, ?_⟩
            rw [List.map_append, List.map_singleton]
            exact P5.out
          clear h1 h2 h3 hu N5 K5 R5 P5 X5 S5 Z5
          go_wp2_with fail
          go_roundw
          case rel => exact ⟨done ++ [x], y2, by rw [List.length_append, List.length_singleton]; omega, by simp, N6.out⟩
          case measure => simp [RowKit.intOf]; omega
      · have hltz : ¬ (done.length : Int) < (n : Int) := by omega
        go_wp2_with fail
        go_ret
        exact Tk.yes (HI.out.2.2.2.fin (by simp; omega)) HI.out.2.2.1 HI.out.2.1 ⟨done, rfl, HI.out.1⟩
end Go.Proofs.Ytkopmkmfigenlaa.Df
