import Derived.Test.YtkopmkmfigenlaaDTk2
namespace Go.Proofs.Ytkopmkmfigenlaa.Df
open Go.RowKit Go.Sort Wi
attribute [local go_sem ↓] Go.wp_at_zero Go.wp_at_succ

theorem rep_step {α : Type} (p : Pa α) (n : Nat) (L : List UInt8) (b : Nat) : p.rep (n + 1) L b = match p L b with
  | .inl e => .inl e
  | .inr x => match p.rep n L x.2 with
    | .inl e => .inl e
    | .inr y => .inr (x.1 :: y.1, y.2) := by
  simp only [Pa.rep, Pa.bind, Pa.map]
  cases p L b with
  | inl e => rfl
  | inr x =>
    dsimp only
    cases p.rep n L x.2 <;> rfl
/-- How far the reading of a list has come. -/
def Rp {α : Type} (p : Pa α) (most : Nat) (L : List UInt8) (a n : Nat) (done : List α) (b : Nat) : Prop := done.length ≤ n ∧ lst most p L a = match p.rep (n - done.length) L b with
  | .inl e => .inl e
  | .inr y => .inr (done ++ y.1, y.2)
section
variable {α : Type} {p : Pa α} {most : Nat} {L : List UInt8} {a n b : Nat} {done : List α}
theorem Rp.start {x : Nat × Nat} (h : num most 2 L a = .inr x) : Rp p most L a x.1 [] x.2 := by
  refine ⟨Nat.zero_le _, ?_⟩
  simp only [lst, Pa.bind, h, List.length_nil, Nat.sub_zero]
  cases p.rep x.1 L x.2 <;> rfl
theorem Rp.none {e : Nat × Nat} (h : num most 2 L a = .inl e) : lst most p L a = .inl e := by simp only [lst, Pa.bind, h]
theorem Rp.bad (h : Rp p most L a n done b) (hn : done.length < n) {e : Nat × Nat} (hp : p L b = .inl e) : lst most p L a = .inl e := by
  obtain ⟨m, hm⟩ : ∃ m, n - done.length = m + 1 := ⟨n - done.length - 1, by omega⟩
  rw [h.2, hm, rep_step, hp]
theorem Rp.more (h : Rp p most L a n done b) (hn : done.length < n) {x : α × Nat} (hp : p L b = .inr x) : Rp p most L a n (done ++ [x.1]) x.2 := by
  obtain ⟨m, hm⟩ : ∃ m, n - done.length = m + 1 := ⟨n - done.length - 1, by omega⟩
  refine ⟨by rw [List.length_append, List.length_singleton]; omega, ?_⟩
  rw [h.2, hm, rep_step, hp, List.length_append, List.length_singleton, show n - (done.length + 1) = m by omega]
  simp only
  cases p.rep m L x.2 with
  | inl e => rfl
  | inr y => simp
theorem Rp.fin (h : Rp p most L a n done b) (hn : done.length = n) : lst most p L a = .inr (done, b) := by
  rw [h.2, hn, Nat.sub_self]
  simp [Pa.rep, Pa.ret]
end
/-- A list that is read: a row of its own. -/
abbrev VL {α : Type} (E : El α) (T : TypeId) (base : Nat) (w : World) (u : Value) (l : List α) : Prop := w.ownsRow base T E.k u l.length (fl E l)
theorem owns_rd {E : Nat} {w : World} {base : Nat} {T : TypeId} {u : Value} {n : Nat} {xs : List Value} (h : w.ownsRow base T E u n xs) : ∀ k, u.ownBlock = some k → base ≤ k ∧ k < w.heap.size := fun k hk => h.lt k hk
theorem owns_form {E : Nat} {w : World} {base : Nat} {T : TypeId} {u : Value} {n : Nat} {xs : List Value} (h : w.ownsRow base T E u n xs) : ∃ q m c, u = .slice q m c := by
  obtain ⟨_, ⟨h0, _⟩ | ⟨g', cap', cur, hv, _⟩⟩ := h
  · exact ⟨_, _, _, h0⟩
  · exact ⟨_, _, _, hv⟩
/-- A row of one's own has grown. -/
theorem grown_kp {rb B : Nat} {u : Value} {w w1 w2 : World} (h : Kp (fun k => k = rb) w w1) (hB : w.heap.size = B) (hg : w1.grownBy w2 u.ownBlock) (hu : ∀ k, u.ownBlock = some k → B ≤ k) : Kp (fun k => k = rb) w w2 :=
  h.trans (T := fun k => u.ownBlock = some k) (Kp.grownBy hg (fun _ h => h)) (fun j hj e => by have := hu j e; omega)
theorem grown_rd {rb B a e : Nat} {v u : Value} {L : List UInt8} {w1 w2 : World} (h : Rd w1 rb v L a e) (hB : rb < B ∧ ∀ k, v.ownBlock = some k → k < B) (hg : w1.grownBy w2 u.ownBlock) (hu : ∀ k, u.ownBlock = some k → B ≤ k) : Rd w2 rb v L a e :=
  h.kp (Kp.grownBy (S := fun k => u.ownBlock = some k) hg (fun _ h => h)) (fun e => by have := hu _ e; omega) (fun k hk e => by have := hu _ e; have := hB.2 k hk; omega)
def EO : El Opd where
  k := 2
  enc o := [.int .i64 o.kind, .int .u64 (o.arg : Nat)]
  len _ := rfl
  one o u hu := by
    simp at hu
    rcases hu with rfl | rfl <;> rfl
theorem infoO : (Try.prog.info? 78).map (fun i => (i.zero, i.size, i.bytes)) = some (some (.agg #[.int .i64 0, .int .u64 0]), 2, 16) := by kernel_rfl
set_option maxHeartbeats 2000000 in
theorem topl_any {rb a : Nat} {v : Value} {L : List UInt8} (most : Nat) (hmo : most ≤ 48) (w : World) (hR : Rd w rb v L a 0) : Calls Try.prog 72 #[tv rb, .int .u64 (most : Nat), .func (.func 73) #[tv rb] #[]] w (Tk (lst most popd) (VL EO 78 w.heap.size) rb v L a w) := by
  have hmx : Try.prog.follows .mixedOrders = true := by kernel_rfl
  have HR := hid hR
  have hsz := hR.lt
  have hup := fun W (hg : Gr w W) => upto_any most 2 W (hR.gr hg)
  have hone := fun (W : World) (b : Nat) (h : Rd W rb v L b 0) => top_any W h
  have HB : Hid (rb < w.heap.size ∧ ∀ k, v.ownBlock = some k → k < w.heap.size) := ⟨hsz, hR.ls.blk⟩
  have hle := hR.le
  clear hR
  go_enter Try.func72, Try.ntmps72
  go_wp2_with fail
  go_at_call 69
  refine (hup _ ((Gr.refl _).alloc _)).mono ?_
  intro r w4 h4
  cases e4 : num most 2 L a with
  | inl x =>
    obtain ⟨rfl, k4⟩ := h4.bad e4
    go_wp2_with fail
    exact ⟨rfl, Tk.no (Rp.none e4) (kp_then ((Gr.refl w).alloc _) k4)⟩
  | inr x =>
    obtain ⟨u, rfl, rfl, r4, k4⟩ := h4.good e4
    have hx := (num_back (by omega) hle e4).1
    have I0 : Hid (w4.ownsRow w.heap.size 78 2 (.slice none 0 0) ([] : List Opd).length (fl EO []) ∧ Rd w4 rb v L x.2 0 ∧ Kp (fun k => k = rb) w w4 ∧ Rp popd most L a x.1 [] x.2) := ⟨World.ownsRow_nil _ _ _ _, r4, kp_then ((Gr.refl w).alloc _) k4, Rp.start e4⟩
    clear h4 k4 r4 hup e4
    obtain ⟨n, b0⟩ := x
    simp only at I0 hx ⊢
    go_wp2_with fail
    go_loopw [7, 11] (fun s7 s11 wr => ∃ (done : List Opd) (b : Nat), done.length ≤ n ∧ s11 = .int .u64 (done.length : Nat) ∧ Hid (wr.ownsRow w.heap.size 78 2 s7 done.length (fl EO done) ∧ Rd wr rb v L b 0 ∧ Kp (fun k => k = rb) w wr ∧ Rp popd most L a n done b)) (fun _ s11 _ => n - (RowKit.intOf s11).toNat)
    case atStart => exact ⟨[], b0, Nat.zero_le _, rfl, I0.out⟩
    case round =>
      clear I0
      obtain ⟨done, b, hd, rfl, HI⟩ := hrel
      by_cases hlt : done.length < n
      · have hltz : (done.length : Int) < (n : Int) := by omega
        have hwz : IntKind.u64.wrap ((done.length : Int) + 1) = ((done.length + 1 : Nat) : Int) := by rw [IntKind.wrap_u64]; omega
        obtain ⟨q, m, c, hs7⟩ := owns_form HI.out.1
        go_wp2_with fail
        go_at_call 73
        refine (hone _ b HI.out.2.1).mono ?_
        intro r w5 h5
        cases e5 : popd L b with
        | inl y =>
          obtain ⟨rfl, k5⟩ := h5.bad e5
          go_wp2_with fail
          exact ⟨rfl, Tk.no (HI.out.2.2.2.bad hlt e5) (HI.out.2.2.1.trans k5 (fun _ _ h => h))⟩
        | inr y =>
          obtain ⟨u, rfl, rfl, r5, k5⟩ := h5.good e5
          obtain ⟨y1, y2⟩ := y
          simp only at r5 e5
          have O5 : Hid (w5.ownsRow w.heap.size 78 2 (.slice q m c) done.length (fl EO done)) := by
            refine owns_kp k5 (hs7 ▸ HI.out.1) (fun k hk e => ?_)
            have := (owns_rd HI.out.1 k (by rw [hs7]; exact hk)).1
            omega
          have K5 := hid (HI.out.2.2.1.trans k5 (fun _ _ h => h))
          have R5 := hid r5
          have P5 := hid (HI.out.2.2.2.more hlt e5)
          clear h5 k5 r5 e5 HI
          go_wp2_with (at_builtin; refine wpApp1 EO Try.underlying61 infoO rfl (by decide) rfl _ _ rfl w.heap.size _ done.length _ rfl O5.out y1 rfl (by omega) (by unfold maxLen; omega) K5.out.size _ rfl _ ?_)
          intro g cap w6 h1 h2 h3
          have hu := fun k hk => (owns_rd O5.out k hk).1
          have N6 : Hid (w6.ownsRow w.heap.size 78 2 (.slice (some ⟨g, 0, none⟩) (done.length + 1) cap) (done ++ [y1]).length (fl EO (done ++ [y1])) ∧ Rd w6 rb v L y2 0 ∧ Kp (fun k => k = rb) w w6 ∧ Rp popd most L a n (done ++ [y1]) y2) := ⟨owns_re h1 (by simp) (by rw [fl_append, fl_one]), grown_rd R5.out HB.out h2 hu, grown_kp K5.out rfl h2 hu, P5.out⟩
          clear h1 h2 h3 hu O5 K5 R5 P5
          go_wp2_with fail
          go_roundw
          case rel => exact ⟨done ++ [y1], y2, by rw [List.length_append, List.length_singleton]; omega, by simp, N6.out⟩
          case measure => simp [RowKit.intOf]; omega
      · have hltz : ¬ (done.length : Int) < (n : Int) := by omega
        go_wp2_with fail
        go_ret
        exact Tk.yes (HI.out.2.2.2.fin (by omega)) HI.out.2.2.1 HI.out.2.1 HI.out.1
def EC : El Con where
  k := 5
  enc o := [.int .i64 o.inn, .int .i64 o.out, .int .u64 (o.via.1 : Nat), .int .u64 (o.via.2.1 : Nat), .int .u64 (o.via.2.2 : Nat)]
  len _ := rfl
  one o u hu := by
    simp at hu
    rcases hu with rfl | rfl | rfl | rfl | rfl <;> rfl
theorem infoC : (Try.prog.info? 80).map (fun i => (i.zero, i.size, i.bytes)) = some (some (.agg #[.int .i64 0, .int .i64 0, .int .u64 0, .int .u64 0, .int .u64 0]), 5, 40) := by kernel_rfl
set_option maxHeartbeats 2000000 in
theorem tconnl_any {rb a : Nat} {v : Value} {L : List UInt8} (most : Nat) (hmo : most ≤ 48) (w : World) (hR : Rd w rb v L a 0) : Calls Try.prog 77 #[tv rb, .int .u64 (most : Nat), .func (.func 78) #[tv rb] #[]] w (Tk (lst most pcon) (VL EC 80 w.heap.size) rb v L a w) := by
  have hmx : Try.prog.follows .mixedOrders = true := by kernel_rfl
  have HR := hid hR
  have hsz := hR.lt
  have hup := fun W (hg : Gr w W) => upto_any most 2 W (hR.gr hg)
  have hone := fun (W : World) (b : Nat) (h : Rd W rb v L b 0) => tconn_any W h
  have HB : Hid (rb < w.heap.size ∧ ∀ k, v.ownBlock = some k → k < w.heap.size) := ⟨hsz, hR.ls.blk⟩
  have hle := hR.le
  clear hR
  go_enter Try.func77, Try.ntmps77
  go_wp2_with fail
  go_at_call 69
  refine (hup _ ((Gr.refl _).alloc _)).mono ?_
  intro r w4 h4
  cases e4 : num most 2 L a with
  | inl x =>
    obtain ⟨rfl, k4⟩ := h4.bad e4
    go_wp2_with fail
    exact ⟨rfl, Tk.no (Rp.none e4) (kp_then ((Gr.refl w).alloc _) k4)⟩
  | inr x =>
    obtain ⟨u, rfl, rfl, r4, k4⟩ := h4.good e4
    have hx := (num_back (by omega) hle e4).1
    have I0 : Hid (w4.ownsRow w.heap.size 80 5 (.slice none 0 0) ([] : List Con).length (fl EC []) ∧ Rd w4 rb v L x.2 0 ∧ Kp (fun k => k = rb) w w4 ∧ Rp pcon most L a x.1 [] x.2) := ⟨World.ownsRow_nil _ _ _ _, r4, kp_then ((Gr.refl w).alloc _) k4, Rp.start e4⟩
    clear h4 k4 r4 hup e4
    obtain ⟨n, b0⟩ := x
    simp only at I0 hx ⊢
    go_wp2_with fail
    go_loopw [7, 11] (fun s7 s11 wr => ∃ (done : List Con) (b : Nat), done.length ≤ n ∧ s11 = .int .u64 (done.length : Nat) ∧ Hid (wr.ownsRow w.heap.size 80 5 s7 done.length (fl EC done) ∧ Rd wr rb v L b 0 ∧ Kp (fun k => k = rb) w wr ∧ Rp pcon most L a n done b)) (fun _ s11 _ => n - (RowKit.intOf s11).toNat)
    case atStart => exact ⟨[], b0, Nat.zero_le _, rfl, I0.out⟩
    case round =>
      clear I0
      obtain ⟨done, b, hd, rfl, HI⟩ := hrel
      by_cases hlt : done.length < n
      · have hltz : (done.length : Int) < (n : Int) := by omega
        have hwz : IntKind.u64.wrap ((done.length : Int) + 1) = ((done.length + 1 : Nat) : Int) := by rw [IntKind.wrap_u64]; omega
        obtain ⟨q, m, c, hs7⟩ := owns_form HI.out.1
        go_wp2_with fail
        go_at_call 78
        refine (hone _ b HI.out.2.1).mono ?_
        intro r w5 h5
        cases e5 : pcon L b with
        | inl y =>
          obtain ⟨rfl, k5⟩ := h5.bad e5
          go_wp2_with fail
          exact ⟨rfl, Tk.no (HI.out.2.2.2.bad hlt e5) (HI.out.2.2.1.trans k5 (fun _ _ h => h))⟩
        | inr y =>
          obtain ⟨u, rfl, rfl, r5, k5⟩ := h5.good e5
          obtain ⟨y1, y2⟩ := y
          simp only at r5 e5
          have O5 : Hid (w5.ownsRow w.heap.size 80 5 (.slice q m c) done.length (fl EC done)) := by
            refine owns_kp k5 (hs7 ▸ HI.out.1) (fun k hk e => ?_)
            have := (owns_rd HI.out.1 k (by rw [hs7]; exact hk)).1
            omega
          have K5 := hid (HI.out.2.2.1.trans k5 (fun _ _ h => h))
          have R5 := hid r5
          have P5 := hid (HI.out.2.2.2.more hlt e5)
          clear h5 k5 r5 e5 HI
          go_wp2_with (at_builtin; refine wpApp1 EC Try.underlying65 infoC rfl (by decide) rfl _ _ rfl w.heap.size _ done.length _ rfl O5.out y1 rfl (by omega) (by unfold maxLen; omega) K5.out.size _ rfl _ ?_)
          intro g cap w6 h1 h2 h3
          have hu := fun k hk => (owns_rd O5.out k hk).1
          have N6 : Hid (w6.ownsRow w.heap.size 80 5 (.slice (some ⟨g, 0, none⟩) (done.length + 1) cap) (done ++ [y1]).length (fl EC (done ++ [y1])) ∧ Rd w6 rb v L y2 0 ∧ Kp (fun k => k = rb) w w6 ∧ Rp pcon most L a n (done ++ [y1]) y2) := ⟨owns_re h1 (by simp) (by rw [fl_append, fl_one]), grown_rd R5.out HB.out h2 hu, grown_kp K5.out rfl h2 hu, P5.out⟩
          clear h1 h2 h3 hu O5 K5 R5 P5
          go_wp2_with fail
          go_roundw
          case rel => exact ⟨done ++ [y1], y2, by rw [List.length_append, List.length_singleton]; omega, by simp, N6.out⟩
          case measure => simp [RowKit.intOf]; omega
      · have hltz : ¬ (done.length : Int) < (n : Int) := by omega
        go_wp2_with fail
        go_ret
        exact Tk.yes (HI.out.2.2.2.fin (by omega)) HI.out.2.2.1 HI.out.2.1 HI.out.1
def ED : El Edg where
  k := 5
  enc o := [.int .i64 o.src, .int .i64 o.out, .int .i64 o.dst, .int .i64 o.inn, .bool o.keyed]
  len _ := rfl
  one o u hu := by
    simp at hu
    rcases hu with rfl | rfl | rfl | rfl | rfl <;> rfl
theorem infoD : (Try.prog.info? 69).map (fun i => (i.zero, i.size, i.bytes)) = some (some (.agg #[.int .i64 0, .int .i64 0, .int .i64 0, .int .i64 0, .bool false]), 5, 40) := by kernel_rfl
set_option maxHeartbeats 2000000 in
theorem tedgel_any {rb a : Nat} {v : Value} {L : List UInt8} (most : Nat) (hmo : most ≤ 48) (w : World) (hR : Rd w rb v L a 0) : Calls Try.prog 48 #[tv rb, .int .u64 (most : Nat), .func (.func 49) #[tv rb] #[]] w (Tk (lst most pedg) (VL ED 69 w.heap.size) rb v L a w) := by
  have hmx : Try.prog.follows .mixedOrders = true := by kernel_rfl
  have HR := hid hR
  have hsz := hR.lt
  have hup := fun W (hg : Gr w W) => upto_any most 2 W (hR.gr hg)
  have hone := fun (W : World) (b : Nat) (h : Rd W rb v L b 0) => tedge_any W h
  have HB : Hid (rb < w.heap.size ∧ ∀ k, v.ownBlock = some k → k < w.heap.size) := ⟨hsz, hR.ls.blk⟩
  have hle := hR.le
  clear hR
  go_enter Try.func48, Try.ntmps48
  go_wp2_with fail
  go_at_call 69
  refine (hup _ ((Gr.refl _).alloc _)).mono ?_
  intro r w4 h4
  cases e4 : num most 2 L a with
  | inl x =>
    obtain ⟨rfl, k4⟩ := h4.bad e4
    go_wp2_with fail
    exact ⟨rfl, Tk.no (Rp.none e4) (kp_then ((Gr.refl w).alloc _) k4)⟩
  | inr x =>
    obtain ⟨u, rfl, rfl, r4, k4⟩ := h4.good e4
    have hx := (num_back (by omega) hle e4).1
    have I0 : Hid (w4.ownsRow w.heap.size 69 5 (.slice none 0 0) ([] : List Edg).length (fl ED []) ∧ Rd w4 rb v L x.2 0 ∧ Kp (fun k => k = rb) w w4 ∧ Rp pedg most L a x.1 [] x.2) := ⟨World.ownsRow_nil _ _ _ _, r4, kp_then ((Gr.refl w).alloc _) k4, Rp.start e4⟩
    clear h4 k4 r4 hup e4
    obtain ⟨n, b0⟩ := x
    simp only at I0 hx ⊢
    go_wp2_with fail
    go_loopw [7, 11] (fun s7 s11 wr => ∃ (done : List Edg) (b : Nat), done.length ≤ n ∧ s11 = .int .u64 (done.length : Nat) ∧ Hid (wr.ownsRow w.heap.size 69 5 s7 done.length (fl ED done) ∧ Rd wr rb v L b 0 ∧ Kp (fun k => k = rb) w wr ∧ Rp pedg most L a n done b)) (fun _ s11 _ => n - (RowKit.intOf s11).toNat)
    case atStart => exact ⟨[], b0, Nat.zero_le _, rfl, I0.out⟩
    case round =>
      clear I0
      obtain ⟨done, b, hd, rfl, HI⟩ := hrel
      by_cases hlt : done.length < n
      · have hltz : (done.length : Int) < (n : Int) := by omega
        have hwz : IntKind.u64.wrap ((done.length : Int) + 1) = ((done.length + 1 : Nat) : Int) := by rw [IntKind.wrap_u64]; omega
        obtain ⟨q, m, c, hs7⟩ := owns_form HI.out.1
        go_wp2_with fail
        go_at_call 49
        refine (hone _ b HI.out.2.1).mono ?_
        intro r w5 h5
        cases e5 : pedg L b with
        | inl y =>
          obtain ⟨rfl, k5⟩ := h5.bad e5
          go_wp2_with fail
          exact ⟨rfl, Tk.no (HI.out.2.2.2.bad hlt e5) (HI.out.2.2.1.trans k5 (fun _ _ h => h))⟩
        | inr y =>
          obtain ⟨u, rfl, rfl, r5, k5⟩ := h5.good e5
          obtain ⟨y1, y2⟩ := y
          simp only at r5 e5
          have O5 : Hid (w5.ownsRow w.heap.size 69 5 (.slice q m c) done.length (fl ED done)) := by
            refine owns_kp k5 (hs7 ▸ HI.out.1) (fun k hk e => ?_)
            have := (owns_rd HI.out.1 k (by rw [hs7]; exact hk)).1
            omega
          have K5 := hid (HI.out.2.2.1.trans k5 (fun _ _ h => h))
          have R5 := hid r5
          have P5 := hid (HI.out.2.2.2.more hlt e5)
          clear h5 k5 r5 e5 HI
          go_wp2_with (at_builtin; refine wpApp1 ED Try.underlying23 infoD rfl (by decide) rfl _ _ rfl w.heap.size _ done.length _ rfl O5.out y1 rfl (by omega) (by unfold maxLen; omega) K5.out.size _ rfl _ ?_)
          intro g cap w6 h1 h2 h3
          have hu := fun k hk => (owns_rd O5.out k hk).1
          have N6 : Hid (w6.ownsRow w.heap.size 69 5 (.slice (some ⟨g, 0, none⟩) (done.length + 1) cap) (done ++ [y1]).length (fl ED (done ++ [y1])) ∧ Rd w6 rb v L y2 0 ∧ Kp (fun k => k = rb) w w6 ∧ Rp pedg most L a n (done ++ [y1]) y2) := ⟨owns_re h1 (by simp) (by rw [fl_append, fl_one]), grown_rd R5.out HB.out h2 hu, grown_kp K5.out rfl h2 hu, P5.out⟩
          clear h1 h2 h3 hu O5 K5 R5 P5
          go_wp2_with fail
          go_roundw
          case rel => exact ⟨done ++ [y1], y2, by rw [List.length_append, List.length_singleton]; omega, by simp, N6.out⟩
          case measure => simp [RowKit.intOf]; omega
      · have hltz : ¬ (done.length : Int) < (n : Int) := by omega
        go_wp2_with fail
        go_ret
        exact Tk.yes (HI.out.2.2.2.fin (by omega)) HI.out.2.2.1 HI.out.2.1 HI.out.1
end Go.Proofs.Ytkopmkmfigenlaa.Df
