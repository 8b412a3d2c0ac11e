import Derived.Test.YtpcamjmfddnglaaHRef3
namespace Go.Proofs.Ytpcamjmfddnglaa.Ht
open Go.RowKit Go.Sort Hp
attribute [local go_sem ↓] Go.wp_at_zero Go.wp_at_succ

set_option maxHeartbeats 1000000 in
theorem clone_any (v : Value) (l : List It) (w : World) (hv : Ls EI w v l) (hl : l.length * 24 ≤ 140737488355328) :
    Calls Try.prog 41 #[v] w fun e w' => ∃ v', e = .returned v' ∧ w'.ownsRow w.heap.size 69 3 v' l.length (fl EI l) ∧ Below w.heap.size w w' := by
  have HV : Hid (Ls EI w v l) := hv
  have hen := fun (W : World) (a : Option Addr) (n c : Nat) => Lib.run_eql_slice_nil (P := Try.prog) W 63 69 a n c 0 0 Try.underlying63
  rcases hv with ⟨rfl, rfl⟩ | ⟨b, off, c, rfl, hb, ht⟩
  · go_enter Try.func41, Try.ntmps41
    go_wp2
    go_ret
    exact ⟨_, rfl, World.ownsRow_nil _ _ _ _, Below.refl _ _⟩
  · clear ht
    go_enter Try.func41, Try.ntmps41
    go_wp2_with (at_builtin; refine wpAppL EI Try.underlying63 infoI rfl (by decide) rfl _ _ rfl w.heap.size (.slice (some ⟨w.heap.size, 0, none⟩) 0 0) 0 [] rfl (World.ownsRow_made w #[] 0 (Nat.le_refl _) (by unfold maxLen; omega) rfl) _ l rfl (HV.out.below ((Gr.refl w).alloc _).below) (by omega) (by unfold maxLen; omega) (by simp) ?_)
    intro v' w' h1 h2
    go_wp2
    go_ret
    refine ⟨_, rfl, h1, ?_⟩
    exact ((Gr.refl w).alloc _).below.trans ((Kp.grownBy (S := fun k => w.heap.size ≤ k) h2 (fun k hk => by simp [Value.ownBlock] at hk; omega)).below (by simp) (fun _ h => h))

set_option maxHeartbeats 1000000 in
theorem copy_any {hb ff np : Nat} {v : Value} {f : Th → Int} {L : List It} (w : World) (hH : Hq w hb ff v f L np) (hl : L.length * 24 ≤ 140737488355328) :
    Calls Try.prog 21 #[.pointer (some ⟨hb, 0, none⟩)] w fun e w' => ∃ hb' v', e = .returned (.pointer (some ⟨hb', 0, none⟩)) ∧ w.heap.size ≤ hb' ∧ Hq w' hb' ff v' f L np ∧ Below w.heap.size w w' ∧ ∀ g, v'.ownBlock = some g → w.heap.size ≤ g := by
  have hmx : Try.prog.follows .mixedOrders = true := by kernel_rfl
  have HC : Hid (Hq w hb ff v f L np) := hH
  have S0 : w.cell? ⟨hb, 0, none⟩ = some (fv ff) ∧ w.cell? ⟨hb, 1, none⟩ = some v ∧ w.cell? ⟨hb, 2, none⟩ = some (.int .u64 (np : Nat)) ∧ hb < w.heap.size := ⟨hH.h.c0, hH.h.c1, hH.h.c2, hH.h.lt⟩
  have keepB : ∀ W W' : World, (W.cell? ⟨hb, 0, none⟩ = some (fv ff) ∧ W.cell? ⟨hb, 1, none⟩ = some v ∧ W.cell? ⟨hb, 2, none⟩ = some (.int .u64 (np : Nat)) ∧ hb < W.heap.size) → Below W.heap.size W W' → (W'.cell? ⟨hb, 0, none⟩ = some (fv ff) ∧ W'.cell? ⟨hb, 1, none⟩ = some v ∧ W'.cell? ⟨hb, 2, none⟩ = some (.int .u64 (np : Nat)) ∧ hb < W'.heap.size) := fun W W' h hb' =>
    ⟨(hb'.cell (p := ⟨hb, 0, none⟩) h.2.2.2).trans h.1, (hb'.cell (p := ⟨hb, 1, none⟩) h.2.2.2).trans h.2.1, (hb'.cell (p := ⟨hb, 2, none⟩) h.2.2.2).trans h.2.2.1, Nat.lt_of_lt_of_le h.2.2.2 hb'.size⟩
  have hcl : Calls Try.prog 41 #[v] w.drew fun e w' => ∃ p5 c5, e = .returned (.slice p5 L.length c5) ∧ w'.ownsRow w.drew.heap.size 69 3 (.slice p5 L.length c5) L.length (fl EI L) ∧ Below w.drew.heap.size w.drew w' := by
    refine (clone_any v L w.drew (hH.h.gr (Gr.refl _).drew).lst hl).mono ?_
    rintro e w1 ⟨v1, rfl, h1, h2⟩
    obtain ⟨p, c, rfl⟩ := (owns_ls (E := EI) h1).form
    exact ⟨p, c, rfl, h1, h2⟩
  clear hH
  go_enter Try.func21, Try.ntmps21
  go_wp2_with fail
  go_region_held3 (fun w' => w'.cell? ⟨hb, 0, none⟩ = some (fv ff) ∧ w'.cell? ⟨hb, 1, none⟩ = some v ∧ w'.cell? ⟨hb, 2, none⟩ = some (.int .u64 (np : Nat)) ∧ hb < w'.heap.size)
    (first | exact S0 | exact keepB _ _ (by assumption) (Gr.refl _).drew.below | exact keepB _ _ (by assumption) (by assumption) | exact keepB _ _ (by assumption) ((Gr.refl _).alloc _).below)
    (first | (go_at_call 41; refine hcl.mono ?_; rintro e w5 ⟨p5, c5, rfl, ho5, hb5⟩))
  go_wp2
  go_ret
  have b5 : Below w.heap.size w w5 := (Gr.refl w).drew.below.trans hb5
  refine ⟨_, _, rfl, b5.size, ⟨⟨heap_new' _ _, owns_below (owns_base ho5 (Nat.zero_le _)) ((Gr.refl _).alloc _).below, fun h => by have := (ho5.lt _ h).2; omega⟩, HC.out.hp, HC.out.nd, HC.out.lt⟩, b5.trans (((Gr.refl _).alloc _).below.mono b5.size), fun g hg => (ho5.lt g hg).1⟩

/-- 'append(own, l...)' at a step of a region that draws: own is empty. -/
theorem step_ownL {P : Program} {α : Type} (E : El α) {e sT : TypeId} {z : Value} {bt : Nat} (hu : P.underlying sT = some (.slice e)) (hI : (P.info? e).map (fun i => (i.zero, i.size, i.bytes)) = some (some z, E.k, bt)) (hz : z.cells.size = E.k) (hk : 0 < E.k)
    {w : World} {ops : Array Oper} {o : Oper} {a : Act} {K : Act → World → Prop} {Q : Exit → Act → World → Prop} {X : Prop} (hgd : o.guard = none) (s x : Operand)
    (ho : o.op = .call { callee := .builtin .append, args := #[s, x], argTypes := #[sT, sT] })
    (base : Nat) (v0 : Value) (hs : a.eval s = v0) (hown : w.ownsRow base e E.k v0 0 []) (hbase : base ≤ w.heap.size) (v1 : Value) (ts : List α) (hx : a.eval x = v1) (hv : Ls E w v1 ts) (hbig : ts.length * bt ≤ 140737488355328) (hmx : ts.length ≤ maxLen)
    (h : ∀ p c w', Hid (w'.ownsRow base e E.k (.slice p ts.length c) ts.length (fl E ts) ∧ Kp (fun k => v0.ownBlock = some k) w w') → K (a.put o.dst (.slice p ts.length c)) w') :
    if Region.wanted o (yielded ops a.tmps) = true then Oper.wp P o a w K Q else X := by
  have hw : Region.wanted o (yielded ops a.tmps) = true := by simp [Region.wanted, hgd]
  rw [if_pos hw]
  obtain ⟨i0, hi, hz0, hz1, hz2⟩ := info_parts hI
  rcases hv with ⟨rfl, rfl⟩ | ⟨b, off, c, rfl, hb, ht⟩
  · have hrun := run_append_owned_none (P := P) (w := w) base sT o.type e i0 E.k hu hi v0 0 [] hown
    obtain ⟨p, c, e0⟩ := (owns_ls (E := E) (ts := []) hown).form
    rw [List.length_nil] at e0
    subst e0
    unfold Oper.wp
    simp [execOp, ho, resolve, invoke, builtin, hs, hx, hrun, Result.andThen]
    exact h _ _ _ ⟨hown, Kp.refl _ _⟩
  · obtain ⟨v', w', hr, h2, h3, _, _⟩ := run_append_own_at (P := P) w base sT o.type e i0 _ E.k bt hu hi hz0 hz1 hz2 hz hk v0 0 [] hown ⟨b, off, none⟩ ts.length c (fl E ts) (fl_length E ts) (fun j u hj => by rw [addA]; exact ht j u hj) (fl_oneCell E ts) (by omega) (by rw [Nat.zero_add]; exact hbig) hbase
    unfold Oper.wp execOp
    simp only [ho, resolve, invoke, builtin, Sem.run_bind, Sem.run_pure, Result.andThen_ok, List.map_toArray, List.map_cons, List.map_nil, hs, hx, hr]
    have h2' : w'.ownsRow base e E.k v' ts.length (fl E ts) := by simpa using h2
    obtain ⟨p, c', rfl⟩ := (owns_ls (E := E) h2').form
    exact h p c' w' ⟨h2', Kp.grownBy (S := fun k => v0.ownBlock = some k) h3 (fun _ h => h)⟩

set_option maxHeartbeats 2000000 in
set_option maxRecDepth 100000 in
theorem rcopy_any {rb : Nat} {o : Int} {v : Value} {R : List Th} (w : World) (hR : Rh w rb o v R) (hl : R.length * 16 ≤ 140737488355328) :
    Calls Try.prog 22 #[.pointer (some ⟨rb, 0, none⟩)] w fun e w' => ∃ rb' v', e = .returned (.pointer (some ⟨rb', 0, none⟩)) ∧ w.heap.size ≤ rb' ∧ Rh w' rb' o v' R ∧ Below w.heap.size w w' ∧ ∀ g, v'.ownBlock = some g → w.heap.size ≤ g := by
  have hmx : Try.prog.follows .mixedOrders = true := by kernel_rfl
  have HC : Hid (Rh w rb o v R) := hR
  obtain ⟨pl, cl, rfl⟩ := hR.lst.form
  have k0 := hR.c0
  have k1 := hR.c1
  have kl := hR.lt
  clear hR
  go_enter Try.func22, Try.ntmps22
  go_wp2_with fail
  go_region_law (refine step_ownL EV Try.underlying45 infoV rfl (by decide) rfl _ _ rfl w.heap.size (.slice (some ⟨w.heap.size, 0, none⟩) 0 0) rfl (World.ownsRow_made w.drew #[] 0 (Nat.le_refl _) (by unfold maxLen; omega) rfl) (by simp) (.slice pl R.length cl) R rfl (HC.out.gr ((Gr.refl w).drew.alloc _)).lst (by omega) (by unfold maxLen; omega) ?_
                 intro p10 c10 w10 HO10
                 have b10 : Below w.heap.size w w10 := ((Gr.refl w).drew.alloc _).below.trans (HO10.out.2.below (by simp) (fun k hk => Nat.le_of_eq (own_eq hk)))
                 have k10 : w10.cell? ⟨rb, 0, none⟩ = some (.int .i64 o) := (b10.cell (p := ⟨rb, 0, none⟩) kl).trans k0
                 have k11 : w10.cell? ⟨rb, 1, none⟩ = some (.slice pl R.length cl) := (b10.cell (p := ⟨rb, 1, none⟩) kl).trans k1
                 have l10 : rb < w10.heap.size := Nat.lt_of_lt_of_le kl b10.size)
  all_goals (
    go_wp2
    go_ret
    refine ⟨_, _, rfl, b10.size, ⟨heap_new' _ _, owns_below (owns_base HO10.out.1 (Nat.zero_le _)) ((Gr.refl _).alloc _).below, fun h => by have := (HO10.out.1.lt _ h).2; omega⟩, b10.trans (((Gr.refl _).alloc _).below.mono b10.size), fun g hg => (HO10.out.1.lt g hg).1⟩)
end Go.Proofs.Ytpcamjmfddnglaa.Ht
