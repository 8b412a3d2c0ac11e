import Derived.Test.YtbomkeginbhhoaaCRef3
namespace Go.Proofs.Ytbomkeginbhhoaa
open Go.RowKit Go.Sort
attribute [local go_sem ↓] Go.wp_at_zero Go.wp_at_succ

set_option maxHeartbeats 2000000 in
set_option maxRecDepth 100000 in
theorem rjoin_any {rb : Nat} {kind : Int} {v u : Value} {l vs : List P2} (w : World) (hc : RCh w rb kind v l) (hu : Lst w u vs) (hap : ∀ k, u.ownBlock = some k → k ≠ rb) (hl : (l.length + vs.length) * 16 ≤ 140737488355328) :
    Calls Try.prog 60 #[.pointer (some ⟨rb, 0, none⟩), u] w fun e w' => e = .returned (.int .i64 (cnum (rbel kind) (rfst kind) l vs : Nat)) ∧ ∃ v', RCh w' rb kind v' (cjoin (rbel kind) (rfst kind) l vs) ∧ Kp (fun k => k = rb) w w' ∧ ∀ g, v'.ownBlock = some g → v.ownBlock = some g ∨ w.heap.size ≤ g := by
  obtain ⟨pu, cu, rfl⟩ := hu.form
  have HU : Hid (Lst w (.slice pu vs.length cu) vs) := hu
  have HA : Hid (∀ k, (Value.slice pu vs.length cu).ownBlock = some k → k ≠ rb) := hap
  have HC : Hid (RCh w rb kind v l) := hc
  clear hu hap hc
  go_enter Try.func60, Try.ntmps60
  go_wp2_with fail
  go_loopw [5, 6] (fun s5 s6 wr => ∃ (k : Nat) (vr : Value), k ≤ vs.length ∧ s6 = .int .i64 k ∧ s5 = .int .i64 (cnum (rbel kind) (rfst kind) l (vs.take k) : Nat) ∧ Hid (RCh wr rb kind vr (cjoin (rbel kind) (rfst kind) l (vs.take k)) ∧ Kp (fun k => k = rb) w wr ∧ ∀ g, vr.ownBlock = some g → v.ownBlock = some g ∨ w.heap.size ≤ g)) (fun _ s6 _ => vs.length - (RowKit.intOf s6).toNat)
  case atStart => exact ⟨0, v, Nat.zero_le _, rfl, rfl, HC.out, Kp.refl _ _, fun g h => Or.inl h⟩
  case round =>
    obtain ⟨k, vr, hk, rfl, rfl, HI⟩ := hrel
    obtain ⟨hch, hkp, hro⟩ := HI.out
    by_cases hlt : k < vs.length
    · have hltz : (k : Int) < (vs.length : Int) := by omega
      obtain ⟨x, hx⟩ : ∃ x, vs[k]? = some x := ⟨vs[k], by simp⟩
      have HLw : Lst wr (.slice pu vs.length cu) vs := hkp.lst HU.out (fun j hj hs => HA.out j hj hs)
      obtain ⟨b1, o1, c1, e1, z1, x1, x2⟩ := HLw.at2 hx
      simp only [Value.slice.injEq] at e1
      obtain ⟨rfl, -, rfl⟩ := e1
      clear HLw
      have hjl := cjoin_length (bel := rbel kind) (fst := rfst kind) l (vs.take k)
      have htl : (vs.take k).length = k := by simp; omega
      have HJ : Hid (cjoin (rbel kind) (rfst kind) l (vs.take (k + 1)) = cins (rbel kind) (rfst kind) (cjoin (rbel kind) (rfst kind) l (vs.take k)) x) := cjoin_take_succ hx
      have HN : Hid (cnum (rbel kind) (rfst kind) l (vs.take (k + 1)) = cnum (rbel kind) (rfst kind) l (vs.take k) + (if ccov (rbel kind) (cjoin (rbel kind) (rfst kind) l (vs.take k)) x then 0 else 1)) := cnum_take_succ hx
      have hnl := cnum_le (bel := rbel kind) (fst := rfst kind) l (vs.take k)
      rw [htl] at hjl hnl
      clear hx htl
      generalize cjoin (rbel kind) (rfst kind) l (vs.take k) = f at *
      generalize cnum (rbel kind) (rfst kind) l (vs.take k) = q at *
      have hi := rinsert_any x wr hch (by omega)
      have HK : Hid (Kp (fun k => k = rb) w wr) := hkp
      have HRO : Hid (∀ g, vr.ownBlock = some g → v.ownBlock = some g ∨ w.heap.size ≤ g) := hro
      clear hch hkp hro HI
      cases hq : ccov (rbel kind) f x with
      | true =>
        rw [hq] at hi
        have HN' : Hid (cnum (rbel kind) (rfst kind) l (vs.take (k + 1)) = q) := by rw [HN.out, hq]; simp [Hid]
        go_wp2_with fail
        refine hi.mono ?_
        rintro e w2 ⟨rfl, v2, hch2, hk2, hr2⟩
        go_wp2
        refine ⟨⟨k + 1, v2, by omega, by go_num, by rw [HN'.out], by rw [HJ.out]; exact hch2, HK.out.trans hk2 (fun _ _ h => h), fun g hg => ?_⟩, by simp [RowKit.intOf]; omega⟩
        rcases hr2 g hg with h | h
        · exact HRO.out g h
        · exact Or.inr (Nat.le_trans HK.out.size h)
      | false =>
        rw [hq] at hi
        have HN' : Hid (cnum (rbel kind) (rfst kind) l (vs.take (k + 1)) = q + 1) := by rw [HN.out, hq]; simp [Hid]
        go_wp2_with fail
        refine hi.mono ?_
        rintro e w2 ⟨rfl, v2, hch2, hk2, hr2⟩
        go_wp2
        refine ⟨⟨k + 1, v2, by omega, by go_num, by rw [HN'.out]; go_num, by rw [HJ.out]; exact hch2, HK.out.trans hk2 (fun _ _ h => h), fun g hg => ?_⟩, by simp [RowKit.intOf]; omega⟩
        rcases hr2 g hg with h | h
        · exact HRO.out g h
        · exact Or.inr (Nat.le_trans HK.out.size h)
    · have hltz : ¬ (k : Int) < (vs.length : Int) := by omega
      rw [List.take_of_length_le (by omega)] at hch
      have HE : Hid (vs.take k = vs) := List.take_of_length_le (by omega)
      go_wp2
      go_ret
      exact ⟨by rw [HE.out]; rfl, vr, hch, hkp, hro⟩

set_option maxHeartbeats 1000000 in
theorem rcopy_any {rb : Nat} {kind : Int} {v : Value} {l : List P2} (w : World) (hc : RCh w rb kind v l) (hl : l.length * 16 ≤ 140737488355328) :
    Calls Try.prog 34 #[.pointer (some ⟨rb, 0, none⟩)] w fun e w' => ∃ rb' v', e = .returned (.pointer (some ⟨rb', 0, none⟩)) ∧ w.heap.size ≤ rb' ∧ RCh w' rb' kind v' l ∧ Below w.heap.size w w' ∧ ∀ g, v'.ownBlock = some g → w.heap.size ≤ g := by
  have HC : Hid (RCh w rb kind v l) := hc
  obtain ⟨pl, cl, rfl⟩ := hc.lst.form
  have k0 := hc.c0
  have k1 := hc.c1
  have kl := hc.lt
  clear hc
  go_enter Try.func34, Try.ntmps34
  go_wp2_with (at_builtin; refine wpAppL rfl _ _ rfl w.heap.size (.slice none 0 0) 0 [] rfl (World.ownsRow_nil _ _ _ _) (.slice pl l.length cl) l rfl HC.out.lst (by omega) (Nat.le_refl _) ?_)
  intro v5 w5 ho5 hg5
  have b5 : Below w.heap.size w w5 := (Kp.grownBy (S := fun _ => False) hg5 (fun k hk => by simp [Value.ownBlock] at hk)).below (Nat.le_refl _) (fun _ h => h.elim)
  have HO : Hid (w5.ownsRow w.heap.size 28 2 v5 l.length (flatP l)) := owns_re ho5 (by simp) (flatP_length _)
  have C5 := HC.out.below b5
  have k50 := C5.c0
  have k5l := C5.lt
  obtain ⟨p5, c5, rfl⟩ := (owns_lst HO.out).form
  clear ho5 hg5 C5
  go_wp2
  go_ret
  refine ⟨_, _, rfl, b5.size, ⟨heap_new' _ _, owns_below (owns_base HO.out (Nat.zero_le _)) ((Gr.refl _).alloc _).below, fun h => by have := (HO.out.lt _ h).2; omega⟩, b5.trans (((Gr.refl _).alloc _).below.mono b5.size), fun g hg => (HO.out.lt g hg).1⟩

set_option maxHeartbeats 1000000 in
theorem copy_any {cb fb ff : Nat} {v : Value} {l : List P2} (w : World) (hc : Ch w cb fb ff v l) (hl : l.length * 16 ≤ 140737488355328) :
    Calls Try.prog 33 #[.pointer (some ⟨cb, 0, none⟩)] w fun e w' => ∃ cb' v', e = .returned (.pointer (some ⟨cb', 0, none⟩)) ∧ w.heap.size ≤ cb' ∧ Ch w' cb' fb ff v' l ∧ Below w.heap.size w w' ∧ ∀ g, v'.ownBlock = some g → w.heap.size ≤ g := by
  have hmx : Try.prog.follows .mixedOrders = true := by kernel_rfl
  have HC : Hid (Ch w cb fb ff v l) := hc
  have S0 : w.cell? ⟨cb, 0, none⟩ = some (fv fb) ∧ w.cell? ⟨cb, 1, none⟩ = some (fv ff) ∧ cb < w.heap.size := ⟨hc.c0, hc.c1, hc.lt⟩
  have keepB : ∀ W W' : World, (W.cell? ⟨cb, 0, none⟩ = some (fv fb) ∧ W.cell? ⟨cb, 1, none⟩ = some (fv ff) ∧ cb < W.heap.size) → Below W.heap.size W W' → (W'.cell? ⟨cb, 0, none⟩ = some (fv fb) ∧ W'.cell? ⟨cb, 1, none⟩ = some (fv ff) ∧ cb < W'.heap.size) := fun W W' h hb =>
    ⟨(hb.cell (p := ⟨cb, 0, none⟩) h.2.2).trans h.1, (hb.cell (p := ⟨cb, 1, none⟩) h.2.2).trans h.2.1, Nat.lt_of_lt_of_le h.2.2 hb.size⟩
  have C1 : Ch w.drew cb fb ff v l := hc.below (Gr.refl _).drew.below
  have hli : Calls Try.prog 13 #[.pointer (some ⟨cb, 0, none⟩)] w.drew fun e w' => ∃ p5 c5, e = .returned (.slice p5 l.length c5) ∧ w'.ownsRow w.drew.heap.size 28 2 (.slice p5 l.length c5) l.length (flatP l) ∧ Below w.drew.heap.size w.drew w' := by
    refine (list_any w.drew C1 hl).mono ?_
    rintro e w1 ⟨v1, rfl, h1, h2⟩
    obtain ⟨p, c, rfl⟩ := (owns_lst h1).form
    exact ⟨p, c, rfl, h1, h2⟩
  clear hc
  go_enter Try.func33, Try.ntmps33
  go_wp2_with fail
  go_region_held3 (fun w' => w'.cell? ⟨cb, 0, none⟩ = some (fv fb) ∧ w'.cell? ⟨cb, 1, none⟩ = some (fv ff) ∧ cb < w'.heap.size)
    (first | exact S0 | exact keepB _ _ (by assumption) (Gr.refl _).drew.below | exact keepB _ _ (by assumption) (by assumption) | exact keepB _ _ (by assumption) ((Gr.refl _).alloc _).below)
    (first | (go_at_call 13; refine hli.mono ?_; rintro e w5 ⟨p5, c5, rfl, ho5, hb5⟩))
  go_wp2
  go_ret
  have b5 : Below w.heap.size w w5 := (Gr.refl w).drew.below.trans hb5
  refine ⟨_, _, rfl, b5.size, ⟨heap_new' _ _, owns_below (owns_base ho5 (Nat.zero_le _)) ((Gr.refl _).alloc _).below, fun h => by have := (ho5.lt _ h).2; omega⟩, b5.trans (((Gr.refl _).alloc _).below.mono b5.size), fun g hg => (ho5.lt g hg).1⟩
end Go.Proofs.Ytbomkeginbhhoaa
