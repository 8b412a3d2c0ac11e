import Derived.Test.YtnpmmodcmfgbjaaGreatMIns
import Derived.Lib.SliceRun
namespace Go.Proofs.YtnpmmodcmfgbjaaGreat.Cn
open Go.RowKit Go.Sort
attribute [local go_sem ↓] Go.wp_at_zero Go.wp_at_succ

set_option maxHeartbeats 1000000 in
theorem clone_any (v : Value) (l : List Tm) (w : World) (hv : Lst w v l) (hl : l.length * 24 ≤ 140737488355328) :
    Calls Tryz.prog 52 #[v] w fun e w' => ∃ v', e = .returned v' ∧ w'.ownsRow w.heap.size 37 3 v' l.length (flT l) ∧ Below w.heap.size w w' := by
  have HV : Hid (Lst w v l) := hv
  have hen := fun (W : World) (a : Option Addr) (n c : Nat) => Lib.run_eql_slice_nil (P := Tryz.prog) W 42 37 a n c 0 0 Tryz.underlying42
  rcases hv with ⟨rfl, rfl⟩ | ⟨b, off, c, rfl, hb, ht⟩
  · go_enter Tryz.func52, Tryz.ntmps52
    go_wp2
    go_ret
    exact ⟨_, rfl, World.ownsRow_nil _ _ _ _, Below.refl _ _⟩
  · clear ht
    go_enter Tryz.func52, Tryz.ntmps52
    go_wp2_with (at_builtin; refine wpAppL rfl _ _ rfl w.heap.size (.slice (some ⟨w.heap.size, 0, none⟩) 0 0) 0 [] rfl (World.ownsRow_made w #[] 0 (Nat.le_refl _) (by unfold maxLen; omega) rfl) _ l rfl (HV.out.below ((Gr.refl w).alloc _).below) (by omega) (by simp) ?_)
    intro v' w' h1 h2
    go_wp2
    go_ret
    refine ⟨_, rfl, by simpa using h1, ?_⟩
    exact ((Gr.refl w).alloc _).below.trans ((Kp.grownBy (S := fun k => w.heap.size ≤ k) h2 (fun k hk => by simp [Value.ownBlock] at hk; omega)).below (by simp) (fun _ h => h))

set_option maxHeartbeats 1000000 in
theorem list_any {cb fb ff : Nat} {v : Value} {l : List Tm} (w : World) (hc : Ch w cb fb ff v l) (hl : l.length * 24 ≤ 140737488355328) :
    Calls Tryz.prog 29 #[.pointer (some ⟨cb, 0, none⟩)] w fun e w' => ∃ v', e = .returned v' ∧ w'.ownsRow w.heap.size 37 3 v' l.length (flT l) ∧ Below w.heap.size w w' := by
  have h := clone_any v l w hc.lst hl
  have k2 := hc.c2
  have kl := hc.lt
  clear hc
  go_enter Tryz.func29, Tryz.ntmps29
  go_wp2_with fail
  refine h.mono ?_
  rintro e w1 ⟨v', rfl, h1, h2⟩
  go_wp2
  go_ret
  exact ⟨_, rfl, h1, h2⟩

theorem cnum_append {bel fst : Tm → Tm → Bool} (l vs us : List Tm) : cnum bel fst l (vs ++ us) = cnum bel fst l vs + cnum bel fst (cjoin bel fst l vs) us := by
  induction vs generalizing l with
  | nil => simp [cnum, cjoin]
  | cons v vs ih => rw [List.cons_append, cnum, ih, cnum, cjoin_cons, Nat.add_assoc]
theorem cnum_take_succ {bel fst : Tm → Tm → Bool} {l vs : List Tm} {k : Nat} {x : Tm} (h : vs[k]? = some x) : cnum bel fst l (vs.take (k + 1)) = cnum bel fst l (vs.take k) + (if ccov bel (cjoin bel fst l (vs.take k)) x then 0 else 1) := by
  rw [List.take_add_one, h, cnum_append]
  simp [cnum]
theorem cnum_le {bel fst : Tm → Tm → Bool} (l vs : List Tm) : cnum bel fst l vs ≤ vs.length := by
  induction vs generalizing l with
  | nil => simp [cnum]
  | cons v vs ih => rw [cnum, List.length_cons]; have := ih (cins bel fst l v); split <;> omega

set_option maxHeartbeats 2000000 in
set_option maxRecDepth 100000 in
theorem join_any {cb fb ff : Nat} {v u : Value} {l vs : List Tm} {bel fst : Tm → Tm → Bool} (w : World) (hc : Ch w cb fb ff v l) (hu : Lst w u vs) (hap : ∀ k, u.ownBlock = some k → k ≠ cb ∧ v.ownBlock ≠ some k) (hl : (l.length + vs.length) * 24 ≤ 140737488355328) (hB : FnOk fb bel) (hF : FnOk ff fst) :
    Calls Tryz.prog 64 #[.pointer (some ⟨cb, 0, none⟩), u] w fun e w' => e = .returned (.int .i64 (cnum bel fst l vs : Nat)) ∧ ∃ v', Ch w' cb fb ff v' (cjoin bel fst l vs) ∧ Turn cb v v' w w' := by
  obtain ⟨pu, cu, rfl⟩ := hu.form
  have HU : Hid (Lst w (.slice pu vs.length cu) vs) := hu
  have HA : Hid (∀ k, (Value.slice pu vs.length cu).ownBlock = some k → k ≠ cb ∧ v.ownBlock ≠ some k) := hap
  have HC : Hid (Ch w cb fb ff v l) := hc
  clear hu hap hc
  go_enter Tryz.func64, Tryz.ntmps64
  go_wp2_with fail
  go_loopw [5, 7, 10] (fun s5 _ s10 wr => ∃ (k : Nat) (vr : Value), k ≤ vs.length ∧ s10 = .int .i64 k ∧ s5 = .int .i64 (cnum bel fst l (vs.take k) : Nat) ∧ Hid (Ch wr cb fb ff vr (cjoin bel fst l (vs.take k)) ∧ Turn cb v vr w wr)) (fun _ _ s10 _ => vs.length - (RowKit.intOf s10).toNat)
  case atStart => exact ⟨0, v, Nat.zero_le _, rfl, rfl, HC.out, Turn.refl _ _ _⟩
  case round =>
    obtain ⟨k, vr, hk, rfl, rfl, HI⟩ := hrel
    obtain ⟨hch, htu⟩ := HI.out
    by_cases hlt : k < vs.length
    · have hltz : (k : Int) < (vs.length : Int) := by omega
      obtain ⟨x, hx⟩ : ∃ x, vs[k]? = some x := ⟨vs[k], by simp⟩
      have HLw : Lst wr (.slice pu vs.length cu) vs := htu.1.ls HU.out (fun j hj hs => by
        obtain ⟨h1, h2⟩ := HA.out j hj
        rcases hs with hs | hs
        · exact h1 hs
        · exact h2 hs)
      obtain ⟨b1, o1, c1, e1, z1, x1, x2, x3⟩ := HLw.at3 hx
      simp only [Value.slice.injEq] at e1
      obtain ⟨rfl, -, rfl⟩ := e1
      clear HLw
      have hjl := cjoin_length (bel := bel) (fst := fst) l (vs.take k)
      have htl : (vs.take k).length = k := by simp; omega
      have HJ : Hid (cjoin bel fst l (vs.take (k + 1)) = cins bel fst (cjoin bel fst l (vs.take k)) x) := cjoin_take_succ hx
      have HN : Hid (cnum bel fst l (vs.take (k + 1)) = cnum bel fst l (vs.take k) + (if ccov bel (cjoin bel fst l (vs.take k)) x then 0 else 1)) := cnum_take_succ hx
      have hnl := cnum_le (bel := bel) (fst := fst) l (vs.take k)
      rw [htl] at hjl hnl
      clear hx
      generalize cjoin bel fst l (vs.take k) = f at *
      generalize cnum bel fst l (vs.take k) = q at *
      have hi := insert_any x (wr.alloc (.cells #[.int .u64 x.1.1, .int .u64 x.1.2.1, .int .u64 x.1.2.2] 37)) (hch.below ((Gr.refl _).alloc _).below) (by omega) hB hF
      have HT : Hid (Turn cb v vr w (wr.alloc (.cells #[.int .u64 x.1.1, .int .u64 x.1.2.1, .int .u64 x.1.2.2] 37))) := htu.trans (Turn.of_below ((Gr.refl _).alloc _).below)
      clear hch htu HI
      cases hq : ccov bel f x with
      | true =>
        rw [hq] at hi
        have HN' : Hid (cnum bel fst l (vs.take (k + 1)) = q) := by rw [HN.out, hq]; simp [Hid]
        go_wp2_with fail
        refine hi.mono ?_
        rintro e w2 ⟨v2, rfl, hch2, htu2⟩
        go_wp2
        refine ⟨⟨k + 1, v2, by omega, by go_num, by rw [HN'.out], by rw [HJ.out]; exact hch2, HT.out.trans htu2⟩, by simp [RowKit.intOf]; omega⟩
      | false =>
        rw [hq] at hi
        have HN' : Hid (cnum bel fst l (vs.take (k + 1)) = q + 1) := by rw [HN.out, hq]; simp [Hid]
        go_wp2_with fail
        refine hi.mono ?_
        rintro e w2 ⟨v2, rfl, hch2, htu2⟩
        go_wp2
        refine ⟨⟨k + 1, v2, by omega, by go_num, by rw [HN'.out]; go_num, by rw [HJ.out]; exact hch2, HT.out.trans htu2⟩, by simp [RowKit.intOf]; omega⟩
    · have hltz : ¬ (k : Int) < (vs.length : Int) := by omega
      rw [List.take_of_length_le (by omega)] at hch
      have HE : Hid (vs.take k = vs) := List.take_of_length_le (by omega)
      go_wp2
      go_ret
      exact ⟨by rw [HE.out]; rfl, vr, hch, htu⟩
end Go.Proofs.YtnpmmodcmfgbjaaGreat.Cn
