import Derived.Test.YtpcamjmfddnglaaHTwo1
import Derived.Test.YtpcamjmfddnglaaHTaken
namespace Go.Proofs.Ytpcamjmfddnglaa.Hs
open Go.RowKit Go.Sort Hp
attribute [local go_sem ↓] Go.wp_at_zero Go.wp_at_succ

theorem zip_mem {l : List ByteArray} {x : It} (h : x ∈ l.zipIdx) : l[x.2]? = some x.1 := List.mk_mem_zipIdx_iff_getElem?.1 h
/-- The order of the pops. -/
theorem srt_of {l : List ByteArray} {P : List It} (hp : P.Perm l.zipIdx) (hf : ∀ i t, P[i]? = some t → ∀ x ∈ P.drop (i + 1), sz t.1 < sz x.1 ∨ (sz t.1 = sz x.1 ∧ t.2 < x.2)) :
    Srt l (P.map Prod.snd) ∧ (P.map Prod.fst).length = l.length ∧ ∀ (i t : Nat), (P.map Prod.snd)[i]? = some t → (P.map Prod.fst)[i]? = l[t]? := by
  have hm : ∀ x ∈ P, l[x.2]? = some x.1 := fun x hx => zip_mem (hp.mem_iff.1 hx)
  have hl : P.length = l.length := by rw [hp.length_eq, List.length_zipIdx]
  refine ⟨⟨?_, by rw [List.length_map]; exact hl, fun t ht => ?_, fun i t hi j x y hj hx hy => ?_⟩, by rw [List.length_map]; exact hl, fun i t hi => ?_⟩
  · rw [(hp.map Prod.snd).nodup_iff, List.zipIdx_map_snd]
    exact List.nodup_range' ..
  · obtain ⟨x, hx, rfl⟩ := List.mem_map.1 ht
    exact (List.getElem?_eq_some_iff.1 (hm x hx)).1
  · rw [List.getElem?_map] at hi
    cases hpi : P[i]? with
    | none => simp [hpi] at hi
    | some p =>
      simp [hpi] at hi
      subst hi
      have e1 := hm p (List.mem_of_getElem? hpi)
      rw [hx] at e1
      cases e1
      have hyP : (y, j) ∈ P := hp.mem_iff.2 (List.mk_mem_zipIdx_iff_getElem?.2 hy)
      rw [← List.take_append_drop (i + 1) P] at hyP
      rcases List.mem_append.1 hyP with h | h
      · exact absurd (by rw [← List.map_take]; exact List.mem_map.2 ⟨_, h, rfl⟩) hj
      · have := hf i p hpi (y, j) h
        simp only [sz] at this
        omega
  · rw [List.getElem?_map] at hi ⊢
    cases hpi : P[i]? with
    | none => simp [hpi] at hi
    | some p =>
      simp [hpi] at hi
      subst hi
      rw [hm p (List.mem_of_getElem? hpi)]
      rfl
theorem T2.popped {w wr : World} {l : List ByteArray} {h1 h2 : Nat} {v1 v2 vo vd : Value} {P1 P2 L1 L2 : List It} {n1 n2 : Nat} {O D : List ByteArray} {ow : Nat → Nat} {t : It} {L1' : List It} (h : T2 w l h1 h2 v1 v2 vo vd P1 P2 L1 L2 n1 n2 O D ow wr) (hp : (t :: L1').Perm L1) (hb : ∀ x ∈ L1', sz t.1 < sz x.1 ∨ (sz t.1 = sz x.1 ∧ t.2 < x.2)) :
    ((P1 ++ [t]) ++ L1').Perm (l.take n1).zipIdx ∧ ∀ i u, (P1 ++ [t])[i]? = some u → ∀ x ∈ (P1 ++ [t]).drop (i + 1) ++ L1', sz u.1 < sz x.1 ∨ (sz u.1 = sz x.1 ∧ u.2 < x.2) := by
  refine ⟨by rw [List.append_assoc]; exact (hp.append_left P1).trans h.p1, fun i u hu x hx => ?_⟩
  by_cases hi : i < P1.length
  · rw [List.getElem?_append_left hi] at hu
    rw [List.drop_append_of_le_length (by omega), List.append_assoc] at hx
    refine h.fs i u hu x ?_
    rcases List.mem_append.1 hx with h' | h'
    · exact List.mem_append.2 (Or.inl h')
    · exact List.mem_append.2 (Or.inr (hp.mem_iff.1 h'))
  · have hl := (List.getElem?_eq_some_iff.1 hu).1
    simp at hl
    have hi' : i = P1.length := by omega
    subst hi'
    simp at hu
    subst hu
    rw [List.drop_of_length_le (by simp)] at hx
    exact hb x (by simpa using hx)

set_option maxHeartbeats 4000000 in
set_option maxRecDepth 100000 in
theorem two_any (vl : Value) (l : List ByteArray) (w : World) (hl : Ls ES w vl l) (hll : l.length ≤ 1048576) : Calls Try.prog 4 #[vl] w fun e w' => e = .returned (.bool true) ∧ Below w.heap.size w w' := by
  have hmx : Try.prog.follows .mixedOrders = true := by kernel_rfl
  have htk := Hi.taken_any w
  have hnew1 := fun W => newq_any fS sz W
  have hnew2 := fun W => new_any fA W
  have hen1 := shorter_ok.enter
  have hen2 := always_ok.enter
  have HF1 : Hid (FnOk fS (key sz)) := shorter_ok
  have HF2 : Hid (FnOk fA (fun _ _ => true)) := always_ok
  obtain ⟨pl, cl, rfl⟩ := hl.form
  have HL : Hid (Ls ES w (.slice pl l.length cl) l) := hl
  clear hl
  go_enter Try.func4, Try.ntmps4
  go_wp2_with fail
  refine htk.mono ?_
  rintro e w1 ⟨rfl, hb1⟩
  clear htk
  go_wp2_with fail
  refine (hnew1 _).mono ?_
  rintro e w2 ⟨h1, rfl, hge1, hq2, hg2⟩
  go_wp2_with fail
  refine (hnew2 _).mono ?_
  rintro e w3 ⟨h2, rfl, hge2, hq3, hg3⟩
  have TT0 : Hid (T2 w l h1 h2 (.slice none 0 0) (.slice none 0 0) (.slice none 0 0) (.slice none 0 0) [] [] [] [] 0 0 [] [] (fun k => if k < w.heap.size then 0 else if k = h1 then 1 else 3) w3) := by
    have z1 := hb1.size
    have z2 := hg2.size
    have hl1 := hq2.h.lt
    have hl3 := hq3.lt
    have nn : ∀ t, Tag (fun k => if k < w.heap.size then 0 else if k = h1 then 1 else 3) (.slice none 0 0) t := fun t k hk => by simp [Value.ownBlock] at hk
    refine ⟨hq2.below hg3.below, hq3, by simp, by simp, by simp, World.ownsRow_nil _ _ _ _, World.ownsRow_nil _ _ _ _, ?_, nn 2, ?_, nn 4, nn 5, nn 6, fun k hk => if_pos hk, (hb1.trans (hg2.below.mono z1)).trans (hg3.below.mono (Nat.le_trans z1 z2))⟩
    · show (if h1 < w.heap.size then 0 else if h1 = h1 then 1 else 3) = 1
      rw [if_neg (by omega), if_pos rfl]
    · show (if h2 < w.heap.size then 0 else if h2 = h1 then 1 else 3) = 3
      rw [if_neg (by omega), if_neg (by omega)]
  clear hnew1 hnew2 hq2 hg2 hq3 hg3 hge1 hge2
  go_wp2_with fail
  go_loopw [5] (fun s5 wr => ∃ (i : Nat) (v1 v2 : Value) (L1 L2 : List It) (ow : Nat → Nat), i ≤ l.length ∧ s5 = .int .i64 i ∧ Hid (T2 w l h1 h2 v1 v2 (.slice none 0 0) (.slice none 0 0) [] [] L1 L2 i i [] [] ow wr)) (fun s5 _ => l.length - (RowKit.intOf s5).toNat)
  case atStart => exact ⟨0, _, _, _, _, _, Nat.zero_le _, rfl, TT0.out⟩
  case round =>
    clear TT0
    obtain ⟨i, v1, v2, L1, L2, ow, hi, rfl, TT⟩ := hrel
    by_cases hlt : i < l.length
    · have hltz : (i : Int) < (l.length : Int) := by omega
      have i0 : (0 : Int) ≤ (i : Int) := by omega
      obtain ⟨x, hx⟩ : ∃ x, l[i]? = some x := ⟨l[i], by rw [List.getElem?_eq_getElem]⟩
      obtain ⟨b1, o1, c1, e1, z1, x1⟩ := s_at (HL.out.below TT.out.bl) hx
      simp only [Value.slice.injEq] at e1
      obtain ⟨rfl, -, rfl⟩ := e1
      have HZ := hid (zip_take hx)
      have HX := hid hx
      have hL1 : L1.length = i := by have := TT.out.p1.length_eq; simpa [Nat.min_eq_left hi] using this
      have hL2 : L2.length = i := by have := TT.out.p2.length_eq; simpa [Nat.min_eq_left hi] using this
      have hpu := pushq_any x wr TT.out.q1 (by rw [hL1]; omega) (by omega) HF1.out
      have HL2 := hid hL2
      clear hx hL1 hL2
      go_wp2_with fail
      refine hpu.mono ?_
      rintro e w4 ⟨v4, L4, rfl, q4, p4, t4⟩
      have T4 := hid (TT.out.one (P1' := []) q4 t4 (by rw [HZ.out, List.nil_append]; exact p4.trans (TT.out.p1.append_right _)) (by simp))
      obtain ⟨b2, o2, c2, e2, z2, x2⟩ := s_at (HL.out.below T4.out.bl) HX.out
      simp only [Value.slice.injEq, Option.some.injEq, Addr.mk.injEq, and_true] at e2
      obtain ⟨⟨rfl, rfl⟩, -, rfl⟩ := e2
      have hpu2 := push_any x w4 T4.out.g2 (by rw [HL2.out]; omega) (by omega) HF2.out
      clear hpu q4 p4 t4 x1 z1
      go_wp2_with fail
      refine hpu2.mono ?_
      rintro e w5 ⟨v5, L5, rfl, q5, p5, _, t5⟩
      have T5 := hid (T4.out.two (P2' := []) q5 t5 (by rw [HZ.out, List.nil_append]; exact p5.trans (T4.out.p2.append_right _)))
      clear hpu2 q5 p5 t5 x2 z2
      go_wp2
      go_roundw
      case rel => exact ⟨i + 1, _, _, _, _, _, by omega, by go_num, T5.out⟩
      case measure => simp [RowKit.intOf]; omega
    · have hltz : ¬ (i : Int) < (l.length : Int) := by omega
      have hil : i = l.length := by omega
      subst hil
      go_wp2_with fail
      go_loopw [6, 7, 8, 9, 10, 11, 12] (fun s6 s7 s8 _ _ _ _ wr => ∃ (j : Nat) (v1 v2 : Value) (P1 P2 L1 L2 : List It) (ow : Nat → Nat), j ≤ l.length ∧ s8 = .int .i64 j ∧ Hid (P1.length = j ∧ P2.length = j) ∧ Hid (T2 w l h1 h2 v1 v2 s6 s7 P1 P2 L1 L2 l.length l.length (P1.map Prod.fst) (P2.map Prod.fst) ow wr)) (fun _ _ s8 _ _ _ _ _ => l.length - (RowKit.intOf s8).toNat)
      case atStart => exact ⟨0, _, _, [], [], _, _, _, Nat.zero_le _, rfl, ⟨rfl, rfl⟩, TT.out⟩
      case round =>
        clear TT
        obtain ⟨j, v1, v2, P1, P2, L1, L2, ow, hj, rfl, HN, TT⟩ := hrel
        have HLn : Hid (L1.length + j = l.length ∧ L2.length + j = l.length) := by
          have h1 := TT.out.p1.length_eq
          have h2 := TT.out.p2.length_eq
          have h3 := HN.out
          rw [List.take_length, List.length_zipIdx, List.length_append] at h1 h2
          exact ⟨by omega, by omega⟩
        by_cases hlt : j < l.length
        · have hltz : (j : Int) < (l.length : Int) := by omega
          obtain ⟨O, hOe⟩ : ∃ O, O = P1.map Prod.fst := ⟨_, rfl⟩
          obtain ⟨D, hDe⟩ : ∃ D, D = P2.map Prod.fst := ⟨_, rfl⟩
          rw [← hOe, ← hDe] at TT
          have HOE := hid hOe
          have HDE := hid hDe
          clear hOe hDe
          obtain ⟨t, ht⟩ : ∃ t, L1[0]? = some t := ⟨L1[0]'(by have := HLn.out.1; omega), by rw [List.getElem?_eq_getElem]⟩
          obtain ⟨u, hu⟩ : ∃ u, L2[0]? = some u := ⟨L2[0]'(by have := HLn.out.2; omega), by rw [List.getElem?_eq_getElem]⟩
          have hpp := popq_any wr TT.out.q1 ht (by have := HLn.out.1; omega) HF1.out
          have HU := hid hu
          clear ht hu
          go_wp2_with fail
          refine hpp.mono ?_
          rintro e w4 ⟨v4, L4, rfl, q4, p4, b4, t4⟩
          obtain ⟨hp4, hf4⟩ := TT.out.popped p4 b4
          have T4 := hid (TT.out.one q4 t4 hp4 hf4)
          have hpp2 := pop_any w4 T4.out.g2 HU.out (by have := HLn.out.2; omega) HF2.out
          have hn4 : L4.length + 1 = L1.length := by have := p4.length_eq; simpa using this
          clear hpp q4 p4 b4 t4 hp4 hf4
          go_wp2_with fail
          refine hpp2.mono ?_
          rintro e w5 ⟨rfl, v5, L5, q5, p5, _, t5⟩
          have hn5 : L5.length + 1 = L2.length := by have := p5.length_eq; simpa using this
          have T5 := hid (T4.out.two (P2' := P2 ++ [u]) q5 t5 (by rw [List.append_assoc]; exact (p5.append_left P2).trans T4.out.p2))
          obtain ⟨m, hm⟩ : ∃ m : Nat, m = l.length - 1 - j := ⟨_, rfl⟩
          have hmz : (l.length : Int) - 1 - (j : Int) = (m : Int) := by omega
          have hlen2 := len_any w5 T5.out.g2
          have hlen1 := len_any w5 T5.out.q1.h
          rw [show L5.length = m by have := HLn.out; omega] at hlen2
          rw [show L4.length = m by have := HLn.out; omega] at hlen1
          clear hpp2 q5 p5 t5 hn4 hn5 hm
          go_wp2_with fail
          refine hlen2.mono ?_
          rintro e w6 ⟨rfl, rfl⟩
          go_wp2_with fail
          refine hlen1.mono ?_
          rintro e w7 ⟨rfl, rfl⟩
          have hO : O.length ≤ 1048576 := by rw [HOE.out, List.length_map, HN.out.1]; omega
          have hD : D.length ≤ 1048576 := by rw [HDE.out, List.length_map, HN.out.2]; omega
          go_wp2_with (at_builtin; refine wpAppS rfl _ _ rfl u6 _ _ rfl T5.out.o t.1 rfl hO ?_)
          intro g8 c8 w8 ho8 hg8 hl8
          have T8 := hid (T5.out.out ho8 (Kp.grownBy hg8 (fun _ h => h)) hl8)
          clear ho8 hg8 hl8 T5
          go_wp2_with (at_builtin; refine wpAppS rfl _ _ rfl u7 _ _ rfl T8.out.d u.1 rfl hD ?_)
          intro g9 c9 w9 ho9 hg9 hl9
          have T9 := hid (T8.out.odd ho9 (Kp.grownBy hg9 (fun _ h => h)) hl9)
          clear ho9 hg9 hl9 T8
          go_wp2
          go_roundw
          case rel =>
            have e1 : O ++ [t.1] = (P1 ++ [t]).map Prod.fst := by rw [List.map_append, ← HOE.out]; rfl
            have e2 : D ++ [u.1] = (P2 ++ [u]).map Prod.fst := by rw [List.map_append, ← HDE.out]; rfl
            rw [e1, e2] at T9
            exact ⟨j + 1, _, _, P1 ++ [t], P2 ++ [u], _, _, _, by omega, by go_num, ⟨by rw [List.length_append, HN.out.1]; rfl, by rw [List.length_append, HN.out.2]; rfl⟩, T9.out⟩
          case measure => simp [RowKit.intOf]; omega
        · have hltz : ¬ (j : Int) < (l.length : Int) := by omega
          have hjl : j = l.length := by omega
          subst hjl
          have hL1 : L1 = [] := List.eq_nil_of_length_eq_zero (by have := HLn.out.1; omega)
          have hL2 : L2 = [] := List.eq_nil_of_length_eq_zero (by have := HLn.out.2; omega)
          subst hL1 hL2
          have hpp1 := pop_none wr TT.out.q1.h
          go_wp2_with fail
          refine hpp1.mono ?_
          rintro e w4 ⟨rfl, hb4⟩
          have T4 := hid (TT.out.below hb4)
          have hpp2 := pop_none w4 T4.out.g2
          clear hpp1 hb4
          go_wp2_with fail
          refine hpp2.mono ?_
          rintro e w5 ⟨rfl, hb5⟩
          have T5 := hid (T4.out.below hb5)
          have hp1 := T5.out.p1
          have hp2 := T5.out.p2
          have hfs := T5.out.fs
          rw [List.take_length, List.append_nil] at hp1 hp2
          simp only [List.append_nil] at hfs
          obtain ⟨S1, S2, S3⟩ := srt_of hp1 hfs
          have hal : (P2.map Prod.fst).Perm l := by
            have := hp2.map Prod.fst
            rwa [List.zipIdx_map_fst] at this
          have hso := sorted_any u6 _ _ l _ w5 (owns_ls (E := ES) T5.out.o) (HL.out.below T5.out.bl) hll S1 S2 S3
          clear hpp2 hb5 hp1 hp2 hfs S1 S2 S3
          go_wp2_with fail
          refine hso.mono ?_
          rintro e w6 ⟨rfl, hb6⟩
          have T6 := hid (T5.out.below hb6)
          have hak := alike_any u7 _ _ l w6 (owns_ls (E := ES) T6.out.d) (HL.out.below T6.out.bl) (by rw [hal.length_eq]; omega) hal
          go_wp2_with fail
          refine hak.mono ?_
          rintro e w7 ⟨rfl, hg7⟩
          go_wp2
          go_ret
          exact ⟨rfl, (T6.out.gr hg7).bl⟩
end Go.Proofs.Ytpcamjmfddnglaa.Hs
