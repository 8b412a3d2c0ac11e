import Derived.Test.YtnpmmodcmfgbjaaGreatMTal
import Derived.Test.YtnpmmodcmfgbjaaGreatLMap
import Derived.Deep.LoopGhost
namespace Go.Proofs.YtnpmmodcmfgbjaaGreat
open Go.RowKit Go.Sort Go.Maps
attribute [local go_sem ↓] Go.wp_at_zero Go.wp_at_succ

/-- A delta: a time and a number. -/
abbrev Dl := Tm × Int
def ED : El Dl where
  k := 4
  enc d := [.int .u64 d.1.1.1, .int .u64 d.1.1.2.1, .int .u64 d.1.1.2.2, .int .i64 d.2]
  len _ := rfl
  one x u hu := by
    simp at hu
    rcases hu with rfl | rfl | rfl | rfl <;> rfl
abbrev dv (d : Dl) : Value := .agg #[.int .u64 d.1.1.1, .int .u64 d.1.1.2.1, .int .u64 d.1.1.2.2, .int .i64 d.2]
theorem Ls.at4 {w : World} {v : Value} {ts : List Dl} (h : Ls ED w v ts) {j : Nat} {t : Dl} (hj : ts[j]? = some t) :
    ∃ b off c, v = .slice (some ⟨b, off, none⟩) ts.length c ∧ b < w.heap.size ∧ w.cell? ⟨b, off + j * 4, none⟩ = some (.int .u64 t.1.1.1) ∧ w.cell? ⟨b, off + j * 4 + 1, none⟩ = some (.int .u64 t.1.1.2.1) ∧ w.cell? ⟨b, off + j * 4 + 2, none⟩ = some (.int .u64 t.1.1.2.2) ∧ w.cell? ⟨b, off + j * 4 + 3, none⟩ = some (.int .i64 t.2) := by
  obtain ⟨b, off, c, hv, hb, hc⟩ := h.get hj
  exact ⟨b, off, c, hv, hb, hc 0 _ (by decide) rfl, hc 1 _ (by decide) rfl, hc 2 _ (by decide) rfl, hc 3 _ (by decide) rfl⟩
theorem infoDl : (Tryz.prog.info? 54).map (fun i => (i.zero, i.size, i.bytes)) = some (some (.agg #[.int .u64 0, .int .u64 0, .int .u64 0, .int .i64 0]), 4, 32) := by kernel_rfl
/-- 'append(own, d)' where own is of deltas. -/
theorem wpApp1D {w : World} {ops : Array Oper} {rest : List Oper} {o : Oper} {a : Act} {Q : Exit → Act → World → Prop} (hgd : o.guard = none) (s x : Operand)
    (ho : o.op = .call { callee := .builtin .append, args := #[s, x], argTypes := #[38, 38] })
    (base : Nat) (v : Value) (n : Nat) (xs : List Value) (hs : a.eval s = v) (hown : w.ownsRow base 54 4 v n xs)
    (t : Dl) (hx : a.eval x = .slice (some ⟨w.heap.size, 0, none⟩) 1 1) (hbig : (n + 1) * 32 ≤ 140737488355328) (hbase : base ≤ w.heap.size)
    (h : ∀ g cap w', w'.ownsRow base 54 4 (.slice (some ⟨g, 0, none⟩) (n + 1) cap) (n + 1) (xs ++ ED.enc t) → w.grownBy w' v.ownBlock → (v.ownBlock = some g ∨ w.heap.size ≤ g) → wpList Tryz.prog ops Q rest (a.put o.dst (.slice (some ⟨g, 0, none⟩) (n + 1) cap)) w') :
    wpList Tryz.prog ops Q (o :: rest) a (w.alloc (.cells #[.int .u64 t.1.1.1, .int .u64 t.1.1.2.1, .int .u64 t.1.1.2.2, .int .i64 t.2] 54)) :=
  wpApp1 ED Tryz.underlying38 infoDl rfl (by decide) hgd s x ho base v n xs hs hown t hx hbig (by unfold maxLen; omega) hbase _ rfl _ h
theorem wpAppLD {w : World} {ops : Array Oper} {rest : List Oper} {o : Oper} {a : Act} {Q : Exit → Act → World → Prop} (hgd : o.guard = none) (s x : Operand)
    (ho : o.op = .call { callee := .builtin .append, args := #[s, x], argTypes := #[38, 38] })
    (base : Nat) (v : Value) (n : Nat) (xs : List Value) (hs : a.eval s = v) (hown : w.ownsRow base 54 4 v n xs)
    (v1 : Value) (ts : List Dl) (hx : a.eval x = v1) (hv : Ls ED w v1 ts) (hbig : (n + ts.length) * 32 ≤ 140737488355328) (hbase : base ≤ w.heap.size)
    (h : ∀ v' w', w'.ownsRow base 54 4 v' (n + ts.length) (xs ++ fl ED ts) → w.grownBy w' v.ownBlock → wpList Tryz.prog ops Q rest (a.put o.dst v') w') : wpList Tryz.prog ops Q (o :: rest) a w :=
  wpAppL ED Tryz.underlying38 infoDl rfl (by decide) hgd s x ho base v n xs hs hown v1 ts hx hv hbig (by unfold maxLen; omega) hbase h

/-- counts, as a value. -/
abbrev cv (tb : Nat) : Value := .agg #[.pointer (some ⟨tb, 0, none⟩)]
open Tt (Tl byd byd_f byd_t)
theorem mbeyond_any (n : Int) (w : World) : Calls Tryz.prog 60 #[.int .i64 n] w fun e w' => e = .returned (.bool (byd n)) ∧ w' = w := by
  unfold byd
  go_enter Tryz.func60, Tryz.ntmps60
  go_wp2
  all_goals (go_ret; refine ⟨?_, rfl⟩; simp_all)
set_option maxHeartbeats 1000000 in
theorem mcount_any {tb b g n : Nat} {f : Tm → Int} (x : Tm) (w : World) (h : Tl w tb b g n f) :
    Calls Tryz.prog 33 #[cv tb, tv x] w fun e w' => e = .returned (.int .i64 (f x)) ∧ Gr w w' := by
  have HG : Hid (∀ o1 o2, Gr w ((w.alloc o1).alloc o2)) := fun _ _ => ((Gr.refl _).alloc _).alloc _
  have hco := fun o1 o2 => Tt.get_any x _ (h.gr (HG.out o1 o2))
  generalize f x = c at hco ⊢
  clear h
  go_enter Tryz.func33, Tryz.ntmps33
  go_wp2_with fail
  refine (hco _ _).mono ?_
  rintro e w1 ⟨rfl, g1⟩
  go_wp2
  go_ret
  exact ⟨rfl, (HG.out _ _).trans g1⟩

/-- Counts that are set one behind the other. -/
def setl (f : Tm → Int) (us : List Dl) : Tm → Int := us.foldl (fun g d => upd g d.1 d.2) f
theorem setl_take_succ {f : Tm → Int} {us : List Dl} {k : Nat} {d : Dl} (h : us[k]? = some d) : setl f (us.take (k + 1)) = upd (setl f (us.take k)) d.1 d.2 := by
  unfold setl
  rw [List.take_add_one, h, List.foldl_append]
  rfl
theorem upd_upd {K : Type} [DecidableEq K] (f : K → Int) (x : K) (a b : Int) : upd (upd f x a) x b = upd f x b := by
  funext t
  unfold upd
  split <;> rfl
theorem addf_zero {f : Tm → Int} {x : Tm} (h : -2147483647 ≤ f x ∧ f x ≤ 2147483647) : Tt.addf f x (- f x) = upd f x 0 := by
  unfold Tt.addf
  have h1 : byd (- f x) = false := byd_f.2 (by omega)
  have h2 : f x + - f x = 0 := by omega
  rw [h1, h2, if_neg (by simp [byd])]
theorem addf_set {f : Tm → Int} {x : Tm} {v : Int} (h : byd v = false) : Tt.addf (upd f x 0) x v = upd f x v := by
  unfold Tt.addf
  rw [upd_same, Int.zero_add, h, if_neg (by simp), upd_upd]

set_option maxHeartbeats 4000000 in
set_option maxRecDepth 100000 in
theorem mset_any {tb b g n : Nat} {f : Tm → Int} (us : List Dl) (v : Value) (w : World) (h : Tl w tb b g n f) (hv : Ls ED w v us) (hne : v.ownBlock ≠ some b) (hbd : ∀ d ∈ us, byd d.2 = false) (hn : n + 2 * us.length < 4611686018427387904) :
    Calls Tryz.prog 40 #[cv tb, v] w fun e w' => e = .returned (.tuple #[]) ∧ Tl w' tb b g (n + 2 * us.length) (setl f us) ∧ Kp (fun k => k = b) w w' := by
  have hmx : Tryz.prog.follows .mixedOrders = true := by kernel_rfl
  obtain ⟨pl, cl, rfl⟩ := hv.form
  obtain ⟨W1, hW1⟩ : ∃ W1, W1 = w.alloc (.cells #[.pointer (some ⟨tb, 0, none⟩)] 60) := ⟨_, rfl⟩
  have G1 : Gr w W1 := by rw [hW1]; exact (Gr.refl _).alloc _
  have hz : w.heap.size < W1.heap.size := by rw [hW1]; simp
  have c0 : W1.cell? ⟨w.heap.size, 0, none⟩ = some (.pointer (some ⟨tb, 0, none⟩)) := by rw [hW1]; simp
  have HL : Hid (Ls ED W1 (.slice pl us.length cl) us) := hv.below G1.below
  have HT : Hid (Tl W1 tb b g n f) := h.gr G1
  have HG : Hid (Gr w W1) := G1
  have HN : Hid ((Value.slice pl us.length cl).ownBlock ≠ some b) := hne
  have HBD : Hid (∀ d ∈ us, byd d.2 = false) := hbd
  obtain ⟨B0, hB0⟩ : ∃ B0, B0 = w.heap.size := ⟨_, rfl⟩
  have hbB : b ≠ B0 := by have := h.ta.lt; omega
  have hz0 : B0 < W1.heap.size := by omega
  rw [← hB0] at c0
  clear h hv hne hbd G1 hz
  go_enter Tryz.func40, Tryz.ntmps40
  go_wp2_with fail
  rw [← hW1, ← hB0]
  clear hW1 hB0
  go_loopw [5, 8] (fun _ s8 wr => ∃ k : Nat, k ≤ us.length ∧ s8 = .int .i64 k ∧ Hid (Tl wr tb b g (n + 2 * k) (setl f (us.take k)) ∧ Kp (fun k => k = b) W1 wr)) (fun _ s8 _ => us.length - (RowKit.intOf s8).toNat)
  case atStart => exact ⟨0, Nat.zero_le _, rfl, HT.out, Kp.refl _ _⟩
  case round =>
    obtain ⟨k, hk, rfl, HI⟩ := hrel
    by_cases hlt : k < us.length
    · have hltz : (k : Int) < (us.length : Int) := by omega
      obtain ⟨d, hd⟩ : ∃ d, us[k]? = some d := ⟨us[k], by simp⟩
      obtain ⟨b1, o1, c1, e1, z1, x1, x2, x3, x4⟩ := (HI.out.2.ls HL.out (fun j hj hs => HN.out (hs ▸ hj))).at4 hd
      simp only [Value.slice.injEq] at e1
      obtain ⟨rfl, -, rfl⟩ := e1
      have HS : Hid (setl f (us.take (k + 1)) = upd (setl f (us.take k)) d.1 d.2) := setl_take_succ hd
      have hdb : byd d.2 = false := HBD.out d (List.mem_of_getElem? hd)
      have hdr := byd_f.1 hdb
      clear hd
      generalize setl f (us.take k) = F at *
      obtain ⟨W2, hW2⟩ : ∃ W2, W2 = wr.alloc (.cells #[.int .u64 d.1.1.1, .int .u64 d.1.1.2.1, .int .u64 d.1.1.2.2, .int .i64 d.2] 54) := ⟨_, rfl⟩
      obtain ⟨nb, hnb⟩ : ∃ nb, nb = wr.heap.size := ⟨_, rfl⟩
      have G2 : Gr wr W2 := by rw [hW2]; exact (Gr.refl _).alloc _
      have HG2 : Hid (Gr wr W2.drew) := G2.drew
      have HT2 : Hid (Tl W2.drew tb b g (n + 2 * k) F) := HI.out.1.gr G2.drew
      have hFb := HI.out.1.bd d.1
      have hbw : b < wr.heap.size := HI.out.1.ta.lt
      have S0 : (W2.drew.cell? ⟨B0, 0, none⟩ = some (.pointer (some ⟨tb, 0, none⟩)) ∧ W2.drew.cell? ⟨nb, 0, none⟩ = some (.int .u64 d.1.1.1) ∧ W2.drew.cell? ⟨nb, 1, none⟩ = some (.int .u64 d.1.1.2.1) ∧ W2.drew.cell? ⟨nb, 2, none⟩ = some (.int .u64 d.1.1.2.2) ∧ W2.drew.cell? ⟨nb, 3, none⟩ = some (.int .i64 d.2) ∧ B0 < W2.drew.heap.size ∧ nb < W2.drew.heap.size) := by
        have hB0 : B0 < wr.heap.size := Nat.lt_of_lt_of_le hz0 HI.out.2.size
        have e0 : wr.cell? ⟨B0, 0, none⟩ = some (.pointer (some ⟨tb, 0, none⟩)) := (HI.out.2.cell hz0 (fun e => hbB e.symm)).trans c0
        have hblk : W2.heap[nb]? = some (.cells #[.int .u64 d.1.1.1, .int .u64 d.1.1.2.1, .int .u64 d.1.1.2.2, .int .i64 d.2] 54 (0, 0)) := by rw [hW2, hnb]; exact heap_new' _ _
        refine ⟨(G2.drew.cell hB0).trans e0, ?_, ?_, ?_, ?_, Nat.lt_of_lt_of_le hB0 G2.size, ?_⟩
        all_goals first | exact (Array.getElem?_eq_some_iff.1 hblk).1 | (show W2.cell? _ = _; simp only [World.cell?]; rw [hblk]; rfl)
      have hnbb : nb ≠ b := by omega
      have keepG : ∀ W W' : World, (W.cell? ⟨B0, 0, none⟩ = some (.pointer (some ⟨tb, 0, none⟩)) ∧ W.cell? ⟨nb, 0, none⟩ = some (.int .u64 d.1.1.1) ∧ W.cell? ⟨nb, 1, none⟩ = some (.int .u64 d.1.1.2.1) ∧ W.cell? ⟨nb, 2, none⟩ = some (.int .u64 d.1.1.2.2) ∧ W.cell? ⟨nb, 3, none⟩ = some (.int .i64 d.2) ∧ B0 < W.heap.size ∧ nb < W.heap.size) → Gr W W' → (W'.cell? ⟨B0, 0, none⟩ = some (.pointer (some ⟨tb, 0, none⟩)) ∧ W'.cell? ⟨nb, 0, none⟩ = some (.int .u64 d.1.1.1) ∧ W'.cell? ⟨nb, 1, none⟩ = some (.int .u64 d.1.1.2.1) ∧ W'.cell? ⟨nb, 2, none⟩ = some (.int .u64 d.1.1.2.2) ∧ W'.cell? ⟨nb, 3, none⟩ = some (.int .i64 d.2) ∧ B0 < W'.heap.size ∧ nb < W'.heap.size) := fun W W' h hg =>
        ⟨(hg.cell h.2.2.2.2.2.1).trans h.1, (hg.cell h.2.2.2.2.2.2).trans h.2.1, (hg.cell h.2.2.2.2.2.2).trans h.2.2.1, (hg.cell h.2.2.2.2.2.2).trans h.2.2.2.1, (hg.cell h.2.2.2.2.2.2).trans h.2.2.2.2.1, Nat.lt_of_lt_of_le h.2.2.2.2.2.1 hg.size, Nat.lt_of_lt_of_le h.2.2.2.2.2.2 hg.size⟩
      have keepK : ∀ W W' : World, (W.cell? ⟨B0, 0, none⟩ = some (.pointer (some ⟨tb, 0, none⟩)) ∧ W.cell? ⟨nb, 0, none⟩ = some (.int .u64 d.1.1.1) ∧ W.cell? ⟨nb, 1, none⟩ = some (.int .u64 d.1.1.2.1) ∧ W.cell? ⟨nb, 2, none⟩ = some (.int .u64 d.1.1.2.2) ∧ W.cell? ⟨nb, 3, none⟩ = some (.int .i64 d.2) ∧ B0 < W.heap.size ∧ nb < W.heap.size) → Kp (fun k => k = b) W W' → (W'.cell? ⟨B0, 0, none⟩ = some (.pointer (some ⟨tb, 0, none⟩)) ∧ W'.cell? ⟨nb, 0, none⟩ = some (.int .u64 d.1.1.1) ∧ W'.cell? ⟨nb, 1, none⟩ = some (.int .u64 d.1.1.2.1) ∧ W'.cell? ⟨nb, 2, none⟩ = some (.int .u64 d.1.1.2.2) ∧ W'.cell? ⟨nb, 3, none⟩ = some (.int .i64 d.2) ∧ B0 < W'.heap.size ∧ nb < W'.heap.size) := fun W W' h hg =>
        ⟨(hg.cell h.2.2.2.2.2.1 (fun e => hbB e.symm)).trans h.1, (hg.cell h.2.2.2.2.2.2 hnbb).trans h.2.1, (hg.cell h.2.2.2.2.2.2 hnbb).trans h.2.2.1, (hg.cell h.2.2.2.2.2.2 hnbb).trans h.2.2.2.1, (hg.cell h.2.2.2.2.2.2 hnbb).trans h.2.2.2.2.1, Nat.lt_of_lt_of_le h.2.2.2.2.2.1 hg.size, Nat.lt_of_lt_of_le h.2.2.2.2.2.2 hg.size⟩
      have hCo : ∀ W, Tl W tb b g (n + 2 * k) F → _ := fun W h => mcount_any d.1 W h
      have hA1 : ∀ W, Tl W tb b g (n + 2 * k) F → _ := fun W h => Tt.add_any d.1 (- F d.1) W h (by unfold maxLen; omega)
      have hA2 : ∀ W, Tl W tb b g (n + 2 * k + 1) (upd F d.1 0) → _ := fun W h => Tt.add_any d.1 d.2 W h (by unfold maxLen; omega)
      rw [addf_zero hFb] at hA1
      rw [addf_set hdb] at hA2
      generalize Tt.addc F d.1 (- F d.1) = r1 at hA1
      generalize Tt.addc (upd F d.1 0) d.1 d.2 = r2 at hA2
      have hneg : IntKind.i64.wrap (- F d.1) = - F d.1 := by rw [IntKind.wrap_i64]; omega
      have HF1 : Hid (F d.1 = F d.1) := rfl
      generalize F d.1 = c at hCo hA1 hneg
      clear HF1 hFb
      go_wp2_with fail
      rw [← hW2, ← hnb]
      clear hW2 hnb x1 x2 x3 x4
      go_region_held3 (fun w' => w'.cell? ⟨B0, 0, none⟩ = some (.pointer (some ⟨tb, 0, none⟩)) ∧ w'.cell? ⟨nb, 0, none⟩ = some (.int .u64 d.1.1.1) ∧ w'.cell? ⟨nb, 1, none⟩ = some (.int .u64 d.1.1.2.1) ∧ w'.cell? ⟨nb, 2, none⟩ = some (.int .u64 d.1.1.2.2) ∧ w'.cell? ⟨nb, 3, none⟩ = some (.int .i64 d.2) ∧ B0 < w'.heap.size ∧ nb < w'.heap.size)
        (first | exact S0 | exact keepG _ _ (by assumption) (by assumption) | exact keepK _ _ (by assumption) (by assumption))
        (first | (go_at_call 33; refine (hCo _ HT2.out).mono ?_; rintro e w5 ⟨rfl, hg5⟩) | (go_at_call 61; refine (hA1 _ (HT2.out.gr hg5)).mono ?_; rintro e w6 ⟨rfl, ht6, hk6⟩))
      have S6 : (w6.cell? ⟨B0, 0, none⟩ = some (.pointer (some ⟨tb, 0, none⟩)) ∧ w6.cell? ⟨nb, 0, none⟩ = some (.int .u64 d.1.1.1) ∧ w6.cell? ⟨nb, 1, none⟩ = some (.int .u64 d.1.1.2.1) ∧ w6.cell? ⟨nb, 2, none⟩ = some (.int .u64 d.1.1.2.2) ∧ w6.cell? ⟨nb, 3, none⟩ = some (.int .i64 d.2) ∧ B0 < w6.heap.size ∧ nb < w6.heap.size) := keepK _ _ (keepG _ _ S0 hg5) hk6
      have K6 : Hid (Kp (fun k => k = b) wr w6) := ((Kp.of_gr (HG2.out.trans hg5)).trans hk6 (fun _ _ h => h))
      have T6 : Hid (Tl w6 tb b g (n + 2 * k + 1) (upd F d.1 0)) := ht6
      obtain ⟨y1, y2, y3, y4, y5, y6, y7⟩ := S6
      clear S0 keepG keepK hCo hA1 hg5 hk6 ht6
      go_wp2_with fail
      refine (hA2 _ T6.out).mono ?_
      rintro e w7 ⟨rfl, ht7, hk7⟩
      go_wp2
      refine ⟨⟨k + 1, by omega, by go_num, ?_, HI.out.2.trans (K6.out.trans hk7 (fun _ _ h => h)) (fun _ _ h => h)⟩, by simp [RowKit.intOf]; omega⟩
      rw [HS.out]
      exact ht7
    · have hltz : ¬ (k : Int) < (us.length : Int) := by omega
      have hk' : k = us.length := by omega
      subst hk'
      rw [List.take_length] at HI
      go_wp2
      go_end0
      exact ⟨rfl, HI.out.1, (Kp.of_gr HG.out).trans HI.out.2 (fun _ _ h => h)⟩
end Go.Proofs.YtnpmmodcmfgbjaaGreat
