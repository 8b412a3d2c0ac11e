import Derived.Test.YtdnnfgabdkkdjaaGreatGM1
namespace Go.Proofs.YtdnnfgabdkkdjaaGreat.Df
open Go.RowKit Go.Sort
attribute [local go_sem ↓] Go.wp_at_zero Go.wp_at_succ
theorem wpAppZ {P : Program} {α : Type} (E : El α) {e sT : TypeId} {z : Value} {bt : Nat} (hu : P.underlying sT = some (.slice e)) (hI : (P.info? e).map (fun i => (i.zero, i.size, i.bytes)) = some (some z, E.k, bt)) (hz : z.cells.size = E.k) (hk : 0 < E.k)
    {w : World} {ops : Array Oper} {rest : List Oper} {o : Oper} {a : Act} {Q : Exit → Act → World → Prop} (hgd : o.guard = none) (s x : Operand) (ho : o.op = .call ⟨.builtin .append, #[s, x], #[sT, sT]⟩)
    (base : Nat) (v : Value) (n : Nat) (xs : List Value) (hs : a.eval s = v) (hown : w.ownsRow base e E.k v n xs) (M : Nat)
    (v1 : Value) (ts : List α) (hx : a.eval x = v1) (hv : Lz E M w v1 ts) (hbig : (n + ts.length) * bt ≤ 140737488355328) (hmx : n + ts.length ≤ maxLen) (hbase : base ≤ w.heap.size)
    (h : ∀ v' w', Hid (w'.ownsRow base e E.k v' (n + ts.length) (xs ++ fl E ts)) → Hid (w.grownBy w' v.ownBlock) → wpList P ops Q rest (a.put o.dst v') w') : wpList P ops Q (o :: rest) a w := by
 rcases hv with ⟨hv, _⟩ | ⟨rfl, p, c, rfl⟩
 ·exact wpAppL E hu hI hz hk hgd s x ho base v n xs hs hown v1 ts hx hv hbig hmx hbase h
 ·obtain ⟨i0, hi, hz0, hz1, hz2⟩ := info_parts hI
  cases p with
  | none =>
   refine wpList_plain hgd fun K hK => ?_
   have hrun := run_append_owned_none (P := P) (w := w) base sT o.type e i0 E.k hu hi v n xs hown
   rw [← append_none_cap (P := P) w sT o.type v c] at hrun
   unfold Oper.wp
   simp [execOp, ho, resolve, invoke, builtin, hs, hx, hrun, Result.andThen]
   refine hK _ _ (h _ _ (show _ from by have h5 : w.ownsRow base e E.k v (n + ([] : List α).length) (xs ++ fl E []) := (by simpa [fl] using hown); exact h5) ⟨rfl, rfl, rfl, Nat.le_refl _, fun _ _ _ => rfl⟩)
  | some b =>
   refine wpList_append_own _ hgd s x _ ho base e i0 _ E.k bt hu hi hz0 hz1 hz2 hz hk v n xs hs hown b 0 c [] hx (by simp) (fun j u hj => by simp at hj) (fun u hu => by cases hu) hmx hbig hbase ?_
   intro v' w' h1 h2 _
   exact h v' w' h1 h2
def Cp {α : Type} (E : El α) (T : TypeId) (w : World) (l : List α) (e : Ending) (w' : World) : Prop := ∃ d, e = .returned d ∧ Below w.heap.size w w' ∧ w'.ownsRow w.heap.size T E.k d l.length (fl E l)
theorem copyV_any {M : Nat} {v : Value} {l : List NV} (w : World) (h : Lz EV M w v l) (hb : l.length * 112 ≤ 140737488351232) : Calls Tryz.prog 79 #[v] w (Cp EV 89 w l) := by
 have HL := hid h
 obtain ⟨p, c, rfl⟩ := h.form
 clear h
 have HB := hid hb
 clear hb
 generalize l.length = n at HL
 go_enter Tryz.func79, Tryz.ntmps79
 go_wp2_with (at_builtin; refine wpAppZ EV Tryz.underlying22 infoV rfl (by decide) rfl _ _ rfl w.heap.size _ 0 [] rfl (World.ownsRow_nil _ _ _ _) M _ l rfl HL.out (by have := HB.out; omega) (by have := HB.out; unfold maxLen; omega) (Nat.le_refl _) ?_)
 intro v1 w1 h1 h2
 go_wp2_with fail
 go_ret
 refine ⟨_, rfl, (Kp.grownBy (S := fun k => (Value.slice none 0 0).ownBlock = some k) h2.out (fun _ h => h)).below (Nat.le_refl _) (fun k hk => by simp [Value.ownBlock] at hk), owns_re h1.out (by simp) (by simp)⟩
theorem copyD_any {M : Nat} {v : Value} {l : List Edg} (w : World) (h : Lz ED M w v l) (hb : l.length * 40 ≤ 140737488351232) : Calls Tryz.prog 80 #[v] w (Cp ED 94 w l) := by
 have HL := hid h
 obtain ⟨p, c, rfl⟩ := h.form
 clear h
 have HB := hid hb
 clear hb
 generalize l.length = n at HL
 go_enter Tryz.func80, Tryz.ntmps80
 go_wp2_with (at_builtin; refine wpAppZ ED Tryz.underlying23 infoD rfl (by decide) rfl _ _ rfl w.heap.size _ 0 [] rfl (World.ownsRow_nil _ _ _ _) M _ l rfl HL.out (by have := HB.out; omega) (by have := HB.out; unfold maxLen; omega) (Nat.le_refl _) ?_)
 intro v1 w1 h1 h2
 go_wp2_with fail
 go_ret
 refine ⟨_, rfl, (Kp.grownBy (S := fun k => (Value.slice none 0 0).ownBlock = some k) h2.out (fun _ h => h)).below (Nat.le_refl _) (fun k hk => by simp [Value.ownBlock] at hk), owns_re h1.out (by simp) (by simp)⟩
theorem copyO_any {M : Nat} {v : Value} {l : List Opd} (w : World) (h : Lz EO M w v l) (hb : l.length * 16 ≤ 140737488351232) : Calls Tryz.prog 81 #[v] w (Cp EO 138 w l) := by
 have HL := hid h
 obtain ⟨p, c, rfl⟩ := h.form
 clear h
 have HB := hid hb
 clear hb
 generalize l.length = n at HL
 go_enter Tryz.func81, Tryz.ntmps81
 go_wp2_with (at_builtin; refine wpAppZ EO Tryz.underlying87 infoO rfl (by decide) rfl _ _ rfl w.heap.size _ 0 [] rfl (World.ownsRow_nil _ _ _ _) M _ l rfl HL.out (by have := HB.out; omega) (by have := HB.out; unfold maxLen; omega) (Nat.le_refl _) ?_)
 intro v1 w1 h1 h2
 go_wp2_with fail
 go_ret
 refine ⟨_, rfl, (Kp.grownBy (S := fun k => (Value.slice none 0 0).ownBlock = some k) h2.out (fun _ h => h)).below (Nat.le_refl _) (fun k hk => by simp [Value.ownBlock] at hk), owns_re h1.out (by simp) (by simp)⟩
theorem copyC_any {M : Nat} {v : Value} {l : List Con} (w : World) (h : Lz EC M w v l) (hb : l.length * 40 ≤ 140737488351232) : Calls Tryz.prog 82 #[v] w (Cp EC 92 w l) := by
 have HL := hid h
 obtain ⟨p, c, rfl⟩ := h.form
 clear h
 have HB := hid hb
 clear hb
 generalize l.length = n at HL
 go_enter Tryz.func82, Tryz.ntmps82
 go_wp2_with (at_builtin; refine wpAppZ EC Tryz.underlying85 infoC rfl (by decide) rfl _ _ rfl w.heap.size _ 0 [] rfl (World.ownsRow_nil _ _ _ _) M _ l rfl HL.out (by have := HB.out; omega) (by have := HB.out; unfold maxLen; omega) (Nat.le_refl _) ?_)
 intro v1 w1 h1 h2
 go_wp2_with fail
 go_ret
 refine ⟨_, rfl, (Kp.grownBy (S := fun k => (Value.slice none 0 0).ownBlock = some k) h2.out (fun _ h => h)).below (Nat.le_refl _) (fun k hk => by simp [Value.ownBlock] at hk), owns_re h1.out (by simp) (by simp)⟩
theorem among_any (n m : Int) (w : World) : Calls Tryz.prog 120 #[.int .i64 n, .int .i64 m] w fun r w' => r = .returned (.bool (decide (0 ≤ n ∧ n < m))) ∧ w' = w := by
 by_cases h : 0 ≤ n
 ·go_enter Tryz.func120, Tryz.ntmps120
  go_wp2_with fail
  go_ret
  exact ⟨by simp [h], rfl⟩
 ·go_enter Tryz.func120, Tryz.ntmps120
  go_wp2_with fail
  go_ret
  exact ⟨by simp; intros; omega, rfl⟩
def nat? (xs : List NV) (i : Int) : Option NV := if 0 ≤ i then xs[i.toNat]? else none
def hasI (xs : List NV) (i p : Int) : Bool := match nat? xs i with | some x => decide (0 ≤ p ∧ p < x.n.ins) | none => false
def hasO (xs : List NV) (i p : Int) : Bool := match nat? xs i with | some x => decide (0 ≤ p ∧ p < x.n.outs) | none => false
set_option maxHeartbeats 1000000 in
theorem hasin_any {M : Nat} {v : Value} {xs : List NV} (i p : Int) (w : World) (h : Lz EV M w v xs) : Calls Tryz.prog 116 #[v, .int .i64 i, .int .i64 p] w fun r w' => r = .returned (.bool (hasI xs i p)) ∧ w' = w := by
 have ha := fun (n m : Int) W => among_any n m W
 obtain ⟨q, c, hv⟩ := h.form
 obtain ⟨n, hn⟩ : ∃ n, n = xs.length := ⟨_, rfl⟩
 rw [← hn] at hv
 subst hv
 by_cases hi : 0 ≤ i ∧ i < (n : Int)
 ·obtain ⟨j, rfl⟩ : ∃ j : Nat, i = (j : Int) := ⟨i.toNat, by omega⟩
  obtain ⟨y, hy⟩ : ∃ y, xs[j]? = some y := ⟨xs[j]'(by omega), by simp⟩
  obtain ⟨b, o, c2, e, z, x0, x1, x2, -⟩ := ls_atV (h.ls hy) hy
  simp only [Value.slice.injEq] at e
  obtain ⟨rfl, -, rfl⟩ := e
  have HM : Hid (hasI xs (j : Int) p = decide (0 ≤ p ∧ p < y.n.ins)) := by
   show _ = _
   unfold hasI nat?
   rw [if_pos (by omega), Int.toNat_natCast, hy]
  have h1 := ha (j : Int) (n : Int)
  have hd : decide (0 ≤ (j : Int) ∧ (j : Int) < (n : Int)) = true := by simp; omega
  rw [hd] at h1
  have h2 := ha p y.n.ins
  have hj0 : (0 : Int) ≤ (j : Int) := by omega
  have hjn : (j : Int) < (n : Int) := by omega
  clear ha h hy hn hd hi
  generalize decide (0 ≤ p ∧ p < y.n.ins) = bb at HM h2
  go_enter Tryz.func116, Tryz.ntmps116
  go_wp2_with fail
  refine (h1 _).mono ?_
  rintro r w1 ⟨rfl, rfl⟩
  go_wp2_with fail
  refine (h2 _).mono ?_
  rintro r w2 ⟨rfl, rfl⟩
  go_wp2_with fail
  go_ret
  exact ⟨by rw [HM.out]; rfl, rfl⟩
 ·have HM : Hid (hasI xs i p = false) := by
    show _ = _
    unfold hasI nat?
    by_cases h0 : 0 ≤ i
    ·rw [if_pos h0, List.getElem?_eq_none (by omega)]
    ·rw [if_neg h0]
  have h1 := ha i (n : Int)
  have hd : decide (0 ≤ i ∧ i < (n : Int)) = false := by simpa using hi
  rw [hd] at h1
  clear ha h hn hd hi
  go_enter Tryz.func116, Tryz.ntmps116
  go_wp2_with fail
  refine (h1 _).mono ?_
  rintro r w1 ⟨rfl, rfl⟩
  go_wp2_with fail
  go_ret
  exact ⟨by rw [HM.out]; rfl, rfl⟩
set_option maxHeartbeats 1000000 in
theorem hasout_any {M : Nat} {v : Value} {xs : List NV} (i p : Int) (w : World) (h : Lz EV M w v xs) : Calls Tryz.prog 115 #[v, .int .i64 i, .int .i64 p] w fun r w' => r = .returned (.bool (hasO xs i p)) ∧ w' = w := by
 have ha := fun (n m : Int) W => among_any n m W
 obtain ⟨q, c, hv⟩ := h.form
 obtain ⟨n, hn⟩ : ∃ n, n = xs.length := ⟨_, rfl⟩
 rw [← hn] at hv
 subst hv
 by_cases hi : 0 ≤ i ∧ i < (n : Int)
 ·obtain ⟨j, rfl⟩ : ∃ j : Nat, i = (j : Int) := ⟨i.toNat, by omega⟩
  obtain ⟨y, hy⟩ : ∃ y, xs[j]? = some y := ⟨xs[j]'(by omega), by simp⟩
  obtain ⟨b, o, c2, e, z, x0, x1, x2, -⟩ := ls_atV (h.ls hy) hy
  simp only [Value.slice.injEq] at e
  obtain ⟨rfl, -, rfl⟩ := e
  have HM : Hid (hasO xs (j : Int) p = decide (0 ≤ p ∧ p < y.n.outs)) := by
   show _ = _
   unfold hasO nat?
   rw [if_pos (by omega), Int.toNat_natCast, hy]
  have h1 := ha (j : Int) (n : Int)
  have hd : decide (0 ≤ (j : Int) ∧ (j : Int) < (n : Int)) = true := by simp; omega
  rw [hd] at h1
  have h2 := ha p y.n.outs
  have hj0 : (0 : Int) ≤ (j : Int) := by omega
  have hjn : (j : Int) < (n : Int) := by omega
  clear ha h hy hn hd hi
  generalize decide (0 ≤ p ∧ p < y.n.outs) = bb at HM h2
  go_enter Tryz.func115, Tryz.ntmps115
  go_wp2_with fail
  refine (h1 _).mono ?_
  rintro r w1 ⟨rfl, rfl⟩
  go_wp2_with fail
  refine (h2 _).mono ?_
  rintro r w2 ⟨rfl, rfl⟩
  go_wp2_with fail
  go_ret
  exact ⟨by rw [HM.out]; rfl, rfl⟩
 ·have HM : Hid (hasO xs i p = false) := by
    show _ = _
    unfold hasO nat?
    by_cases h0 : 0 ≤ i
    ·rw [if_pos h0, List.getElem?_eq_none (by omega)]
    ·rw [if_neg h0]
  have h1 := ha i (n : Int)
  have hd : decide (0 ≤ i ∧ i < (n : Int)) = false := by simpa using hi
  rw [hd] at h1
  clear ha h hn hd hi
  go_enter Tryz.func115, Tryz.ntmps115
  go_wp2_with fail
  refine (h1 _).mono ?_
  rintro r w1 ⟨rfl, rfl⟩
  go_wp2_with fail
  go_ret
  exact ⟨by rw [HM.out]; rfl, rfl⟩
end Go.Proofs.YtdnnfgabdkkdjaaGreat.Df
