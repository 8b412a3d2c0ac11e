import Derived.Test.YtpgodnaebkmhhaaGreatJ6
import Derived.BigQuiet
import Derived.Test.YtpgodnaebkmhhaaGreatJ7
import Derived.WalkMore
namespace Go.Proofs.YtpgodnaebkmhhaaGreat.Df
open Go.RowKit Go.Sort
attribute [local go_sem ↓] Go.wp_at_zero Go.wp_at_succ
def Ix (T J : World → Prop) (r : Ending) (W' : World) : Prop := (∃ k : Nat, r = .returned (.int .i64 (k : Nat)) ∧ T W') ∨ (r = .returned (.int .i64 (-1)) ∧ J W')
set_option maxHeartbeats 2000000 in
/-- slices.IndexFunc over ints, of a predicate that may write: what stands from one number to the next. -/
theorem indexFuncI_inv {v : Value} {l : List Int} (fn : Nat) (lb : Array Value) (I : Nat → World → Prop) (T : World → Prop) (w : World) (hl : l.length ≤ 140737488351232) (eg : ∀ args w, (callFunc fn args).run Tryz.prog w = .ok (.enter fn args) w) (hL : ∀ i W, I i W → ∃ M, Lz EI M W v l)
    (hp : ∀ (i : Nat) (x : Int) (W : World), l[i]? = some x → I i W → Calls Tryz.prog fn (#[.int .i64 x] ++ lb) W fun r W' => ∃ b, r = .returned (.bool b) ∧ Hid ((b = true → T W') ∧ (b = false → I (i + 1) W'))) (h0 : I 0 w) :
    Calls Tryz.prog 74 #[v, .func (.func fn) #[] lb] w fun r W' => Ix T (I l.length) r W' := by
  obtain ⟨_, hv⟩ := hL 0 w h0
  obtain ⟨pl, cl, rfl⟩ := hv.form
  have HL := hid hL
  have HP := hid hp
  have H0 := hid h0
  clear hv hL hp h0
  go_enter Tryz.func74, Tryz.ntmps74
  go_wp2_with fail
  go_loopw [5, 8] (fun s5 s8 wr => ∃ k : Nat, k ≤ l.length ∧ s8 = .int .i64 (k : Nat) ∧ Hid (I k wr)) (fun _ s8 _ => l.length - (RowKit.intOf s8).toNat)
  case atStart => exact ⟨0, Nat.zero_le _, rfl, H0.out⟩
  case round =>
    obtain ⟨k, hk, rfl, HI⟩ := hrel
    by_cases hlt : k < l.length
    · have hltz : (k : Int) < (l.length : Int) := by omega
      have hk0 : (0 : Int) ≤ (k : Int) := by omega
      obtain ⟨x, hx⟩ : ∃ x, l[k]? = some x := ⟨l[k], by simp⟩
      obtain ⟨M, hz⟩ := HL.out k wr HI.out
      obtain ⟨b1, o1, c1, e1, z1, x1⟩ := ls_atI (hz.ls hx) hx
      simp only [Value.slice.injEq] at e1
      obtain ⟨rfl, -, rfl⟩ := e1
      have hcall := HP.out k x wr hx HI.out
      clear hx hz
      go_wp2_with (go_at_fn fn; refine hcall.mono ?_; rintro e w' ⟨b, rfl, HB⟩)
      · rename_i hb
        go_ret
        exact Or.inl ⟨k, rfl, HB.out.1 hb⟩
      · rename_i hb
        go_roundw
        case rel => exact ⟨k + 1, by omega, by go_num, HB.out.2 (by simpa using hb)⟩
        case measure => simp [RowKit.intOf]; omega
    · have hltz : ¬ (k : Int) < (l.length : Int) := by omega
      obtain rfl : k = l.length := by omega
      go_wp2_with fail
      go_ret
      exact Or.inr ⟨rfl, HI.out⟩
theorem containsFuncI_inv {v : Value} {l : List Int} (fn : Nat) (lb : Array Value) (I : Nat → World → Prop) (T : World → Prop) (w : World) (hl : l.length ≤ 140737488351232) (eg : ∀ args w, (callFunc fn args).run Tryz.prog w = .ok (.enter fn args) w) (hL : ∀ i W, I i W → ∃ M, Lz EI M W v l)
    (hp : ∀ (i : Nat) (x : Int) (W : World), l[i]? = some x → I i W → Calls Tryz.prog fn (#[.int .i64 x] ++ lb) W fun r W' => ∃ b, r = .returned (.bool b) ∧ Hid ((b = true → T W') ∧ (b = false → I (i + 1) W'))) (h0 : I 0 w) :
    Calls Tryz.prog 58 #[v, .func (.func fn) #[] lb] w fun r W' => ∃ b, r = .returned (.bool b) ∧ Hid ((b = true → T W') ∧ (b = false → I l.length W')) := by
  have h := indexFuncI_inv fn lb I T w hl eg hL hp h0
  obtain ⟨_, hv⟩ := hL 0 w h0
  obtain ⟨pl, cl, rfl⟩ := hv.form
  clear hv hL hp h0
  go_enter Tryz.func58, Tryz.ntmps58
  go_wp2_with fail
  refine h.mono ?_
  clear h
  rintro e w1 (⟨k, rfl, ht⟩ | ⟨rfl, hi⟩)
  · have hk0 : (0 : Int) ≤ (k : Int) := by omega
    go_wp2_with fail
    go_ret
    exact ⟨true, by first | rfl | simp, fun _ => ht, (fun e => by cases e)⟩
  · go_wp2_with fail
    go_ret
    exact ⟨false, by first | rfl | simp, (fun e => by cases e), fun _ => hi⟩
/-- Truths as elements. -/
def EBo : El Bool where
  k := 1
  enc x := [.bool x]
  len _ := rfl
  one x u hu := by
    simp at hu
    subst hu
    rfl
theorem fl_Bo (l : List Bool) : fl EBo l = l.map Value.bool := by
  induction l with
  | nil => rfl
  | cons x l ih => rw [fl_cons, ih]; rfl
def fnB (n : Nat) (M : Nat → Bool) : List Bool := (List.range n).map M
theorem fnB_len (n : Nat) (M : Nat → Bool) : (fnB n M).length = n := by simp [fnB]
theorem fnB_get {n : Nat} (M : Nat → Bool) {k : Nat} (h : k < n) : (fnB n M)[k]? = some (M k) := by simp [fnB, h]
theorem madeB (n : Nat) : (madeCells (Value.bool false).cells (n * 1)).toList = fl EBo (fnB n fun _ => false) := by
  rw [Nat.mul_one, fl_Bo]
  refine (toList_madeCells_one _ n).trans ?_
  refine List.ext_getElem? fun j => ?_
  by_cases hj : j < n
  · simp [fnB, hj]
  · simp [fnB, hj]
def updB (M : Nat → Bool) (k : Nat) : Nat → Bool := fun j => if j = k then true else M j
theorem updB_mono {M : Nat → Bool} {p k : Nat} (h : M k = true) : updB M p k = true := by
  unfold updB
  split
  · rfl
  · exact h
theorem fnB_set (n : Nat) (M : Nat → Bool) (k : Nat) : (fnB n M).set k true = fnB n (updB M k) := by
  refine List.ext_getElem? fun j => ?_
  rw [List.getElem?_set]
  by_cases hj : j < n
  · by_cases e : k = j
    · subst e
      rw [if_pos rfl, if_pos (by rw [fnB_len]; exact hj), fnB_get _ hj]
      simp [updB]
    · rw [if_neg e, fnB_get _ hj, fnB_get _ hj]
      have : ¬ j = k := fun h => e h.symm
      simp [updB, this]
  · have h2 : (fnB n (updB M k))[j]? = none := List.getElem?_eq_none (by rw [fnB_len]; omega)
    rw [h2]
    split
    · rw [if_neg (by rw [fnB_len]; omega)]
    · exact List.getElem?_eq_none (by rw [fnB_len]; omega)
/-- How many places are not met. -/
def um (n : Nat) (M : Nat → Bool) : Nat := ((List.range n).filter fun k => !M k).length
theorem um_lt {n : Nat} {M M' : Nat → Bool} {p : Nat} (hp : p < n) (h1 : M p = false) (h2 : M' p = true) (h : ∀ k, M k = true → M' k = true) : um n M' < um n M := by
  unfold um
  have hm : p ∈ (List.range n).filter fun k => !M k := List.mem_filter.2 ⟨List.mem_range.2 hp, by simp [h1]⟩
  have h3 := sub_le ((List.range n).filter fun k => !M' k) (((List.range n).filter fun k => !M k).erase p) (List.nodup_range.filter _) (fun x hx => by
    obtain ⟨hx1, hx2⟩ := List.mem_filter.1 hx
    have hne : x ≠ p := fun e => by subst e; simp [h2] at hx2
    refine (List.mem_erase_of_ne hne).2 (List.mem_filter.2 ⟨hx1, ?_⟩)
    cases e : M x with
    | false => rfl
    | true => rw [h x e] at hx2; cases hx2)
  have h4 := List.length_erase_of_mem hm
  have h5 := List.length_pos_of_mem hm
  omega
/-- All that was met and is done leads to what was met, and not to the first. -/
def Ns (ls : List (List Int)) (q : Nat) (S : Nat → Prop) (M : Nat → Bool) : Prop := ∀ p, M p = true → ¬ S p → ∀ r, Sp ls p r → M r = true ∧ r ≠ q
/-- The four boxes of the closure. -/
structure Bx (w : World) (mb fb sb db g n q : Nat) (v : Value) (W : World) : Prop where
  bl : Below w.heap.size w W
  m : W.heap[mb]? = some (.cells #[.slice (some ⟨g, 0, none⟩) n n] 40 (0, 0))
  f : W.heap[fb]? = some (.cells #[.int .i64 (q : Nat)] 3 (0, 0))
  s : W.heap[sb]? = some (.cells #[v] 67 (0, 0))
  d : W.heap[db]? = some (.cells #[.func (.func 57) #[] #[.pointer (some ⟨mb, 0, none⟩), .pointer (some ⟨fb, 0, none⟩), .pointer (some ⟨sb, 0, none⟩), .pointer (some ⟨db, 0, none⟩)]] 99 (0, 0))
/-- .. and the places that were met. -/
structure Cs (w : World) (mb fb sb db g n q : Nat) (v : Value) (M : Nat → Bool) (W : World) : Prop where
  bx : Bx w mb fb sb db g n q v W
  row : W.ownsRow w.heap.size 4 1 (.slice (some ⟨g, 0, none⟩) n n) n (fl EBo (fnB n M))
section
variable {w W W' : World} {mb fb sb db g n q : Nat} {v : Value} {M : Nat → Bool}
theorem Bx.kp {S : Nat → Prop} (h : Bx w mb fb sb db g n q v W) (hk : Kp S W W') (hS : ∀ j, S j → w.heap.size ≤ j) (h1 : ¬ S mb) (h2 : ¬ S fb) (h3 : ¬ S sb) (h4 : ¬ S db) : Bx w mb fb sb db g n q v W' :=
  ⟨h.bl.trans (hk.below h.bl.size hS), (hk.block _ (tk_lt h.m) h1).trans h.m, (hk.block _ (tk_lt h.f) h2).trans h.f, (hk.block _ (tk_lt h.s) h3).trans h.s, (hk.block _ (tk_lt h.d) h4).trans h.d⟩
theorem Cs.below (h : Cs w mb fb sb db g n q v M W) (hb : Below W.heap.size W W') : Cs w mb fb sb db g n q v M W' :=
  ⟨h.bx.kp (S := fun _ => False) (Kp.of_below hb) (fun _ h => h.elim) id id id id, owns_below h.row hb⟩
theorem Cs.cell (h : Cs w mb fb sb db g n q v M W) {k : Nat} (hk : k < n) : W.cell? ⟨g, k, none⟩ = some (.bool (M k)) ∧ g < W.heap.size := by
  have hr : W.ownsRow w.heap.size 4 1 (.slice (some ⟨g, 0, none⟩) n n) (fnB n M).length (fl EBo (fnB n M)) := owns_re h.row (fnB_len n M).symm rfl
  obtain ⟨b, o, c, hv, hb, hx⟩ := (owns_ls (E := EBo) hr).get (fnB_get M hk)
  simp only [Value.slice.injEq, Option.some.injEq, Addr.mk.injEq] at hv
  obtain ⟨⟨rfl, rfl, -⟩, -, -⟩ := hv
  have h0 := hx 0 _ (by decide) rfl
  simp only [Nat.zero_add, show EBo.k = 1 from rfl, Nat.mul_one, Nat.add_zero] at h0
  exact ⟨h0, hb⟩
theorem Cs.set (h : Cs w mb fb sb db g n q v M W) (k : Nat) : Cs w mb fb sb db g n q v (updB M k) (W.setCell ⟨g, k, none⟩ (.bool true)) := by
  obtain ⟨h1, h2⟩ := owns_one h.row k (.bool true)
  rw [fl_Bo, ← List.map_set, fnB_set, ← fl_Bo] at h1
  have hg : ∀ {b : Nat} {cs : Array Value} {T : TypeId}, W.heap[b]? = some (.cells cs T (0, 0)) → 4 ≠ T → ¬ b = g := fun hb hT e => owns_ne_blk h.row hb hT g rfl e.symm
  exact ⟨h.bx.kp h2 (fun j e => by rw [e]; exact (owns_rd h.row g rfl).1) (hg h.bx.m (by decide)) (hg h.bx.f (by decide)) (hg h.bx.s (by decide)) (hg h.bx.d (by decide)), h1⟩
end
/-- What the closure answers. -/
def Dn (w : World) (mb fb sb db g n q : Nat) (v : Value) (ls : List (List Int)) (M : Nat → Bool) (p : Nat) (r : Ending) (W' : World) : Prop := ∃ b, r = .returned (.bool b) ∧ Hid (∃ M', Cs w mb fb sb db g n q v M' W' ∧ (∀ k, M k = true → M' k = true) ∧ (b = false → M' p = true ∧ (M q = true → p ≠ q) ∧ ∀ S, Ns ls q S M → Ns ls q S M'))
set_option maxHeartbeats 2000000 in
theorem cb_met {w W : World} {mb fb sb db g n q p : Nat} {v : Value} {ls : List (List Int)} {M : Nat → Bool} (h : Cs w mb fb sb db g n q v M W) (hp : p < n) (hm : M p = true) : Calls Tryz.prog 57 #[.int .i64 (p : Nat), .pointer (some ⟨mb, 0, none⟩), .pointer (some ⟨fb, 0, none⟩), .pointer (some ⟨sb, 0, none⟩), .pointer (some ⟨db, 0, none⟩)] W (Dn w mb fb sb db g n q v ls M p) := by
  have H := hid h
  have hc := (h.cell hp).1
  have hg := (h.cell hp).2
  rw [hm] at hc
  have cm := (tk_store h.bx.m).1
  have lm := tk_lt h.bx.m
  have cf := (tk_store h.bx.f).1
  have lf := tk_lt h.bx.f
  have hp0 : (0 : Int) ≤ (p : Int) := by omega
  have hpz : (p : Int) < (n : Int) := by omega
  clear h
  by_cases e : p = q
  · subst e
    go_enter Tryz.func57, Tryz.ntmps57
    go_wp2_with fail
    go_ret
    exact ⟨true, by first | rfl | simp, M, H.out, fun _ h => h, fun e => by cases e⟩
  · have ez : ¬ ((p : Nat) : Int) = ((q : Nat) : Int) := by omega
    go_enter Tryz.func57, Tryz.ntmps57
    go_wp2_with fail
    go_ret
    exact ⟨false, by first | rfl | simp [ez], M, H.out, fun _ h => h, fun _ => ⟨hm, fun _ => e, fun _ h => h⟩⟩
set_option maxRecDepth 100000 in
set_option maxHeartbeats 4000000 in
theorem cb_down {w : World} {mb fb sb db g n q : Nat} {v : Value} {ls : List (List Int)} {M0 : Nat} (hF : Ff M0 w v ls) (hnl : n = ls.length) (hx : ∀ l ∈ ls, l.length ≤ 1000 ∧ ∀ x ∈ l, 0 ≤ x ∧ x < (n : Int)) : ∀ (N : Nat) (W : World) (M : Nat → Bool) (p : Nat), um n M ≤ N → Cs w mb fb sb db g n q v M W → p < n → (M q = true ∨ p = q) → Calls Tryz.prog 57 #[.int .i64 (p : Nat), .pointer (some ⟨mb, 0, none⟩), .pointer (some ⟨fb, 0, none⟩), .pointer (some ⟨sb, 0, none⟩), .pointer (some ⟨db, 0, none⟩)] W (Dn w mb fb sb db g n q v ls M p) := by
  have hmx : Tryz.prog.follows .mixedOrders = true := by kernel_rfl
  intro N
  induction N with
  | zero =>
    intro W M p hu h hp hq
    cases hm : M p with
    | true => exact cb_met h hp hm
    | false =>
      have := um_lt (M' := updB M p) hp hm (by simp [updB]) (fun k hk => updB_mono hk)
      omega
  | succ N ih =>
    intro W M p hu h hp hq
    cases hm : M p with
    | true => exact cb_met h hp hm
    | false =>
      have hu1 := um_lt (M' := updB M p) hp hm (by simp [updB]) (fun k hk => updB_mono hk)
      obtain ⟨M1, hM1⟩ : ∃ M1, M1 = updB M p := ⟨_, rfl⟩
      rw [← hM1] at hu1
      have hM1p : M1 p = true := by rw [hM1]; simp [updB]
      have hM1k : ∀ k, M k = true → M1 k = true := fun k hk => by rw [hM1]; exact updB_mono hk
      have hM1r : ∀ k, M1 k = true → k = p ∨ M k = true := fun k hk => by
        rw [hM1] at hk
        unfold updB at hk
        by_cases e : k = p
        · exact Or.inl e
        · rw [if_neg e] at hk
          exact Or.inr hk
      have hM1q : M1 q = true := by
        rcases hq with h | h
        · exact hM1k q h
        · rw [← h]; exact hM1p
      obtain ⟨l, hl⟩ : ∃ l, ls[p]? = some l := ⟨ls[p]'(by omega), by simp⟩
      obtain ⟨hll, hlx⟩ := hx l (List.mem_of_getElem? hl)
      have hset := h.set p
      rw [← hM1] at hset
      obtain ⟨W1, hW1⟩ : ∃ W1, W1 = W.setCell ⟨g, p, none⟩ (.bool true) := ⟨_, rfl⟩
      rw [← hW1] at hset
      have HW1 : Hid (W.setCell ⟨g, p, none⟩ (.bool true) = W1) := hW1.symm
      obtain ⟨b, off, c1, q1, c2, e1, z0, x0, hz⟩ := hF.at hl
      have HSP : Hid (∀ r : Nat, Sp ls p r → ((r : Nat) : Int) ∈ l) := fun r hr => by
        obtain ⟨l2, h2, h3⟩ := hr
        rw [hl] at h2
        obtain rfl := Option.some.inj h2
        exact h3
      -- what stands while the next ones are asked
      have HI0 : Hid (∃ Mj, Cs w mb fb sb db g n q v Mj W1 ∧ (∀ k, M1 k = true → Mj k = true) ∧ (∀ S, Ns ls q S M1 → Ns ls q S Mj) ∧ ∀ j x, j < 0 → l[j]? = some x → Mj x.toNat = true ∧ x ≠ (q : Int)) := ⟨M1, hset, fun _ h => h, fun _ h => h, fun j x hj => absurd hj (Nat.not_lt_zero _)⟩
      have HCALL : Hid (∀ W2, Below W1.heap.size W1 W2 → Calls Tryz.prog 58 #[.slice q1 l.length c2, .func (.func 57) #[] #[.pointer (some ⟨mb, 0, none⟩), .pointer (some ⟨fb, 0, none⟩), .pointer (some ⟨sb, 0, none⟩), .pointer (some ⟨db, 0, none⟩)]] W2 fun r W' => ∃ b, r = .returned (.bool b) ∧ Hid ((b = true → ∃ Mj, Cs w mb fb sb db g n q v Mj W' ∧ (∀ k, M1 k = true → Mj k = true)) ∧ (b = false → ∃ Mj, Cs w mb fb sb db g n q v Mj W' ∧ (∀ k, M1 k = true → Mj k = true) ∧ (∀ S, Ns ls q S M1 → Ns ls q S Mj) ∧ ∀ j x, j < l.length → l[j]? = some x → Mj x.toNat = true ∧ x ≠ (q : Int)))) := fun W2 hb2 => by
        refine containsFuncI_inv (v := .slice q1 l.length c2) (l := l) 57 #[.pointer (some ⟨mb, 0, none⟩), .pointer (some ⟨fb, 0, none⟩), .pointer (some ⟨sb, 0, none⟩), .pointer (some ⟨db, 0, none⟩)] (fun i W' => ∃ Mj, Cs w mb fb sb db g n q v Mj W' ∧ (∀ k, M1 k = true → Mj k = true) ∧ (∀ S, Ns ls q S M1 → Ns ls q S Mj) ∧ ∀ j x, j < i → l[j]? = some x → Mj x.toNat = true ∧ x ≠ (q : Int)) (fun W' => ∃ Mj, Cs w mb fb sb db g n q v Mj W' ∧ (∀ k, M1 k = true → Mj k = true)) W2 (by omega) (enters_of Tryz.func57 (by kernel_rfl) rfl) (fun i W' hI => ?_) (fun i x W' hix hI => ?_) ?_
        · obtain ⟨Mj, hC, _⟩ := hI
          exact ⟨_, hz.below hC.bx.bl⟩
        · obtain ⟨Mj, hC, hj1, hj2, hj3⟩ := hI
          have hxb := hlx x (List.mem_of_getElem? hix)
          obtain ⟨e, rfl⟩ : ∃ e : Nat, x = (e : Int) := ⟨x.toNat, by omega⟩
          have hle : um n Mj ≤ N := by
            by_cases hpp : um n Mj ≤ um n M1
            · omega
            · have := um_lt (M := M) (M' := Mj) hp hm (hj1 p hM1p) (fun k hk => hj1 k (hM1k k hk))
              omega
          refine (ih W' Mj e hle hC (by omega) (Or.inl (hj1 q hM1q))).mono ?_
          rintro r W3 ⟨b, rfl, HB⟩
          obtain ⟨Mk, g1, g2, g3⟩ := HB.out
          refine ⟨b, rfl, fun _ => ⟨Mk, g1, fun k hk => g2 k (hj1 k hk)⟩, fun eb => ?_⟩
          obtain ⟨g4, g5, g6⟩ := g3 eb
          refine ⟨Mk, g1, fun k hk => g2 k (hj1 k hk), fun S hS => g6 S (hj2 S hS), fun j y hj hy => ?_⟩
          by_cases ej : j = i
          · subst ej
            rw [hix] at hy
            obtain rfl := Option.some.inj hy
            exact ⟨by simpa using g4, fun e2 => g5 (hj1 q hM1q) (by omega)⟩
          · have := hj3 j y (by omega) hy
            exact ⟨g2 _ this.1, this.2⟩
        · obtain ⟨Mj, hC, h1⟩ := HI0.out
          exact ⟨Mj, hC.below hb2, h1⟩
      have HEND : Hid (∀ W' Mj, Cs w mb fb sb db g n q v Mj W' → (∀ k, M1 k = true → Mj k = true) → (∀ S, Ns ls q S M1 → Ns ls q S Mj) → (∀ j x, j < l.length → l[j]? = some x → Mj x.toNat = true ∧ x ≠ (q : Int)) → Dn w mb fb sb db g n q v ls M p (.returned (.bool false)) W') := fun W' Mj hC h1 h2 h3 => by
        refine ⟨false, rfl, Mj, hC, fun k hk => h1 k (hM1k k hk), fun _ => ⟨h1 p hM1p, fun e e2 => ?_, fun S hS => ?_⟩⟩
        · rw [e2, e] at hm
          cases hm
        · have hN := h2 (fun r => S r ∨ r = p) (fun r hr hns t ht => by
            rcases hM1r r hr with e | e
            · exact absurd (Or.inr e) hns
            · have := hS r e (fun e2 => hns (Or.inl e2)) t ht
              exact ⟨hM1k t this.1, this.2⟩)
          intro r hr hns t ht
          by_cases e : r = p
          · subst e
            obtain ⟨j, hj⟩ := List.mem_iff_getElem?.1 (HSP.out t ht)
            have := h3 j _ (List.getElem?_eq_some_iff.1 hj).1 hj
            exact ⟨by simpa using this.1, fun e => this.2 (by omega)⟩
          · exact hN r hr (fun e2 => e2.elim hns e) t ht
      have HHIT : Hid (∀ W' Mj, Cs w mb fb sb db g n q v Mj W' → (∀ k, M1 k = true → Mj k = true) → Dn w mb fb sb db g n q v ls M p (.returned (.bool true)) W') := fun W' Mj hC h1 => ⟨true, rfl, Mj, hC, fun k hk => h1 k (hM1k k hk), fun e => by cases e⟩
      have HB1 := hid hset.bx
      have HST : Hid (w.cell? ⟨b, off + p, none⟩ = some (.slice q1 l.length c2) ∧ b < w.heap.size) := ⟨x0, z0⟩
      have hc := (h.cell hp).1
      have hg := (h.cell hp).2
      rw [hm] at hc
      have fr := h.row.frozenAt
      have cm := (tk_store h.bx.m).1
      have lm := tk_lt h.bx.m
      have hp0 : (0 : Int) ≤ (p : Int) := by omega
      have hpz : (p : Int) < (n : Int) := by omega
      rw [← hnl] at e1
      subst e1
      clear hnl
      clear h hset hW1 hl hlx hll hz x0 z0 hu hu1 hM1 hM1p hM1k hM1r hM1q hq HI0 ih hx hF hm HSP
      go_enter Tryz.func57, Tryz.ntmps57
      go_upto_region 4 with fail
      rw [HW1.out]
      clear hc hg fr cm lm HW1
      have hB0 : Below W1.heap.size W1 W1.drew := (Gr.refl W1).drew.below
      have hS0 : Bx w mb fb sb db g n q (.slice (some ⟨b, off, none⟩) n c1) W1.drew := HB1.out.kp (S := fun _ => False) (Kp.of_below hB0) (fun _ h => h.elim) id id id id
      refine wp_regionD (S := Bx w mb fb sb db g n q (.slice (some ⟨b, off, none⟩) n c1)) (D := []) hmx ?_
      refine' wpAnyD_take (i := 0) (oi := { dst := some 17, op := Go.Op.load 67 (Go.Operand.tmp 3), type := 67, pos := "cycle.go:82", after := #[], guard := none }) (v := _) rfl (by kernel_rfl) (by kernel_rfl) (by kernel_rfl) (fun _ _ _ h => h) (by kernel_rfl) (Or.inl ⟨by rfl, ?hy1⟩) hS0 ?rest1
      case hy1 => (intro W hSw; have hc := (tk_store hSw.s).1; have hl := tk_lt hSw.s; go_simp; try (with_reducible rfl))
      try simp only [Act.put, List.setIfInBounds_toArray, List.set_cons_zero, List.set_cons_succ]
      refine' wpAnyD_take (i := 1) (oi := { dst := some 18, op := Go.Op.move (Go.Operand.tmp 0), type := 3, pos := "cycle.go:82", after := #[], guard := none }) (v := _) rfl (by kernel_rfl) (by kernel_rfl) (by kernel_rfl) (fun _ _ _ h => h) (by kernel_rfl) (Or.inl ⟨by rfl, ?hy2⟩) hS0 ?rest2
      case hy2 => (intro W hSw; go_simp; try (with_reducible rfl))
      try simp only [Act.put, List.setIfInBounds_toArray, List.set_cons_zero, List.set_cons_succ]
      refine' wpAnyD_take (i := 2) (oi := { dst := some 19, op := Go.Op.indexAddr 67 (Go.Operand.tmp 17) (Go.Operand.tmp 18), type := 0, pos := "cycle.go:82", after := #[{ on := 0, ground := Go.Ground.data }, { on := 1, ground := Go.Ground.data }], guard := none }) (v := _) rfl (by kernel_rfl) (by kernel_rfl) (by kernel_rfl) (fun _ _ _ h => h) (by kernel_rfl) (Or.inl ⟨by rfl, ?hy3⟩) hS0 ?rest3
      case hy3 => (intro W hSw; go_simp; try (with_reducible rfl))
      try simp only [Act.put, List.setIfInBounds_toArray, List.set_cons_zero, List.set_cons_succ]
      refine' wpAnyD_take (i := 3) (oi := { dst := some 20, op := Go.Op.load 33 (Go.Operand.tmp 19), type := 33, pos := "cycle.go:82", after := #[{ on := 2, ground := Go.Ground.data }], guard := none }) (v := _) rfl (by kernel_rfl) (by kernel_rfl) (by kernel_rfl) (fun _ _ _ h => h) (by kernel_rfl) (Or.inl ⟨by rfl, ?hy4⟩) hS0 ?rest4
      case hy4 => (intro W hSw; have hc := (hSw.bl.cell (p := ⟨b, off + p, none⟩) HST.out.2).trans HST.out.1; have hl := Nat.lt_of_lt_of_le HST.out.2 hSw.bl.size; go_simp; try (with_reducible rfl))
      try simp only [Act.put, List.setIfInBounds_toArray, List.set_cons_zero, List.set_cons_succ]
      refine' wpAnyD_take (i := 4) (oi := { dst := some 21, op := Go.Op.load 99 (Go.Operand.tmp 4), type := 99, pos := "cycle.go:82", after := #[], guard := none }) (v := _) rfl (by kernel_rfl) (by kernel_rfl) (by kernel_rfl) (fun _ _ _ h => h) (by kernel_rfl) (Or.inl ⟨by rfl, ?hy5⟩) hS0 ?rest5
      case hy5 => (intro W hSw; have hc := (tk_store hSw.d).1; have hl := tk_lt hSw.d; go_simp; try (with_reducible rfl))
      try simp only [Act.put, List.setIfInBounds_toArray, List.set_cons_zero, List.set_cons_succ]
      refine wpAnyD_one (i := 5) (o := { dst := some 22, op := Go.Op.call { callee := Go.Callee.value (Go.Operand.func 58), args := #[Go.Operand.tmp 20, Go.Operand.tmp 21], argTypes := #[33, 99] }, type := 4, pos := "cycle.go:82", after := #[{ on := 3, ground := Go.Ground.data }, { on := 4, ground := Go.Ground.data }], guard := none }) (by kernel_rfl) rfl (fun K hK => ?_)
      go_simp
      refine (HCALL.out _ hB0).mono ?_
      rintro r w7 ⟨bb, rfl, HB⟩
      have hS7 : Bx w mb fb sb db g n q (.slice (some ⟨b, off, none⟩) n c1) w7 := by
        cases bb with
        | true =>
          obtain ⟨Mj, hC, _⟩ := HB.out.1 rfl
          exact hC.bx
        | false =>
          obtain ⟨Mj, hC, _⟩ := HB.out.2 rfl
          exact hC.bx
      go_wp2_with fail
      refine hK.out _ _ (fun hD => hS7) ?_
      clear hK K
      try simp only [Act.put, List.setIfInBounds_toArray, List.set_cons_zero, List.set_cons_succ]
      refine' wpAnyD_take (i := 6) (oi := { dst := some 6, op := Go.Op.assign (Go.Operand.tmp 22), type := 4, pos := "cycle.go:82", after := #[{ on := 5, ground := Go.Ground.data }, { on := 5, ground := Go.Ground.chain }, { on := 0, ground := Go.Ground.phase }, { on := 1, ground := Go.Ground.phase }, { on := 2, ground := Go.Ground.phase }, { on := 3, ground := Go.Ground.phase }, { on := 4, ground := Go.Ground.phase }, { on := 5, ground := Go.Ground.phase }], guard := none }) (v := _) rfl (by kernel_rfl) (by kernel_rfl) (by kernel_rfl) (fun _ _ _ h => h) (by kernel_rfl) (Or.inl ⟨by rfl, ?hy7⟩) hS7 ?rest7
      case hy7 => (intro W hSw; go_simp; try (with_reducible rfl))
      try simp only [Act.put, List.setIfInBounds_toArray, List.set_cons_zero, List.set_cons_succ]
      refine wpAnyD_done (by kernel_rfl) ?_ _
      clear hS0 hS7 hB0
      go_wp2_with fail
      go_ret
      cases bb with
      | true =>
        obtain ⟨Mj, hC, h1⟩ := HB.out.1 rfl
        exact HHIT.out w7 Mj hC h1
      | false =>
        obtain ⟨Mj, hC, h1, h2, h3⟩ := HB.out.2 rfl
        exact HEND.out w7 Mj hC h1 h2 h3
theorem new1' (w : World) (o1 o2 : Obj) : ((w.alloc o1).alloc o2).heap[w.heap.size]? = some o1 := new1 w o1 o2
theorem new2' (w : World) (o1 o2 : Obj) : ((w.alloc o1).alloc o2).heap[w.heap.size + 1]? = some o2 := new2 w o1 o2
theorem ns_none {ls : List (List Int)} {q : Nat} {M : Nat → Bool} (h : Ns ls q (fun _ => False) M) (hq : M q = true) (m : Nat) : ¬ Ry ls q m q := by
  have hw : ∀ (l : List Nat), Wp ls l q → ∀ p, l.head? = some p → M p = true → False := by
    intro l
    induction l with
    | nil => intro _ p e; cases e
    | cons v l ih =>
      intro hw p e hp
      simp at e
      subst e
      obtain ⟨u, hu, h2⟩ := hw.next
      have h3 := h v hp id u hu
      rcases h2 with ⟨_, e⟩ | ⟨e, h4⟩
      · exact h3.2 e
      · exact ih h4 u e h3.1
  rintro ⟨l, h1, h2, _⟩
  exact hw l h2 q h1 hq
set_option maxHeartbeats 4000000 in
/-- What is false comes back nowhere. -/
theorem comesBack_any {M0 : Nat} {v : Value} {ls : List (List Int)} (q : Nat) (w : World) (hF : Ff M0 w v ls) (hq : q < ls.length) (hn : ls.length ≤ 1000) (hx : ∀ l ∈ ls, l.length ≤ 1000 ∧ ∀ x ∈ l, 0 ≤ x ∧ x < (ls.length : Int)) : Calls Tryz.prog 30 #[v, .int .i64 (q : Nat)] w fun r w' => ∃ b, r = .returned (.bool b) ∧ Hid (Below w.heap.size w w' ∧ (b = false → ∀ m, ¬ Ry ls q m q)) := by
  obtain ⟨p, c, hv⟩ := hF.form
  obtain ⟨i0, hi0, hz0, hz1, hz2⟩ := info_parts (show (Tryz.prog.info? 4).map (fun i => (i.zero, i.size, i.bytes)) = some (some (.bool false), 1, 1) by kernel_rfl)
  obtain ⟨n, hnn⟩ : ∃ n, n = ls.length := ⟨_, rfl⟩
  rw [← hnn] at hq hn hx hv
  subst hv
  obtain ⟨W1, hW1⟩ : ∃ W1, W1 = (w.alloc (.cells #[.slice p n c] 67)).alloc (.cells #[.int .i64 (q : Nat)] 3) := ⟨_, rfl⟩
  have HW1 : Hid (W1 = (w.alloc (.cells #[.slice p n c] 67)).alloc (.cells #[.int .i64 (q : Nat)] 3)) := hW1
  have HF := hid hF
  have HN := hid hnn
  have HX := hid hx
  clear hF hnn hx hW1
  go_enter Tryz.func30, Tryz.ntmps30
  go_upto_region 1 with fail
  rw [← HW1.out]
  obtain ⟨sb, hsb⟩ : ∃ b, b = w.heap.size := ⟨_, rfl⟩
  have N1 : Hid (W1.heap[sb]? = some (.cells #[.slice p n c] 67 (0, 0)) ∧ W1.heap[sb + 1]? = some (.cells #[.int .i64 (q : Nat)] 3 (0, 0)) ∧ W1.heap.size = sb + 2 ∧ Below w.heap.size w W1) := by
    rw [HW1.out, hsb]
    exact ⟨new1' w _ _, new2' w _ _, by simp, (((Gr.refl w).alloc _).alloc _).below⟩
  rw [← hsb]
  have c1 := (tk_store N1.out.1).1
  have l1 := tk_lt N1.out.1
  have HSB := hid hsb
  clear hsb HW1
  go_upto_region 2 with (at_make; refine wpList_make_full _ rfl _ _ 40 rfl W1.heap.size 4 i0 (.bool false) 1 Tryz.underlying40 hi0 hz0 hz1 _ _ _ _ n rfl rfl rfl rfl (by rw [hz2]; omega) (by unfold maxLen; omega) (Nat.le_refl _) ?_; intro w2 hrow hg1)
  obtain ⟨g, hg⟩ : ∃ g, g = W1.heap.size := ⟨_, rfl⟩
  obtain ⟨mb, hmb⟩ : ∃ b, b = w2.heap.size := ⟨_, rfl⟩
  rw [← hg, ← hmb]
  obtain ⟨W3, hW3⟩ : ∃ W, W = w2.alloc (.cells #[.slice (some ⟨g, 0, none⟩) n n] 40) := ⟨_, rfl⟩
  rw [← hW3]
  have hb2 : Below W1.heap.size W1 w2 := (Kp.grownBy (S := fun _ => False) hg1 (fun _ h => by cases h)).below (Nat.le_refl _) (fun _ h => h.elim)
  have hb3 : Below w2.heap.size w2 W3 := by rw [hW3]; exact ((Gr.refl w2).alloc _).below
  have N3 : Hid (W3.heap[sb]? = some (.cells #[.slice p n c] 67 (0, 0)) ∧ W3.heap[sb + 1]? = some (.cells #[.int .i64 (q : Nat)] 3 (0, 0)) ∧ W3.heap[mb]? = some (.cells #[.slice (some ⟨g, 0, none⟩) n n] 40 (0, 0)) ∧ Below w.heap.size w W3 ∧ W3.ownsRow w.heap.size 4 1 (.slice (some ⟨g, 0, none⟩) n n) n (fl EBo (fnB n fun _ => false))) := by
    have hb := hb2.trans (hb3.mono hb2.size)
    refine ⟨(hb.block _ (tk_lt N1.out.1)).trans N1.out.1, (hb.block _ (tk_lt N1.out.2.1)).trans N1.out.2.1, by rw [hW3, hmb]; exact heap_new' _ _, N1.out.2.2.2.trans (hb.mono N1.out.2.2.2.size), ?_⟩
    have hr := owns_below (owns_base hrow N1.out.2.2.2.size) hb3
    rw [hg]
    refine owns_re hr rfl ?_
    rw [madeB]
  clear hrow hg1 hg hmb hW3 hb2 hb3 c1 l1 N1 hi0 hz0 hz1 hz2
  go_upto_region 4 with fail
  obtain ⟨db, hdb⟩ : ∃ b, b = W3.heap.size := ⟨_, rfl⟩
  rw [← hdb]
  obtain ⟨W5, hW5⟩ : ∃ W, W = W3.alloc (.cells #[.func (.func 57) #[] #[.pointer (some ⟨mb, 0, none⟩), .pointer (some ⟨sb + 1, 0, none⟩), .pointer (some ⟨sb, 0, none⟩), .pointer (some ⟨db, 0, none⟩)]] 99) := ⟨_, rfl⟩
  rw [← hW5]
  have hb5 : Below W3.heap.size W3 W5 := by rw [hW5]; exact ((Gr.refl W3).alloc _).below
  have C5 : Cs w mb (sb + 1) sb db g n q (.slice p n c) (fun _ => false) W5 := ⟨⟨N3.out.2.2.2.1.trans (hb5.mono N3.out.2.2.2.1.size), (hb5.block _ (tk_lt N3.out.2.2.1)).trans N3.out.2.2.1, (hb5.block _ (tk_lt N3.out.2.1)).trans N3.out.2.1, (hb5.block _ (tk_lt N3.out.1)).trans N3.out.1, by rw [hW5, hdb]; exact heap_new' _ _⟩, owns_below N3.out.2.2.2.2 hb5⟩
  have hcall := cb_down HF.out HN.out HX.out (um n fun _ => false) W5 (fun _ => false) q (Nat.le_refl _) C5 hq (Or.inr rfl)
  have c6 := (tk_store C5.bx.d).1
  have l6 := tk_lt C5.bx.d
  have c7 := (tk_store C5.bx.f).1
  have l7 := tk_lt C5.bx.f
  clear hb5 hW5 hdb N3 C5
  go_wp2_with fail
  refine hcall.mono ?_
  clear hcall
  rintro r w7 ⟨b, rfl, HB⟩
  go_wp2_with fail
  go_ret
  refine ⟨b, rfl, ?_⟩
  obtain ⟨M', h1, _, h3⟩ := HB.out
  refine ⟨h1.bx.bl, fun e => ?_⟩
  obtain ⟨h4, _, h6⟩ := h3 e
  exact ns_none (h6 (fun _ => False) (fun p hp => by cases hp)) h4
end Go.Proofs.YtpgodnaebkmhhaaGreat.Df

namespace Go.Proofs.YtpgodnaebkmhhaaGreat.Df
open Go.RowKit Go.Sort
attribute [local go_sem ↓] Go.wp_at_zero Go.wp_at_succ

/-- The boxes of Find's closure, what is in vain, and the way so far. -/
structure Fs (w : World) (ib wb sb fb db g n q : Nat) (v : Value) (f : Nat → Int) (way : List Nat) (wv : Value) (W : World) : Prop where
  bl : Below w.heap.size w W
  i : W.heap[ib]? = some (.cells #[.slice (some ⟨g, 0, none⟩) n n] 33 (0, 0))
  y : W.heap[wb]? = some (.cells #[wv] 33 (0, 0))
  s : W.heap[sb]? = some (.cells #[v] 67 (0, 0))
  f0 : W.heap[fb]? = some (.cells #[.int .i64 (q : Nat)] 3 (0, 0))
  d : W.heap[db]? = some (.cells #[.func (.func 31) #[] #[.pointer (some ⟨ib, 0, none⟩), .pointer (some ⟨wb, 0, none⟩), .pointer (some ⟨sb, 0, none⟩), .pointer (some ⟨fb, 0, none⟩), .pointer (some ⟨db, 0, none⟩)]] 70 (0, 0))
  ri : W.ownsRow w.heap.size 3 1 (.slice (some ⟨g, 0, none⟩) n n) n (fl EI (fnL n f))
  ry : W.ownsRow w.heap.size 3 1 wv way.length (fl EI (ints way))
  a1 : ∀ k, wv.ownBlock = some k → k ≠ g ∧ k ≠ fb
  a2 : fb ≠ g
  a3 : ib ≠ wb
  lo : w.heap.size ≤ wb
  nn : ∀ k, 0 ≤ f k
section
variable {w W W' : World} {ib wb sb fb db g n q : Nat} {v wv : Value} {f : Nat → Int} {way : List Nat}
theorem ne_ty {b b' : Nat} {cs cs' : Array Value} {T T' : TypeId} {z z' : Nat × Nat} (h : W.heap[b]? = some (.cells cs T z)) (h' : W.heap[b']? = some (.cells cs' T' z')) (hT : T ≠ T') : b ≠ b' := fun e => by
  rw [e, h'] at h
  simp only [Option.some.injEq, Obj.cells.injEq] at h
  exact hT h.2.1.symm
theorem Fs.below (h : Fs w ib wb sb fb db g n q v f way wv W) (hb : Below W.heap.size W W') : Fs w ib wb sb fb db g n q v f way wv W' :=
  ⟨h.bl.trans (hb.mono h.bl.size), (hb.block _ (tk_lt h.i)).trans h.i, (hb.block _ (tk_lt h.y)).trans h.y, (hb.block _ (tk_lt h.s)).trans h.s, (hb.block _ (tk_lt h.f0)).trans h.f0, (hb.block _ (tk_lt h.d)).trans h.d, owns_below h.ri hb, owns_below h.ry hb, h.a1, h.a2, h.a3, h.lo, h.nn⟩
/-- Another way is put into its box: what else has changed are blocks of its own. -/
theorem Fs.wput {S : Nat → Prop} {way' : List Nat} {wv' : Value} {W1 : World} (h : Fs w ib wb sb fb db g n q v f way wv W) (hk : Kp S W W1) (hS : ∀ k, S k → wv.ownBlock = some k) (hr : W1.ownsRow w.heap.size 3 1 wv' way'.length (fl EI (ints way'))) (ha : ∀ k, wv'.ownBlock = some k → k ≠ g ∧ k ≠ fb) : Fs w ib wb sb fb db g n q v f way' wv' (W1.setCell ⟨wb, 0, none⟩ wv') ∧ W1.frozen? ⟨wb, 0, none⟩ = false ∧ (∃ u, W1.cell? ⟨wb, 0, none⟩ = some u) ∧ wb < W1.heap.size := by
  have hni : ∀ {b : Nat} {cs : Array Value} {T : TypeId}, W.heap[b]? = some (.cells cs T (0, 0)) → 3 ≠ T → ¬ S b := fun hb hT e => owns_ne_blk h.ry hb hT _ (hS _ e) rfl
  have hf : ¬ S fb := fun e => (h.a1 fb (hS _ e)).2 rfl
  have hg : ¬ S g := fun e => (h.a1 g (hS _ e)).1 rfl
  have hlo : ∀ k, S k → w.heap.size ≤ k := fun k e => (owns_rd h.ry k (hS k e)).1
  have y1 := (hk.block _ (tk_lt h.y) (hni h.y (by decide))).trans h.y
  obtain ⟨y2, k2⟩ := tk_set y1 0 wv'
  have nw : ∀ {b : Nat} {cs : Array Value} {T : TypeId}, W.heap[b]? = some (.cells cs T (0, 0)) → ¬ S b → b ≠ wb → (W1.setCell ⟨wb, 0, none⟩ wv').heap[b]? = some (.cells cs T (0, 0)) := fun hb hs hne => (k2.block _ (Nat.lt_of_lt_of_le (tk_lt hb) hk.size) hne).trans ((hk.block _ (tk_lt hb) hs).trans hb)
  refine ⟨⟨(h.bl.trans (hk.below h.bl.size hlo)).trans (k2.below (Nat.le_trans h.bl.size hk.size) (fun k e => by rw [e]; exact h.lo)), nw h.i (hni h.i (by decide)) h.a3, y2, nw h.s (hni h.s (by decide)) (ne_ty h.s h.y (by decide)), nw h.f0 hf (ne_ty h.f0 h.y (by decide)), nw h.d (hni h.d (by decide)) (ne_ty h.d h.y (by decide)), ?_, ?_, ha, h.a2, h.a3, h.lo, h.nn⟩, ?_, ⟨wv, (tk_store y1).1 0⟩, tk_lt y1⟩
  · refine owns_kp k2 (owns_kp hk h.ri (fun k e => ?_)) (fun k e e2 => owns_ne_blk h.ri h.y (by decide) k e e2)
    have : k = g := by simpa [Value.ownBlock] using e.symm
    rw [this]
    exact hg
  · exact owns_kp k2 hr (fun k e e2 => owns_ne_blk hr y1 (by decide) k e e2)
  · exact (tk_store y1).2 0
theorem Fs.vain (h : Fs w ib wb sb fb db g n q v f way wv W) (k : Nat) (x : Int) (hx : 0 ≤ x) : Fs w ib wb sb fb db g n q v (upd f k x) way wv (W.setCell ⟨g, k, none⟩ (.int .i64 x)) := by
  obtain ⟨h1, k2⟩ := owns_one h.ri k (.int .i64 x)
  rw [fl_Iset, fnL_set] at h1
  have nb : ∀ {b : Nat} {cs : Array Value} {T : TypeId}, W.heap[b]? = some (.cells cs T (0, 0)) → b ≠ g → (W.setCell ⟨g, k, none⟩ (.int .i64 x)).heap[b]? = some (.cells cs T (0, 0)) := fun hb hne => (k2.block _ (tk_lt hb) hne).trans hb
  have ng : ∀ {b : Nat} {cs : Array Value} {T : TypeId}, W.heap[b]? = some (.cells cs T (0, 0)) → 3 ≠ T → b ≠ g := fun hb hT e => owns_ne_blk h.ri hb hT g rfl e.symm
  refine ⟨h.bl.trans (k2.below h.bl.size (fun j e => by rw [e]; exact (owns_rd h.ri g rfl).1)), nb h.i (ng h.i (by decide)), nb h.y (ng h.y (by decide)), nb h.s (ng h.s (by decide)), nb h.f0 h.a2, nb h.d (ng h.d (by decide)), h1, owns_kp k2 h.ry (fun j e e2 => (h.a1 j e).1 e2), h.a1, h.a2, h.a3, h.lo, fun j => ?_⟩
  unfold upd
  split
  · exact hx
  · exact h.nn j
theorem Fs.cell (h : Fs w ib wb sb fb db g n q v f way wv W) {k : Nat} (hk : k < n) : W.cell? ⟨g, k, none⟩ = some (.int .i64 (f k)) ∧ g < W.heap.size := by
  have hr : W.ownsRow w.heap.size 3 1 (.slice (some ⟨g, 0, none⟩) n n) (fnL n f).length (fl EI (fnL n f)) := owns_re h.ri (fnL_len n f).symm rfl
  obtain ⟨b, o, c, hv, hb, hx⟩ := (owns_ls (E := EI) hr).get (fnL_get f hk)
  simp only [Value.slice.injEq, Option.some.injEq, Addr.mk.injEq] at hv
  obtain ⟨⟨rfl, rfl, -⟩, -, -⟩ := hv
  have h0 := hx 0 _ (by decide) rfl
  simp only [Nat.zero_add, show EI.k = 1 from rfl, Nat.mul_one, Nat.add_zero] at h0
  exact ⟨h0, hb⟩
end
/-- A row without its last. -/
theorem owns_pop {w : World} {B g m c : Nat} {l : List Int} {x : Int} (h : w.ownsRow B 3 1 (.slice (some ⟨g, 0, none⟩) m c) (l ++ [x]).length (fl EI (l ++ [x]))) : w.ownsRow B 3 1 (.slice (some ⟨g, 0, none⟩) l.length c) l.length (fl EI l) := by
  rcases h.2 with ⟨h0, _⟩ | ⟨g', cap', cur, hv, hbase, hb, h1, h2, h3, h4⟩
  · cases h0
  · simp only [Value.slice.injEq, Option.some.injEq, Addr.mk.injEq] at hv
    obtain ⟨⟨rfl, -, -⟩, -, rfl⟩ := hv
    refine ⟨by rw [fl_I]; simp, Or.inr ⟨g, c, cur, rfl, hbase, hb, by simp at h1; omega, h2, h3, ?_⟩⟩
    rw [fl_I] at h4 ⊢
    have h5 : (cur.toList.take ((l ++ [x]).length * 1)).take (l.length * 1) = ((l ++ [x]).map (Value.int .i64)).take (l.length * 1) := by rw [h4]
    rw [List.take_take, Nat.min_eq_left (by simp)] at h5
    rw [h5, Nat.mul_one, List.map_append, List.take_left' (by simp)]
/-- What the closure answers. -/
def Fa (w : World) (ib wb sb fb db g n q : Nat) (v : Value) (way : List Nat) (x : Option (List Nat) × (Nat → Int)) (r : Ending) (W' : World) : Prop := match x.1 with
  | some l => r = .returned (.bool true) ∧ ∃ wv', Fs w ib wb sb fb db g n q v x.2 (way ++ l) wv' W'
  | none => r = .returned (.bool false) ∧ ∃ wv', Fs w ib wb sb fb db g n q v x.2 way wv' W'
theorem fd_vain {w W : World} {ib wb sb fb db g n q m p : Nat} {v wv : Value} {f : Nat → Int} {way : List Nat} {ls : List (List Int)} (h : Fs w ib wb sb fb db g n q v f way wv W) (hp : p < n) (hm : (m : Int) ≤ f p) : Calls Tryz.prog 31 #[.int .i64 (p : Nat), .int .i64 (m : Nat), .pointer (some ⟨ib, 0, none⟩), .pointer (some ⟨wb, 0, none⟩), .pointer (some ⟨sb, 0, none⟩), .pointer (some ⟨fb, 0, none⟩), .pointer (some ⟨db, 0, none⟩)] W (Fa w ib wb sb fb db g n q v way (downN ls q m p f)) := by
  have e : downN ls q m p f = (none, f) := by
    cases m with
    | zero => rfl
    | succ m => unfold downN; rw [if_pos (by push_cast at hm; exact hm)]
  rw [e]
  have H : Hid (Fa w ib wb sb fb db g n q v way (none, f) (.returned (.bool false)) W) := ⟨rfl, wv, h⟩
  have hc := (h.cell hp).1
  have hg := (h.cell hp).2
  have ci := (tk_store h.i).1
  have li := tk_lt h.i
  have hp0 : (0 : Int) ≤ (p : Int) := by omega
  have hpz : (p : Int) < (n : Int) := by omega
  clear h e
  go_enter Tryz.func31, Tryz.ntmps31
  go_wp2_with fail
  go_ret
  exact H.out
set_option maxRecDepth 100000 in
set_option maxHeartbeats 4000000 in
theorem fd_down {w : World} {ib wb sb fb db g n q : Nat} {v : Value} {ls : List (List Int)} {M0 : Nat} (hF : Ff M0 w v ls) (hnl : n = ls.length) (hx : ∀ l ∈ ls, l.length ≤ 1000 ∧ ∀ x ∈ l, 0 ≤ x ∧ x < (n : Int)) : ∀ (m : Nat) (W : World) (f : Nat → Int) (way : List Nat) (wv : Value) (p : Nat), Fs w ib wb sb fb db g n q v f way wv W → p < n → way.length + m ≤ 5000 → Calls Tryz.prog 31 #[.int .i64 (p : Nat), .int .i64 (m : Nat), .pointer (some ⟨ib, 0, none⟩), .pointer (some ⟨wb, 0, none⟩), .pointer (some ⟨sb, 0, none⟩), .pointer (some ⟨fb, 0, none⟩), .pointer (some ⟨db, 0, none⟩)] W (Fa w ib wb sb fb db g n q v way (downN ls q m p f)) := by
  intro m
  induction m with
  | zero =>
    intro W f way wv p h hp _
    exact fd_vain h hp (h.nn p)
  | succ m ih =>
    intro W f way wv p h hp hwm
    by_cases hv0 : ((m + 1 : Nat) : Int) ≤ f p
    · exact fd_vain h hp hv0
    · obtain ⟨l, hl⟩ : ∃ l, ls[p]? = some l := ⟨ls[p]'(by omega), by simp⟩
      obtain ⟨hll, hlx⟩ := hx l (List.mem_of_getElem? hl)
      obtain ⟨b, off, c1, q1, c2, e1, z0, x0, hz⟩ := hF.at hl
      have HST : Hid (w.cell? ⟨b, off + p, none⟩ = some (.slice q1 l.length c2) ∧ b < w.heap.size) := ⟨x0, z0⟩
      have HZ := hid hz
      rw [← hnl] at e1
      subst e1
      have HDN : Hid (∀ r W', (match (loopN (downN ls q m) q l f).1 with
        | some l2 => r = .returned (.bool true) ∧ ∃ wv', Fs w ib wb sb fb db g n q (.slice (some ⟨b, off, none⟩) n c1) (loopN (downN ls q m) q l f).2 (way ++ (p :: l2)) wv' W'
        | none => r = .returned (.bool false) ∧ ∃ wv', Fs w ib wb sb fb db g n q (.slice (some ⟨b, off, none⟩) n c1) (upd (loopN (downN ls q m) q l f).2 p ((m : Int) + 1)) way wv' W') → Fa w ib wb sb fb db g n q (.slice (some ⟨b, off, none⟩) n c1) way (downN ls q (m + 1) p f) r W') := fun r W' hr => by
        have e2 : downN ls q (m + 1) p f = match loopN (downN ls q m) q l f with
          | (some l, f') => (some (p :: l), f')
          | (none, f') => (none, upd f' p ((m : Int) + 1)) := by
          rw [downN, if_neg (by push_cast at hv0; exact hv0), hl]
          rfl
        rw [e2]
        unfold Fa
        revert hr
        cases loopN (downN ls q m) q l f with
        | mk a f' =>
          cases a with
          | none => exact id
          | some l2 => exact id
      have IH : Hid (∀ (W : World) (f : Nat → Int) (way : List Nat) (wv : Value) (p : Nat), Fs w ib wb sb fb db g n q (.slice (some ⟨b, off, none⟩) n c1) f way wv W → p < n → way.length + m ≤ 5000 → Calls Tryz.prog 31 #[.int .i64 (p : Nat), .int .i64 (m : Nat), .pointer (some ⟨ib, 0, none⟩), .pointer (some ⟨wb, 0, none⟩), .pointer (some ⟨sb, 0, none⟩), .pointer (some ⟨fb, 0, none⟩), .pointer (some ⟨db, 0, none⟩)] W (Fa w ib wb sb fb db g n q (.slice (some ⟨b, off, none⟩) n c1) way (downN ls q m p f))) := ih
      have HLX := hid hlx
      have H := hid h
      have hc := (h.cell hp).1
      have hg := (h.cell hp).2
      have ci := (tk_store h.i).1
      have li := tk_lt h.i
      have cy := (tk_store h.y).1
      have ly := tk_lt h.y
      have fy := (tk_store h.y).2
      have hp0 : (0 : Int) ≤ (p : Int) := by omega
      have hpz : (p : Int) < (n : Int) := by omega
      have hvz : ¬ (m : Int) + 1 ≤ f p := by push_cast at hv0; exact hv0
      have HBW := hid h.bl.size
      obtain ⟨wq, wm, wc, hwv⟩ := owns_form h.ry
      subst hwv
      clear h ih hx hF hnl hl hlx hz x0 z0 hv0
      have HAP : Hid (∀ g9 c9 w9, w9.ownsRow w.heap.size 3 1 (.slice (some ⟨g9, 0, none⟩) (way.length + 1) c9) (way.length + 1) (fl EI (ints way) ++ EI.enc ((p : Nat) : Int)) → W.grownBy w9 (Value.slice wq wm wc).ownBlock → ((Value.slice wq wm wc).ownBlock = some g9 ∨ W.heap.size ≤ g9) → Fs w ib wb sb fb db g n q (.slice (some ⟨b, off, none⟩) n c1) f (way ++ [p]) (.slice (some ⟨g9, 0, none⟩) (way.length + 1) c9) (w9.setCell ⟨wb, 0, none⟩ (.slice (some ⟨g9, 0, none⟩) (way.length + 1) c9)) ∧ w9.frozen? ⟨wb, 0, none⟩ = false ∧ (∃ u, w9.cell? ⟨wb, 0, none⟩ = some u) ∧ wb < w9.heap.size) := fun g9 c9 w9 r1 r2 r3 => by
        refine H.out.wput (S := fun k => (Value.slice wq wm wc).ownBlock = some k) (Kp.grownBy r2 (fun _ h => h)) (fun _ h => h) (owns_re r1 (by simp) (by simp [ints, fl_append, fl_one])) (fun k e => ?_)
        obtain rfl : g9 = k := by simpa [Value.ownBlock] using e
        rcases r3 with r3 | r3
        · exact H.out.a1 g9 r3
        · have h1 := tk_lt H.out.f0
          exact ⟨by omega, by omega⟩
      push_cast
      go_enter Tryz.func31, Tryz.ntmps31
      go_upto_region 4 with (at_builtin; refine wpApp1 EI Tryz.underlying33 infoIK rfl (by decide) rfl _ _ rfl w.heap.size _ way.length _ rfl H.out.ry ((p : Nat) : Int) rfl (by omega) (by unfold maxLen; omega) HBW.out _ rfl _ ?_; intro g9 c9 w9 r1 r2 r3; obtain ⟨F9, f9, ⟨u9, cc9⟩, l9⟩ := HAP.out g9 c9 w9 r1 r2 r3; have F9 := hid F9; clear r1 r2 r3)
      obtain ⟨W9, hW9⟩ : ∃ W, W = w9.setCell ⟨wb, 0, none⟩ (.slice (some ⟨g9, 0, none⟩) (way.length + 1) c9) := ⟨_, rfl⟩
      rw [← hW9] at F9 ⊢
      have cs9 := (tk_store F9.out.s).1
      have ls9 := tk_lt F9.out.s
      have ct9 := (F9.out.bl.cell (p := ⟨b, off + p, none⟩) HST.out.2).trans HST.out.1
      have lt9 := Nat.lt_of_lt_of_le HST.out.2 F9.out.bl.size
      clear hW9 f9 cc9 l9 cy ly fy ci li hc hg hvz HAP H
      go_wp2_with fail
      clear cs9 ls9 ct9 lt9
      go_loopw [27] (fun s27 wr => ∃ k : Nat, k ≤ l.length ∧ s27 = .int .i64 (k : Nat) ∧ Hid (∃ fk wvk, loopN (downN ls q m) q l f = loopN (downN ls q m) q (l.drop k) fk ∧ Fs w ib wb sb fb db g n q (.slice (some ⟨b, off, none⟩) n c1) fk (way ++ [p]) wvk wr)) (fun s27 _ => l.length - (RowKit.intOf s27).toNat)
      case atStart => exact ⟨0, Nat.zero_le _, rfl, f, _, rfl, F9.out⟩
      case round =>
        clear F9
        obtain ⟨k, hk, rfl, HI⟩ := hrel
        obtain ⟨fk, wvk, hlo, hfs⟩ := HI.out
        clear HI
        by_cases hlk : k < l.length
        · have hlkz : (k : Int) < (l.length : Int) := by omega
          have hk0 : (0 : Int) ≤ (k : Int) := by omega
          obtain ⟨x, hx⟩ : ∃ x, l[k]? = some x := ⟨l[k], by simp⟩
          have hxb := HLX.out x (List.mem_of_getElem? hx)
          obtain ⟨e, rfl⟩ : ∃ e : Nat, x = (e : Int) := ⟨x.toNat, by omega⟩
          obtain ⟨b2, o2, c3, e2, z2, y0⟩ := ls_atI ((HZ.out.below hfs.bl).ls hx) hx
          simp only [Value.slice.injEq] at e2
          obtain ⟨rfl, -, rfl⟩ := e2
          have hdr : l.drop k = ((e : Nat) : Int) :: l.drop (k + 1) := by
            rw [List.drop_eq_getElem_cons hlk]
            congr 1
            rw [List.getElem?_eq_getElem hlk] at hx
            exact Option.some.inj hx
          rw [hdr, loopN] at hlo
          have HFS := hid hfs
          have cf := (tk_store hfs.f0).1
          have lf := tk_lt hfs.f0
          have cd := (tk_store hfs.d).1
          have ld := tk_lt hfs.d
          have hen : e < n := by omega
          by_cases heq : e = q
          · rw [if_pos (by omega)] at hlo
            have FIN : Hid (Fa w ib wb sb fb db g n q (.slice (some ⟨b, off, none⟩) n c1) way (downN ls q (m + 1) p f) (.returned (.bool true)) wr) := HDN.out _ _ (by rw [hlo]; exact ⟨rfl, wvk, hfs⟩)
            subst heq
            clear hlo hfs hx hdr hxb
            go_wp2_with fail
            go_ret
            exact FIN.out
          · rw [if_neg (by omega)] at hlo
            have hez : ¬ ((e : Nat) : Int) = ((q : Nat) : Int) := by omega
            have hcall := IH.out wr fk (way ++ [p]) wvk e hfs hen (by simp; omega)
            have hwrap : IntKind.i64.wrap ((m : Int) + 1 - 1) = (m : Int) := by rw [IntKind.wrap_i64]; omega
            have HLO := hid hlo
            clear hlo hfs hx hdr hxb
            have hbq : (((e : Nat) : Int) == ((q : Nat) : Int)) = false := by simpa using hez
            go_wp2_with fail
            refine hcall.mono ?_
            clear hcall cf lf cd ld z2 y0
            intro r w10 hr
            have HR := hid hr
            clear hr
            cases hdn : downN ls q m e fk with
            | mk a f' =>
              have hr := HR.out
              have hlo := HLO.out
              rw [show ((e : Nat) : Int).toNat = e by omega, hdn] at hlo
              rw [hdn] at hr
              clear HR HLO hdn
              cases a with
              | some l2 =>
                obtain ⟨rfl, wv', h2⟩ := hr
                have FIN : Hid (Fa w ib wb sb fb db g n q (.slice (some ⟨b, off, none⟩) n c1) way (downN ls q (m + 1) p f) (.returned (.bool true)) w10) := HDN.out _ _ (by rw [hlo]; exact ⟨rfl, wv', by have h3 := h2; rw [List.append_assoc] at h3; exact h3⟩)
                clear hlo h2
                go_wp2_with fail
                go_ret
                exact FIN.out
              | none =>
                obtain ⟨rfl, wv', h2⟩ := hr
                have FIN : Hid (∃ fk wvk, loopN (downN ls q m) q l f = loopN (downN ls q m) q (l.drop (k + 1)) fk ∧ Fs w ib wb sb fb db g n q (.slice (some ⟨b, off, none⟩) n c1) fk (way ++ [p]) wvk w10) := ⟨f', wv', hlo, h2⟩
                clear hlo h2
                go_wp2_with fail
                go_roundw
                case rel => exact ⟨k + 1, by omega, by go_num, FIN.out⟩
                case measure => simp [RowKit.intOf]; omega
        · have hlkz : ¬ (k : Int) < (l.length : Int) := by omega
          rw [List.drop_eq_nil_of_le (by omega), loopN] at hlo
          obtain ⟨wq2, wm2, wc2, hwv⟩ := owns_form hfs.ry
          subst hwv
          have hry := hfs.ry
          obtain ⟨hm2, hcap2⟩ := owns_caps hry _ _ _ rfl
          obtain ⟨g10, hq2⟩ : ∃ g10, wq2 = some ⟨g10, 0, none⟩ := by
            rcases hry.2 with ⟨h0, h1⟩ | ⟨g', cap', cur, hv, _⟩
            · simp at h1
            · simp only [Value.slice.injEq] at hv
              exact ⟨g', hv.1⟩
          subst hq2
          have hl2 : wm2 = way.length + 1 := by rw [hm2]; simp
          subst hl2
          have e3 : ints (way ++ [p]) = ints way ++ [((p : Nat) : Int)] := by simp [ints]
          have hpop : wr.ownsRow w.heap.size 3 1 (.slice (some ⟨g10, 0, none⟩) way.length wc2) way.length (fl EI (ints way)) := by
            rw [e3] at hry
            have h4 := owns_pop (owns_re hry (by simp) rfl)
            simpa using h4
          obtain ⟨Y1, Y2, -, Y4⟩ := hfs.wput (S := fun _ => False) (Kp.refl _ _) (fun _ h => h.elim) hpop (fun k e => hfs.a1 k e)
          obtain ⟨W11, hW11⟩ : ∃ W, W = wr.setCell ⟨wb, 0, none⟩ (.slice (some ⟨g10, 0, none⟩) way.length wc2) := ⟨_, rfl⟩
          rw [← hW11] at Y1
          have HW11 : Hid (wr.setCell ⟨wb, 0, none⟩ (.slice (some ⟨g10, 0, none⟩) way.length wc2) = W11) := hW11.symm
          have FIN : Hid (Fa w ib wb sb fb db g n q (.slice (some ⟨b, off, none⟩) n c1) way (downN ls q (m + 1) p f) (.returned (.bool false)) (W11.setCell ⟨g, p, none⟩ (.int .i64 ((m : Int) + 1)))) := HDN.out _ _ (by rw [hlo]; exact ⟨rfl, _, Y1.vain p ((m : Int) + 1) (by omega)⟩)
          have cy := (tk_store hfs.y).1
          have ci := (tk_store Y1.i).1
          have li := tk_lt Y1.i
          have cg := (Y1.cell hp).1
          have lg := (Y1.cell hp).2
          have fg := own_frK Y1.ri
          obtain ⟨wl, hwl⟩ : ∃ k, k = way.length := ⟨_, rfl⟩
          rw [← hwl] at HW11
          simp only [← hwl] at cy
          have hwl9 : wl ≤ 5000 := by omega
          have hcap3 : wl ≤ wc2 := by rw [List.length_append, List.length_singleton] at hcap2; omega
          clear hlo hfs hry hm2 hcap2 e3 hpop Y1 hW11 hwl
          go_upto_region 11 with fail
          rw [HW11.out]
          clear HW11 Y2 Y4 cy
          go_wp2_with fail
          go_ret
          exact FIN.out
end Go.Proofs.YtpgodnaebkmhhaaGreat.Df

namespace Go.Proofs.YtpgodnaebkmhhaaGreat.Df
open Go.RowKit Go.Sort
attribute [local go_sem ↓] Go.wp_at_zero Go.wp_at_succ

theorem findN_mono {ls : List (List Int)} {i j : Nat} {l : List Nat} (h : findN ls i = some l) (hij : i ≤ j) : findN ls j = some l := by
  induction j with
  | zero =>
    obtain rfl : i = 0 := by omega
    exact h
  | succ j ih =>
    by_cases e : i = j + 1
    · subst e
      exact h
    · rw [findN, ih (by omega)]
theorem findN_skip {ls : List (List Int)} {i : Nat} (h0 : ∀ l ∈ ls, ∀ x ∈ l, (0 : Int) ≤ x) (h : findN ls i = none) (hr : ∀ m, ¬ Ry ls i m i) : findN ls (i + 1) = none := by
  rw [findN, h]
  have h1 := (mostN_ok (ls := ls) (q := i) h0 ls.length).2
  revert h1
  cases (mostN ls i ls.length).2 with
  | none => intro _; rfl
  | some l => intro h1; exact absurd ⟨l, h1.1, h1.2.1, Nat.le_refl _⟩ (hr l.length)
theorem mostN_some {ls : List (List Int)} {q t m : Nat} {f : Nat → Int} {l : List Nat} (h : mostN ls q t = (f, some l)) (htm : t ≤ m) : mostN ls q m = (f, some l) := by
  induction m with
  | zero =>
    obtain rfl : t = 0 := by omega
    exact h
  | succ m ih =>
    by_cases e : t = m + 1
    · subst e
      exact h
    · rw [mostN, ih (by omega)]
/-- What stands while first places are tried. -/
structure Fb (w : World) (sb wb : Nat) (v wv : Value) (W : World) : Prop where
  bl : Below w.heap.size w W
  s : W.heap[sb]? = some (.cells #[v] 67 (0, 0))
  y : W.heap[wb]? = some (.cells #[wv] 33 (0, 0))
  ry : W.ownsRow w.heap.size 3 1 wv 0 []
  lo : w.heap.size ≤ wb
theorem Fb.below {w W W' : World} {sb wb : Nat} {v wv : Value} (h : Fb w sb wb v wv W) (hb : Below W.heap.size W W') : Fb w sb wb v wv W' := ⟨h.bl.trans (hb.mono h.bl.size), (hb.block _ (tk_lt h.s)).trans h.s, (hb.block _ (tk_lt h.y)).trans h.y, owns_below h.ry hb, h.lo⟩
/-- What Find answers. -/
def Fn (w : World) (ls : List (List Int)) (r : Ending) (w' : World) : Prop := ∃ v, r = .returned v ∧ Below w.heap.size w w' ∧ w'.ownsRow w.heap.size 3 1 v ((findN ls ls.length).getD []).length (fl EI (ints ((findN ls ls.length).getD [])))
set_option maxRecDepth 100000 in
set_option maxHeartbeats 8000000 in
theorem find_of {gp : Option Addr} {ls : List (List Int)} (w : World) (hs : Calls Tryz.prog 29 #[.pointer gp] w fun r w' => ∃ v, r = .returned v ∧ Hid (Below w.heap.size w w' ∧ Ff w'.heap.size w' v ls)) (hn : ls.length ≤ 1000) (hx : ∀ l ∈ ls, l.length ≤ 1000 ∧ ∀ x ∈ l, 0 ≤ x ∧ x < (ls.length : Int)) : Calls Tryz.prog 11 #[.pointer gp] w (Fn w ls) := by
  obtain ⟨i0, hi0, hz0, hz1, hz2⟩ := info_parts infoIK
  obtain ⟨n, hnn⟩ : ∃ n, n = ls.length := ⟨_, rfl⟩
  rw [← hnn] at hn hx
  have HN := hid hnn
  have HX := hid hx
  have H0 : Hid (∀ l ∈ ls, ∀ x ∈ l, (0 : Int) ≤ x) := fun l hl x hxl => ((hx l hl).2 x hxl).1
  clear hnn hx
  go_enter Tryz.func11, Tryz.ntmps11
  go_wp2_with fail
  go_step3
  go_wp2_with fail
  refine hs.mono ?_
  clear hs
  rintro r w1 ⟨v, rfl, H1⟩
  obtain ⟨p, c, rfl⟩ := H1.out.2.form
  have H1' : Hid (Below w.heap.size w w1 ∧ Ff w1.heap.size w1 (.slice p n c) ls) := by rw [HN.out]; exact H1.out
  rw [← HN.out]
  clear H1
  go_wp2_with fail
  go_step3
  obtain ⟨sb, hsb⟩ : ∃ b, b = w1.heap.size := ⟨_, rfl⟩
  obtain ⟨W2, hW2⟩ : ∃ W, W = (w1.alloc (.cells #[.slice p n c] 67)).alloc (.cells #[.slice none 0 0] 33) := ⟨_, rfl⟩
  rw [← hW2, ← hsb]
  have B2 : Hid (Fb w1 sb (sb + 1) (.slice p n c) (.slice none 0 0) W2) := by
    rw [hW2, hsb]
    exact ⟨(((Gr.refl w1).alloc _).alloc _).below, new1' w1 _ _, new2' w1 _ _, World.ownsRow_nil _ _ _ _, by omega⟩
  obtain ⟨wb, hwb⟩ : ∃ b, b = sb + 1 := ⟨_, rfl⟩
  rw [← hwb] at B2 ⊢
  have HSB : Hid (sb = w1.heap.size ∧ wb = sb + 1) := ⟨hsb, hwb⟩
  have c2 := (tk_store B2.out.s).1
  have l2 := tk_lt B2.out.s
  clear hW2 hsb hwb
  go_wp2_with fail
  clear c2 l2
  go_loopw [13] (fun s13 wr => ∃ i : Nat, i ≤ n ∧ s13 = .int .i64 (i : Nat) ∧ Hid (findN ls i = none ∧ ∃ wv, Fb w1 sb wb (.slice p n c) wv wr)) (fun s13 _ => n - (RowKit.intOf s13).toNat)
  case atStart => exact ⟨0, Nat.zero_le _, rfl, rfl, _, B2.out⟩
  case round =>
    clear B2
    obtain ⟨i, hi, rfl, HI⟩ := hrel
    obtain ⟨hfi, wv, hfb⟩ := HI.out
    by_cases hlt : i < n
    · have hltz : (i : Int) < (n : Int) := by omega
      have hi1 : (0 : Int) ≤ (i : Int) := by omega
      obtain ⟨fb, hfbb⟩ : ∃ b, b = wr.heap.size := ⟨_, rfl⟩
      obtain ⟨W3, hW3⟩ : ∃ W, W = wr.alloc (.cells #[.int .i64 (i : Nat)] 3) := ⟨_, rfl⟩
      have hb3 : Below wr.heap.size wr W3 := by rw [hW3]; exact ((Gr.refl wr).alloc _).below
      have P3 : Hid (Fb w1 sb wb (.slice p n c) wv W3 ∧ W3.heap[fb]? = some (.cells #[.int .i64 (i : Nat)] 3 (0, 0)) ∧ ∀ k, wv.ownBlock = some k → k ≠ fb) := ⟨hfb.below hb3, by rw [hW3, hfbb]; exact heap_new' _ _, fun k e => by have := (owns_rd hfb.ry k e).2; omega⟩
      have HW3 : Hid (wr.alloc (.cells #[.int .i64 (i : Nat)] 3) = W3 ∧ wr.heap.size = fb) := ⟨hW3.symm, hfbb.symm⟩
      have HFI := hid hfi
      clear HI hfi hfb hW3 hfbb hb3
      go_upto_region 6 with fail
      rw [HW3.out.1, HW3.out.2]
      clear HW3
      have c3 := (tk_store P3.out.1.s).1
      have l3 := tk_lt P3.out.1.s
      have c4 := (tk_store P3.out.2.1).1
      have l4 := tk_lt P3.out.2.1
      have hcb := comesBack_any i W3 (H1'.out.2.below P3.out.1.bl) (by rw [← HN.out]; exact hlt) (by rw [← HN.out]; exact hn) (by rw [← HN.out]; exact HX.out)
      go_wp2_with fail
      refine hcb.mono ?_
      clear hcb c3 l3 c4 l4
      rintro r w4 ⟨bb, rfl, HB⟩
      cases bb with
      | false =>
        have FIN : Hid (findN ls (i + 1) = none ∧ ∃ wv, Fb w1 sb wb (.slice p n c) wv w4) := ⟨findN_skip H0.out HFI.out (HB.out.2 rfl), wv, P3.out.1.below HB.out.1⟩
        clear HB P3
        go_wp2_with fail
        go_roundw
        case rel => exact ⟨i + 1, by omega, by go_num, FIN.out⟩
        case measure => simp [RowKit.intOf]; omega
      | true =>
        have P4 : Hid (Fb w1 sb wb (.slice p n c) wv w4 ∧ w4.heap[fb]? = some (.cells #[.int .i64 (i : Nat)] 3 (0, 0)) ∧ ∀ k, wv.ownBlock = some k → k ≠ fb) := ⟨P3.out.1.below HB.out.1, (HB.out.1.block _ (tk_lt P3.out.2.1)).trans P3.out.2.1, P3.out.2.2⟩
        have c3 := (tk_store P4.out.1.s).1
        have l3 := tk_lt P4.out.1.s
        clear HB P3
        go_upto_region 7 with fail
        go_upto_region 8 with (at_make; refine wpList_make_full _ rfl _ _ 33 rfl w4.heap.size 3 i0 (.int .i64 0) 1 Tryz.underlying33 hi0 hz0 hz1 _ _ _ _ n rfl rfl rfl rfl (by rw [hz2]; omega) (by unfold maxLen; omega) (Nat.le_refl _) ?_; intro w5 hrow hg1)
        obtain ⟨g, hg⟩ : ∃ g, g = w4.heap.size := ⟨_, rfl⟩
        obtain ⟨ib, hib⟩ : ∃ b, b = w5.heap.size := ⟨_, rfl⟩
        rw [← hg, ← hib]
        obtain ⟨W6, hW6⟩ : ∃ W, W = w5.alloc (.cells #[.slice (some ⟨g, 0, none⟩) n n] 33) := ⟨_, rfl⟩
        rw [← hW6]
        have HIB := hid hib
        have HW6 := hid hW6
        have HGG := hid hg
        clear c3 l3 hib hW6 hg
        go_upto_region 10 with fail
        obtain ⟨db, hdb⟩ : ∃ b, b = W6.heap.size := ⟨_, rfl⟩
        rw [← hdb]
        obtain ⟨W7, hW7⟩ : ∃ W, W = W6.alloc (.cells #[.func (.func 31) #[] #[.pointer (some ⟨ib, 0, none⟩), .pointer (some ⟨wb, 0, none⟩), .pointer (some ⟨sb, 0, none⟩), .pointer (some ⟨fb, 0, none⟩), .pointer (some ⟨db, 0, none⟩)]] 70) := ⟨_, rfl⟩
        rw [← hW7]
        have F7 : Hid (Fs w1 ib wb sb fb db g n i (.slice p n c) (fun _ => 0) [] wv W7) := by
          have hib := HIB.out
          have hW6 := HW6.out
          have hg := HGG.out
          have b5 : Below w4.heap.size w4 w5 := (Kp.grownBy (S := fun _ => False) hg1 (fun _ h => by cases h)).below (Nat.le_refl _) (fun _ h => h.elim)
          have b6 : Below w5.heap.size w5 W6 := by rw [hW6]; exact ((Gr.refl w5).alloc _).below
          have b7 : Below W6.heap.size W6 W7 := by rw [hW7]; exact ((Gr.refl W6).alloc _).below
          have b57 : Below w5.heap.size w5 W7 := b6.trans (b7.mono b6.size)
          have b47 : Below w4.heap.size w4 W7 := b5.trans (b57.mono b5.size)
          have h7 := P4.out.1.below b47
          have hlf := tk_lt P4.out.2.1
          have hly := tk_lt P4.out.1.y
          have h45 := b5.size
          refine ⟨h7.bl, (b7.block _ (by rw [hib, hW6]; simp)).trans (by rw [hW6, hib]; exact heap_new' _ _), h7.y, h7.s, (b47.block _ hlf).trans P4.out.2.1, by rw [hW7, hdb]; exact heap_new' _ _, ?_, h7.ry, fun k e => ⟨?_, P4.out.2.2 k e⟩, by omega, by omega, h7.lo, fun k => Int.le_refl _⟩
          · rw [hg]
            refine owns_re (owns_below (owns_base hrow P4.out.1.bl.size) b57) rfl ?_
            rw [madeK, fnL_zero, fl_I]
          · have := (owns_rd P4.out.1.ry k e).2
            omega
        have c3 := (tk_store F7.out.s).1
        have l3 := tk_lt F7.out.s
        clear hrow hg1 HGG HIB HW6 hdb hW7 P4
        go_wp2_with fail
        clear c3 l3
        go_loopw [26] (fun s26 wr => ∃ t : Nat, t ≤ n ∧ s26 = .int .i64 (t : Nat) ∧ Hid (∃ f wv, mostN ls i t = (f, none) ∧ Fs w1 ib wb sb fb db g n i (.slice p n c) f [] wv wr)) (fun s26 _ => n - (RowKit.intOf s26).toNat)
        case atStart => exact ⟨0, Nat.zero_le _, rfl, _, _, rfl, F7.out⟩
        case round =>
          clear F7
          obtain ⟨t, ht, rfl, HI⟩ := hrel
          obtain ⟨f, wv2, hmo, hfs⟩ := HI.out
          clear HI
          by_cases hlt2 : t < n
          · have hltz2 : (t : Int) < (n : Int) := by omega
            have hcall := fd_down H1'.out.2 HN.out HX.out (t + 1) wr f [] wv2 i hfs hlt (by simp; omega)
            have c5 := (tk_store hfs.d).1
            have l5 := tk_lt hfs.d
            have c6 := (tk_store hfs.f0).1
            have l6 := tk_lt hfs.f0
            have HMO := hid hmo
            push_cast at hcall
            clear hmo hfs
            go_wp2_with fail
            refine hcall.mono ?_
            clear hcall c5 l5 c6 l6
            intro r w10 hr
            have HR := hid hr
            clear hr
            cases hdn : downN ls i (t + 1) i f with
            | mk a f' =>
              have hr := HR.out
              rw [hdn] at hr
              have hm1 : mostN ls i (t + 1) = (f', a) := by rw [mostN, HMO.out]; simp only [hdn]
              have HM1 := hid hm1
              clear HR hdn hm1
              cases a with
              | some l =>
                obtain ⟨rfl, wv3, h3⟩ := hr
                have hfin : (findN ls ls.length).getD [] = l := by
                  rw [findN_mono (i := i + 1) (l := l) (by rw [findN, HFI.out]; simp only [mostN_some HM1.out (show t + 1 ≤ ls.length by have := HN.out; omega)]) (by have := HN.out; omega)]
                  rfl
                have FIN : Hid (Fn w ls (.returned wv3) w10) := ⟨wv3, rfl, H1'.out.1.trans (h3.bl.mono H1'.out.1.size), by rw [hfin]; exact owns_base h3.ry H1'.out.1.size⟩
                have c7 := (tk_store h3.y).1
                have l7 := tk_lt h3.y
                clear h3 hfin
                go_wp2_with fail
                try rw [Exit.noGoto_ret]
                go_ret
                exact FIN.out
              | none =>
                obtain ⟨rfl, wv3, h3⟩ := hr
                have FIN : Hid (∃ f wv, mostN ls i (t + 1) = (f, none) ∧ Fs w1 ib wb sb fb db g n i (.slice p n c) f [] wv w10) := ⟨f', wv3, HM1.out, h3⟩
                clear h3
                go_wp2_with fail
                go_roundw
                case rel => exact ⟨t + 1, by omega, by go_num, FIN.out⟩
                case measure => simp [RowKit.intOf]; omega
          · have hltz2 : ¬ (t : Int) < (n : Int) := by omega
            obtain rfl : t = n := by omega
            have FIN : Hid (findN ls (i + 1) = none ∧ ∃ wv, Fb w1 sb wb (.slice p t c) wv wr) := ⟨by rw [findN, HFI.out, ← HN.out]; simp only [hmo], wv2, hfs.bl, hfs.s, hfs.y, hfs.ry, hfs.lo⟩
            clear hmo hfs
            go_wp2_with fail
            go_roundw
            case rel => exact ⟨i + 1, by omega, by go_num, FIN.out⟩
            case measure => simp [RowKit.intOf]; omega
    · have hltz : ¬ (i : Int) < (n : Int) := by omega
      obtain rfl : i = n := by omega
      have hfin : (findN ls ls.length).getD [] = [] := by rw [← HN.out, hfi]; rfl
      have FIN : Hid (Fn w ls (.returned wv) wr) := ⟨wv, rfl, H1'.out.1.trans (hfb.bl.mono H1'.out.1.size), by rw [hfin]; exact owns_base hfb.ry H1'.out.1.size⟩
      have c7 := (tk_store hfb.y).1
      have l7 := tk_lt hfb.y
      clear HI hfi hfb hfin
      go_wp2_with fail
      try rw [Exit.noGoto_ret]
      go_ret
      exact FIN.out
theorem find_any {B gb : Nat} {g : Gph} (w : World) (h : Gm B w gb g) (hOK : Gok g) : Calls Tryz.prog 11 #[.pointer (some ⟨gb, 0, none⟩)] w (Fn w (stL g)) := find_of w (stepsOf_any w h hOK) (stL_good hOK).1 (stL_good hOK).2
theorem findNil_any (w : World) : Calls Tryz.prog 11 #[.pointer none] w (Fn w []) := by
  refine find_of w ((stepsNil_any w).mono ?_) (by simp) (fun l hl => by cases hl)
  rintro r w' ⟨p, c, rfl, hb⟩
  exact ⟨_, rfl, hb, [], Or.inr ⟨rfl, p, c, rfl⟩, rfl, fun i x l hx => by simp at hx⟩
end Go.Proofs.YtpgodnaebkmhhaaGreat.Df
