import Derived.Test.YtplbcamliiajdaaYApart
import Derived.Test.YtplbcamliiajdaaYAdds
namespace Go.Proofs.Ytplbcamliiajdaa
open Go.RowKit Go.Sort Go.Maps
attribute [local go_sem ↓] Go.wp_at_zero Go.wp_at_succ

set_option maxHeartbeats 4000000 in
set_option maxRecDepth 100000 in
theorem filled_any (v0 : Value) (ops : List Opx) (w : World) (hl : Lo w v0 ops) (hlen : ops.length ≤ 9223372036854775807) :
    Calls Try.prog 14 #[v0] w fun e w' => ∃ (x : Tb) (f : BS → Int), e = .returned (tp x) ∧ w.heap.size ≤ x.t ∧ w.heap.size ≤ x.b ∧ OrdOk x.g (cf 0) ∧ Tl w' x.t x.b x.g 200 f ∧ Below w.heap.size w w' := by
  obtain ⟨p0, c0, rfl, hc0⟩ := hl.form
  have HL : Hid (Lo w (.slice p0 ops.length c0) ops) := hl
  have hm := made_tb 0 (by decide) w
  clear hl
  go_enter Try.func14, Try.ntmps14
  go_wp2_with fail
  refine hm.mono ?_
  rintro e w1 ⟨x, rfl, a1, b1, o1, t1, g1⟩
  have HT1 : Hid (Tl w1 x.t x.b x.g 0 (fun _ => 0)) := t1
  have HB1 : Hid (Below w.heap.size w w1) := g1.below
  clear t1 g1 hm
  go_wp2_with fail
  go_loopw [4, 5, 9] (fun _ _ s9 wr => ∃ (k : Nat) (f : BS → Int), k ≤ ops.length ∧ s9 = .int .i64 k ∧ Hid (Tl wr x.t x.b x.g (min k 200) f ∧ Below w.heap.size w wr)) (fun _ _ s9 _ => ops.length - (RowKit.intOf s9).toNat)
  case atStart => exact ⟨0, _, Nat.zero_le _, rfl, HT1.out, HB1.out⟩
  case round =>
    clear HT1 HB1
    obtain ⟨k, f, hk, rfl, HR⟩ := hrel
    by_cases hlt : k < ops.length
    · have hltz : (k : Int) < (ops.length : Int) := by omega
      obtain ⟨o, ho⟩ : ∃ o, ops[k]? = some o := ⟨ops[k], by simp⟩
      obtain ⟨bb, off, cc, e1, zb, y0, y1, y2, y3, y4⟩ := (HL.out.below (Nat.le_refl _) HR.out.2).at5 ho
      simp only [Value.slice.injEq] at e1
      obtain ⟨rfl, -, rfl⟩ := e1
      by_cases h2 : k < 200
      · have h2z : (k : Int) < 200 := by omega
        have hadd := fun W (hW : Tl W x.t x.b x.g (min k 200) f) => add_any o.key o.n W hW (by unfold maxLen; omega)
        generalize addc f o.key o.n = ec at hadd
        generalize addf f o.key o.n = f' at hadd
        go_wp2_with fail
        refine (hadd _ (HR.out.1.gr ((Gr.refl _).alloc _))).mono ?_
        rintro e w5 ⟨rfl, ht5, hk5⟩
        have HR5 : Hid (Tl w5 x.t x.b x.g (min (k + 1) 200) f' ∧ Below w.heap.size w w5) := by
          refine ⟨?_, ?_⟩
          · rw [show min (k + 1) 200 = min k 200 + 1 by omega]; exact ht5
          · have h3 : Below w.heap.size w (wr.alloc (.cells #[.int .i64 o.k, .int .i64 o.i, .int .i64 o.j, .string o.key.1, .int .i64 o.n] 27)) := HR.out.2.trans (((Gr.refl _).alloc _).below.mono HR.out.2.size)
            exact h3.trans (hk5.below h3.size (fun q hq => by rw [hq]; exact b1))
        clear ht5 hk5 hadd HR
        go_wp2
        exact ⟨⟨k + 1, f', by omega, by go_num, HR5⟩, by simp [RowKit.intOf]; omega⟩
      · have h2z : ¬ (k : Int) < 200 := by omega
        go_wp2
        refine ⟨⟨k + 1, f, by omega, by go_num, ⟨?_, HR.out.2.trans (((Gr.refl _).alloc _).below.mono HR.out.2.size)⟩⟩, by simp [RowKit.intOf]; omega⟩
        rw [show min (k + 1) 200 = min k 200 by omega]
        exact HR.out.1.gr ((Gr.refl _).alloc _)
    · have hltz : ¬ (k : Int) < (ops.length : Int) := by omega
      go_wp2
      go_ret
      exact ⟨x, rfl, a1, b1, o1, ⟨f, HR.out.1.blk, HR.out.1.ta.mono (by omega), HR.out.1.bd⟩, HR.out.2⟩

/-- A list of the call's own that lies between lo and hi. -/
structure Rw (W : World) (lo hi : Nat) (v : Value) (l : List BS) : Prop where
  own : W.ownsRow 0 9 1 v l.length (l.map sv)
  at_ : ∃ g cap, v = .slice (some ⟨g, 0, none⟩) l.length cap ∧ lo ≤ g ∧ g < hi
theorem Rw.kp {S : Nat → Prop} {W W' : World} {lo hi : Nat} {v : Value} {l : List BS} (h : Rw W lo hi v l) (hk : Kp S W W') (hS : ∀ q, lo ≤ q → q < hi → ¬ S q) : Rw W' lo hi v l :=
  ⟨owns_kp hk h.own (fun q hq => by
    obtain ⟨g, cap, hv, h1, h2⟩ := h.at_
    rw [hv] at hq
    have : q = g := by simpa [Value.ownBlock] using hq.symm
    subst this
    exact hS q h1 h2), h.at_⟩
theorem Rw.bel {W W' : World} {lo hi : Nat} {v : Value} {l : List BS} (h : Rw W lo hi v l) (hb : Below W.heap.size W W') : Rw W' lo hi v l := h.kp (S := fun _ => False) (Kp.of_below hb) (fun _ _ _ h => h)
theorem Rw.ls {W : World} {lo hi : Nat} {v : Value} {l : List BS} (h : Rw W lo hi v l) : Ls W v l := owns_ls h.own
theorem Tl.few {w : World} {tb b g n : Nat} {f : BS → Int} {ks : List BS} (h : Tl w tb b g n f) (hs : Sup f ks) : ks.length ≤ n := by
  obtain ⟨D, hown, _, h2⟩ := h.ta
  obtain ⟨ks', hs', hl⟩ := owns_sup hown h2
  have := (hs.perm hs').length_eq
  have := hown.size_le
  omega
/-- Keys, as a list of the call's own. -/
theorem keys_rw {x : Tb} {n : Nat} {f : BS → Int} (w : World) (h : Tl w x.t x.b x.g n f) (ho : OrdOk x.g (cf 0)) (hn : n * 16 ≤ 140737488355328) :
    Calls Try.prog 11 #[tp x] w fun e w' => ∃ (p : Option Addr) (cap : Nat) (K : List BS), K.length ≤ n ∧ e = .returned (.slice p K.length cap) ∧ Hid ((∃ ks, Sup f ks ∧ K = srt (cf 0) ks) ∧ Rw w' w.heap.size w'.heap.size (.slice p K.length cap) K ∧ Below w.heap.size w w') := by
  refine (keys_any w h ho hn).mono ?_
  rintro e w1 ⟨gb, cap, ks, hs, rfl, how, hb⟩
  refine ⟨_, cap, srt (cf 0) ks, by rw [srt_length]; exact h.few hs, rfl, ⟨ks, hs, rfl⟩, ⟨owns_base how (Nat.zero_le _), gb, cap, rfl, ?_⟩, hb⟩
  exact how.lt gb rfl
theorem srt_same {f : BS → Int} {K K' : List BS} {g : Nat} (ho : OrdOk g (cf 0)) (h : ∃ ks, Sup f ks ∧ K = srt (cf 0) ks) (h' : ∃ ks, Sup f ks ∧ K' = srt (cf 0) ks) : K = K' := by
  obtain ⟨a, ha, rfl⟩ := h
  obtain ⟨b, hb, rfl⟩ := h'
  exact srt_of_perm ho.swo ho.tot (ha.perm hb)
theorem owns_empty (w : World) : (w.alloc (.cells #[] 9)).ownsRow w.heap.size 9 1 (.slice (some ⟨w.heap.size, 0, none⟩) 0 0) 0 [] :=
  ⟨rfl, Or.inr ⟨w.heap.size, 0, #[], rfl, Nat.le_refl _, heap_alloc_new _ _, Nat.le_refl _, by unfold maxLen; omega, rfl, rfl⟩⟩
/-- 'append([]string{}, l...)'. -/
theorem wpClone {w : World} {ops : Array Oper} {rest : List Oper} {o : Oper} {a : Act} {Q : Exit → Act → World → Prop} (hgd : o.guard = none) (s y : Operand)
    (ho : o.op = .call { callee := .builtin .append, args := #[s, y], argTypes := #[32, 32] })
    (hs : a.eval s = .slice (some ⟨w.heap.size, 0, none⟩) 0 0) (v : Value) (lo hi : Nat) (l : List BS) (hy : a.eval y = v) (hv : Rw w lo hi v l) (hl : l.length ≤ 100000)
    (h : ∀ (p : Option Addr) (cap : Nat) (w' : World), Hid (Rw w' w.heap.size w'.heap.size (.slice p l.length cap) l ∧ Below w.heap.size w w') → wpList Try.prog ops Q rest (a.put o.dst (.slice p l.length cap)) w') :
    wpList Try.prog ops Q (o :: rest) a (w.alloc (.cells #[] 9)) := by
  obtain ⟨i0, hi, hz0, hz1, hz2⟩ := info_parts infoS
  obtain ⟨g, cap, rfl, h1, h2⟩ := hv.at_
  have hgl : g < w.heap.size := (hv.own.lt g rfl).2
  refine wpList_append_own_at _ hgd s y 32 ho w.heap.size 9 i0 (.string ⟨#[]⟩) 1 16 Try.underlying32 hi hz0 hz1 hz2 rfl (by decide) _ 0 [] hs (owns_empty w) ⟨g, 0, none⟩ l.length cap (l.map sv) hy (by simp) (fun j u hj => ?_) (fun u hu => ?_) (by unfold maxLen; omega) (by omega) (by simp) ?_
  · rw [addP]
    have := hv.own.cells (g := g) rfl j u hj
    rw [addP] at this
    exact (((Gr.refl w).alloc _).cell hgl).trans this
  · obtain ⟨x, _, rfl⟩ := List.mem_map.1 hu
    rfl
  · intro v' w' ho' hg' hnil _
    rw [Nat.zero_add, List.nil_append] at ho'
    rcases ho'.2 with ⟨h0, _⟩ | ⟨g', cap', cur, rfl, hg1, hh, _⟩
    · exact absurd (hnil.1 h0).1 (by simp)
    · refine h _ _ w' ⟨⟨owns_base ho' (Nat.zero_le _), g', cap', rfl, hg1, (Array.getElem?_eq_some_iff.1 hh).1⟩, ?_⟩
      exact ((Gr.refl w).alloc _).below.trans ((Kp.grownBy (S := fun k => w.heap.size ≤ k) hg' (fun k hk => by simp [Value.ownBlock] at hk; omega)).below (by simp) (fun _ h => h))
theorem copy_tb {x : Tb} {n : Nat} {f : BS → Int} (w : World) (h : Tl w x.t x.b x.g n f) :
    Calls Try.prog 15 #[tp x] w fun e w' => ∃ y : Tb, e = .returned (tp y) ∧ w.heap.size ≤ y.t ∧ w.heap.size ≤ y.b ∧ y.g = x.g ∧ Tl w' y.t y.b y.g n f ∧ Gr w w' := by
  refine (copy_any w h).mono ?_
  rintro e w1 ⟨rfl, ht, hg⟩
  exact ⟨⟨_, _, x.g⟩, rfl, Nat.le_succ _, Nat.le_refl _, rfl, ht, hg⟩
end Go.Proofs.Ytplbcamliiajdaa
