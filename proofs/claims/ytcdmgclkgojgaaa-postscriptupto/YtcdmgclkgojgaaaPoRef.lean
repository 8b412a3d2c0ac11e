import Derived.Test.YtcdmgclkgojgaaaPoRefP
import Derived.WalkMore
namespace Go.Proofs.Ytcdmgclkgojgaaa.Pi
open Go.RowKit Go.Sort
attribute [local go_sem ↓] Go.wp_at_zero Go.wp_at_succ

/-- The document's things in a row. -/
def EH : El Tg where
  k := 3
  enc x := [.int .i64 x.1, .int .i64 x.2.1, .int .i64 x.2.2]
  len _ := rfl
  one x u hu := by
    simp at hu
    rcases hu with rfl | rfl | rfl <;> rfl
theorem h_at {w : World} {v : Value} {ts : List Tg} (h : Ls EH w v ts) {j : Nat} {x : Tg} (hj : ts[j]? = some x) :
    ∃ b off c, v = .slice (some ⟨b, off, none⟩) ts.length c ∧ b < w.heap.size ∧ w.cell? ⟨b, off + j * 3, none⟩ = some (.int .i64 x.1) ∧ w.cell? ⟨b, off + j * 3 + 1, none⟩ = some (.int .i64 x.2.1) ∧ w.cell? ⟨b, off + j * 3 + 2, none⟩ = some (.int .i64 x.2.2) := by
  obtain ⟨b, off, c, hv, hb, hc⟩ := h.get hj
  exact ⟨b, off, c, hv, hb, hc 0 _ (by decide) rfl, hc 1 _ (by decide) rfl, hc 2 _ (by decide) rfl⟩
theorem infoH : (Try.prog.info? 109).map (fun i => (i.zero, i.size, i.bytes)) = some (some (.agg #[.int .i64 0, .int .i64 0, .int .i64 0]), 3, 24) := by kernel_rfl
/-- The document's post. -/
structure Rv (w : World) (rb W : Nat) (v : Value) (L : List Tg) : Prop where
  blk : w.heap[rb]? = some (.cells #[.int .i64 (W : Nat), v] 68 (0, 0))
  own : w.ownsRow 0 109 3 v L.length (fl EH L)
  off : v.ownBlock ≠ some rb
section
variable {w w' : World} {rb W : Nat} {v : Value} {L : List Tg}
theorem Rv.lt (h : Rv w rb W v L) : rb < w.heap.size := (Array.getElem?_eq_some_iff.1 h.blk).1
theorem Rv.c0 (h : Rv w rb W v L) : w.cell? ⟨rb, 0, none⟩ = some (.int .i64 (W : Nat)) := by simp [World.cell?, h.blk]
theorem Rv.c1 (h : Rv w rb W v L) : w.cell? ⟨rb, 1, none⟩ = some v := by simp [World.cell?, h.blk]
theorem Rv.fz (h : Rv w rb W v L) (o : Nat) : w.frozen? ⟨rb, o, none⟩ = false := by simp [World.frozen?, h.blk]
theorem Rv.lst (h : Rv w rb W v L) : Ls EH w v L := owns_ls (E := EH) h.own
theorem Rv.kp {S : Nat → Prop} (h : Rv w rb W v L) (hk : Kp S w w') (h1 : ¬ S rb) (h2 : ∀ k, v.ownBlock = some k → ¬ S k) : Rv w' rb W v L :=
  ⟨(hk.block rb h.lt h1).trans h.blk, owns_kp hk h.own h2, h.off⟩
theorem Rv.below (h : Rv w rb W v L) (hb : Below w.heap.size w w') : Rv w' rb W v L := h.kp (S := fun _ => False) (Kp.of_below hb) (fun h => h) (fun _ _ h => h)
theorem Rv.gr (h : Rv w rb W v L) (hb : Gr w w') : Rv w' rb W v L := h.below hb.below
theorem Rv.form (h : Rv w rb W v L) : ∃ p c, v = .slice p L.length c := h.lst.form
/-- Its list is another one. -/
theorem Rv.set {w3 : World} {u : Value} {L' : List Tg} (h : Rv w rb W v L) (ho : w3.ownsRow 0 109 3 u L'.length (fl EH L')) (hk : Kp (fun k => v.ownBlock = some k) w w3) (hn : ∀ g, u.ownBlock = some g → v.ownBlock = some g ∨ w.heap.size ≤ g) :
    Rv (w3.setCell ⟨rb, 1, none⟩ u) rb W u L' ∧ Kp (fun k => k = rb ∨ v.ownBlock = some k) w (w3.setCell ⟨rb, 1, none⟩ u) := by
  have hb3 := (hk.block rb h.lt h.off).trans h.blk
  obtain ⟨e1, e2, _⟩ := setCell_blk (k := 1) (v := u) hb3
  have hu : u.ownBlock ≠ some rb := fun e => by
    rcases hn rb e with h1 | h1
    · exact h.off h1
    · exact absurd h.lt (by omega)
  exact ⟨⟨by simpa using e1, owns_kp e2 ho (fun k hk e => hu (e ▸ hk)), hu⟩, (hk.mono (fun _ h => Or.inr h)).trans e2 (fun _ _ h => Or.inl h)⟩
end
set_option maxHeartbeats 2000000 in
theorem rlink_any {rb W : Nat} (f t : Int) (w : World) (_hl : rb < w.heap.size) (c0 : w.cell? ⟨rb, 0, none⟩ = some (.int .i64 (W : Nat))) : Calls Try.prog 60 #[.pointer (some ⟨rb, 0, none⟩), .int .i64 f, .int .i64 t] w fun e w' => e = .returned (.bool (decide (Lnk W f t))) ∧ w' = w := by
  by_cases f0 : 0 ≤ f
  · by_cases fw : f < (W : Int)
    · by_cases t0 : 0 ≤ t
      · by_cases tw : t < (W : Int)
        · have e : decide (Lnk W f t) = (f != t) := by
            rw [Bool.eq_iff_iff, decide_eq_true_iff]
            simp only [bne_iff_ne]
            exact ⟨fun h => h.2.2, fun h => ⟨⟨f0, fw⟩, ⟨t0, tw⟩, h⟩⟩
          rw [e]
          clear e
          go_enter Try.func60, Try.ntmps60
          go_wp2
          go_ret
          exact ⟨rfl, rfl⟩
        · rw [decide_eq_false (fun h : Lnk W f t => tw h.2.1.2)]
          go_enter Try.func60, Try.ntmps60
          go_wp2
          go_ret
          exact ⟨rfl, rfl⟩
      · rw [decide_eq_false (fun h : Lnk W f t => t0 h.2.1.1)]
        go_enter Try.func60, Try.ntmps60
        go_wp2
        go_ret
        exact ⟨rfl, rfl⟩
    · rw [decide_eq_false (fun h : Lnk W f t => fw h.1.2)]
      go_enter Try.func60, Try.ntmps60
      go_wp2
      go_ret
      exact ⟨rfl, rfl⟩
  · rw [decide_eq_false (fun h : Lnk W f t => f0 h.1.1)]
    go_enter Try.func60, Try.ntmps60
    go_wp2
    go_ret
    exact ⟨rfl, rfl⟩
/-- Places as numbers. -/
abbrev ni (l : List Nat) : List Int := l.map fun (i : Nat) => (i : Int)
set_option maxHeartbeats 4000000 in
theorem ron_any {rb W : Nat} {v : Value} {L : List Tg} (f t : Int) (w : World) (h : Rv w rb W v L) (hL : L.length * 24 ≤ 140737488355328) : Calls Try.prog 27 #[.pointer (some ⟨rb, 0, none⟩), .int .i64 f, .int .i64 t] w fun e w' => ∃ p c, e = .returned (.slice p (vals f t L).length c) ∧ Ls ET w' (.slice p (vals f t L).length c) (ni (ons f t L L.length)) ∧ Below w.heap.size w w' := by
  obtain ⟨pv, cv, rfl⟩ := h.form
  have HR := hid h
  have hlb : L.length ≤ 5864062014806 := by omega
  rw [← ons_length]
  clear h hL
  go_enter Try.func27, Try.ntmps27
  go_wp2_with fail
  go_loopw [7, 8] (fun s7 s8 wr => ∃ (i : Nat) (p : Option Addr) (c : Nat), i ≤ L.length ∧ s8 = .int .i64 i ∧ s7 = .slice p (ons f t L i).length c ∧ Hid (wr.ownsRow w.heap.size 3 1 (.slice p (ons f t L i).length c) (ons f t L i).length (fl ET (ni (ons f t L i))) ∧ Below w.heap.size w wr)) (fun _ s8 _ => L.length - (RowKit.intOf s8).toNat)
  case atStart => exact ⟨0, none, 0, Nat.zero_le _, rfl, rfl, owns_nil _ _ _ _, (Gr.refl _).below⟩
  case round =>
    obtain ⟨i, p, c, hi, rfl, rfl, H⟩ := hrel
    have HRr := hid (HR.out.below H.out.2)
    have c1 := HRr.out.c1
    have hl := HRr.out.lt
    by_cases hlt : i < L.length
    · have hltz : (i : Int) < (L.length : Int) := by omega
      have i0 : (0 : Int) ≤ (i : Int) := by omega
      obtain ⟨x, hx⟩ : ∃ x, L[i]? = some x := ⟨L[i], by rw [List.getElem?_eq_getElem]⟩
      obtain ⟨b1, o1, c1', e1, z1, x0, x1, -⟩ := h_at HRr.out.lst hx
      simp only [Value.slice.injEq] at e1
      obtain ⟨rfl, -, rfl⟩ := e1
      have HH : Hid (hit f t L i = decide (x.1 = f ∧ x.2.1 = t)) := by show _ = _; unfold hit; rw [hx]
      have HOS : Hid (ons f t L (i + 1) = ons f t L i ++ (if hit f t L i then [i] else [])) := rfl
      have HLE := hid (ons_le f t L i)
      obtain ⟨l, hl9⟩ : ∃ l, l = ons f t L i := ⟨_, rfl⟩
      rw [← hl9] at H HOS HLE ⊢
      clear hx hl9
      by_cases hf : x.1 = f
      · have hfb : (x.1 == f) = true := by simp [hf]
        by_cases ht : x.2.1 = t
        · have htb : (x.2.1 == t) = true := by simp [ht]
          have HE : Hid (ons f t L (i + 1) = l ++ [i]) := by have := HOS.out; rw [HH.out, decide_eq_true (⟨hf, ht⟩ : x.1 = f ∧ x.2.1 = t), if_pos rfl] at this; exact this
          clear hf ht
          obtain ⟨n, hn⟩ : ∃ n, n = l.length := ⟨_, rfl⟩
          rw [← hn] at H HLE ⊢
          have HN := hid hn
          clear hn
          go_wp2_with (at_builtin; refine wpApp1 ET Try.underlying63 infoI rfl (by decide) rfl _ _ rfl w.heap.size _ n _ rfl H.out.1 (i : Int) (by first | rfl | (go_simp; done)) (by have := HLE.out; omega) (by have := HLE.out; unfold maxLen; omega) H.out.2.size _ rfl _ ?_)
          intro g cap w3 ho3 hg3 hn3
          have H3 : Hid (w3.ownsRow w.heap.size 3 1 (.slice (some ⟨g, 0, none⟩) (n + 1) cap) (l ++ [i]).length (fl ET (ni (l ++ [i]))) ∧ Below w.heap.size w w3) := by
            refine ⟨owns_re ho3 (by rw [HN.out]; simp) (by rw [show ni (l ++ [i]) = ni l ++ [(i : Int)] from List.map_append, fl_append, fl_one]), H.out.2.trans ((Kp.grownBy (S := fun k => w.heap.size ≤ k) hg3 (fun k hk => (H.out.1.lt k hk).1)).below H.out.2.size (fun _ h => h))⟩
          clear ho3 hg3 hn3 x0 x1 z1 c1 hl
          go_wp2_with fail
          go_roundw
          case rel =>
            refine ⟨i + 1, some ⟨g, 0, none⟩, cap, hlt, by simp, ?_, ?_⟩
            · rw [HE.out, List.length_append, HN.out]; rfl
            · show _ ∧ _
              have h3 := H3.out
              rw [HE.out]
              refine ⟨?_, h3.2⟩
              have h4 := h3.1
              rw [HN.out] at h4
              rw [show (l ++ [i]).length = l.length + 1 by simp] at h4 ⊢
              exact h4
          case measure => simp [RowKit.intOf]; omega
        · have htb : (x.2.1 == t) = false := by simp [ht]
          have HE : Hid (ons f t L (i + 1) = l) := by have := HOS.out; rw [HH.out, decide_eq_false (fun h : x.1 = f ∧ x.2.1 = t => ht h.2), if_neg (by decide), List.append_nil] at this; exact this
          clear hf ht
          go_wp2_with fail
          go_roundw
          case rel => exact ⟨i + 1, p, c, hlt, by simp, by rw [HE.out], by show _ ∧ _; rw [HE.out]; exact H.out⟩
          case measure => simp [RowKit.intOf]; omega
      · have hfb : (x.1 == f) = false := by simp [hf]
        have HE : Hid (ons f t L (i + 1) = l) := by have := HOS.out; rw [HH.out, decide_eq_false (fun h : x.1 = f ∧ x.2.1 = t => hf h.1), if_neg (by decide), List.append_nil] at this; exact this
        clear hf
        go_wp2_with fail
        go_roundw
        case rel => exact ⟨i + 1, p, c, hlt, by simp, by rw [HE.out], by show _ ∧ _; rw [HE.out]; exact H.out⟩
        case measure => simp [RowKit.intOf]; omega
    · have hltz : ¬ (i : Int) < (L.length : Int) := by omega
      have hil : i = L.length := by omega
      subst hil
      go_wp2
      go_ret
      have hls := owns_ls (E := ET) (ts := ni (ons f t L L.length)) (by rw [List.length_map]; exact H.out.1)
      exact ⟨_, _, rfl, hls, H.out.2⟩
end Go.Proofs.Ytcdmgclkgojgaaa.Pi
