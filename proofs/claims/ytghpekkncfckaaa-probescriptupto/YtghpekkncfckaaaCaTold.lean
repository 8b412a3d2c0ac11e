import Derived.Test.YtghpekkncfckaaaCaSrt
import Derived.Test.YtghpekkncfckaaaCaFn
namespace Go.Proofs.Ytghpekkncfckaaa.Ca
open Go.RowKit Go.Sort
attribute [local go_sem ↓] Go.wp_at_zero Go.wp_at_succ

theorem filter_take_succ {α : Type} {p : α → Bool} {l : List α} {j : Nat} {y : α} (h : l[j]? = some y) : (l.take (j + 1)).filter p = (l.take j).filter p ++ (if p y then [y] else []) := by
  rw [List.take_add_one, h, List.filter_append]
  cases hp : p y <;> simp [hp]
/-- A probe: its block, its own list of all that was caught, as it came; all its blocks are in S. -/
structure Pb (w : World) (S : Nat → Prop) (pb : Nat) (l : List Ct) : Prop where
  blk : ∃ v, w.heap[pb]? = some (.cells #[v] 68 (0, 0)) ∧ w.ownsRow 0 36 5 v l.length (fl EC l) ∧ (∀ g, v.ownBlock = some g → S g ∧ g ≠ pb)
  self : S pb
theorem Pb.kp {S T : Nat → Prop} {w w' : World} {pb : Nat} {l : List Ct} (h : Pb w S pb l) (hk : Kp T w w') (hT : ∀ k, S k → ¬ T k) : Pb w' S pb l := by
  obtain ⟨v, h1, h2, h3⟩ := h.blk
  exact ⟨⟨v, (hk.block pb (tk_lt h1) (hT pb h.self)).trans h1, owns_kp hk h2 (fun k e => hT k (h3 k e).1), h3⟩, h.self⟩
theorem Pb.below {S : Nat → Prop} {w w' : World} {pb : Nat} {l : List Ct} (h : Pb w S pb l) (hb : Below w.heap.size w w') : Pb w' S pb l := h.kp (T := fun _ => False) (Kp.of_below hb) (fun _ _ h => h)
theorem Pb.mono {S T : Nat → Prop} {w : World} {pb : Nat} {l : List Ct} (h : Pb w S pb l) (hT : ∀ k, k < w.heap.size → S k → T k) : Pb w T pb l := by
  obtain ⟨v, h1, h2, h3⟩ := h.blk
  exact ⟨⟨v, h1, h2, fun g hg => ⟨hT g (h2.lt g hg).2 (h3 g hg).1, (h3 g hg).2⟩⟩, hT pb (tk_lt h1) h.self⟩
theorem Pb.lt {S : Nat → Prop} {w : World} {pb : Nat} {l : List Ct} (h : Pb w S pb l) : pb < w.heap.size := by
  obtain ⟨v, h1, _⟩ := h.blk
  exact tk_lt h1
/-- A question: at every later world it answers p. -/
def Ask (g : Nat) (lb : Array Value) (p : Ct → Bool) (w : World) : Prop := ∀ (W : World) (x : Ct), Below w.heap.size w W → Calls Try.prog g (#[cv x] ++ lb) W fun e w' => e = .returned (.bool (p x)) ∧ Gr W w'
set_option maxHeartbeats 4000000 in
set_option maxRecDepth 100000 in
theorem told_any {S : Nat → Prop} {pb : Nat} {l : List Ct} (g : Nat) (lb : Array Value) (p : Ct → Bool) (w : World) (h : Pb w S pb l) (hl : l.length * 40 ≤ 140737488355328) (eg : ∀ args w, (callFunc g args).run Try.prog w = .ok (.enter g args) w) (hp : Ask g lb p w) :
    Calls Try.prog 30 #[.pointer (some ⟨pb, 0, none⟩), .func (.func g) #[] lb] w fun e w' => ∃ v, e = .returned v ∧ Hid (w'.ownsRow w.heap.size 36 5 v (srt (l.filter p)).length (fl EC (srt (l.filter p))) ∧ Below w.heap.size w w') := by
  obtain ⟨v0, h1, h2, _⟩ := h.blk
  have c0 := (tk_store h1).1 0
  have hpl := tk_lt h1
  have HLS : Hid (Ls EC w v0 l) := owns_ls (E := EC) h2
  have HP := hid hp
  have HL := hid hl
  obtain ⟨pv, cv0, hv0⟩ := HLS.out.form
  obtain ⟨n, hn⟩ : ∃ n, n = l.length := ⟨_, rfl⟩
  rw [← hn] at hv0 hl
  have hnb : n ≤ 3518437208883 := by omega
  subst hv0
  have HN := hid hn
  clear h h1 h2 hp hn hl
  have c0' : w.cell? ⟨pb, 0, none⟩ = some (.slice pv n cv0) := c0
  clear c0
  go_enter Try.func30, Try.ntmps30
  go_wp2_with fail
  go_loopw [5, 7, 15] (fun s5 _ s15 wr => ∃ i : Nat, i ≤ n ∧ s15 = .int .i64 (i : Nat) ∧ Hid (wr.ownsRow w.heap.size 36 5 s5 ((l.take i).filter p).length (fl EC ((l.take i).filter p)) ∧ Below w.heap.size w wr)) (fun _ _ s15 _ => n - (RowKit.intOf s15).toNat)
  case atStart => exact ⟨0, Nat.zero_le _, rfl, World.ownsRow_nil _ _ _ _, Below.refl _ _⟩
  case round =>
    obtain ⟨i, hi, rfl, HI⟩ := hrel
    by_cases hlt : i < n
    · have hz : (i : Int) < (n : Int) := by omega
      have hi0 : (0 : Int) ≤ (i : Int) := by omega
      obtain ⟨x, hx⟩ : ∃ x, l[i]? = some x := ⟨l[i]'(by have := HN.out; omega), by simp⟩
      obtain ⟨b1, o1, q1, e1, l1, x0, x1, x2, x3, x4⟩ := atC (HLS.out.below HI.out.2) hx
      simp only [Value.slice.injEq] at e1
      obtain ⟨rfl, -, rfl⟩ := e1
      have HF : Hid ((l.take (i + 1)).filter p = (l.take i).filter p ++ (if p x then [x] else [])) := filter_take_succ hx
      have HFL : Hid (((l.take i).filter p).length ≤ i) := Nat.le_trans (List.length_filter_le _ _) (by rw [List.length_take]; omega)
      clear hx
      obtain ⟨W2, hW2⟩ : ∃ W2, W2 = wr.alloc (.cells #[.int .u64 x.a, .int .u64 x.b, .int .u64 x.c, .int .u64 x.k, .int .u64 x.v] 36) := ⟨_, rfl⟩
      obtain ⟨b2, hb2⟩ : ∃ b2, b2 = wr.heap.size := ⟨_, rfl⟩
      have HG2 : Hid (Gr wr W2) := by rw [hW2]; exact (Gr.refl _).alloc _
      obtain ⟨t0, t1, t2, t3, t4⟩ : Cc W2 b2 0 x := by rw [hW2, hb2]; exact cc_new wr x
      have hbl : b2 < W2.heap.size := by rw [hW2, hb2]; simp
      have hc := HP.out W2 x (HI.out.2.trans (HG2.out.below.mono HI.out.2.size))
      have HQ : Hid (p x = p x) := rfl
      obtain ⟨q, hq⟩ : ∃ q, q = p x := ⟨_, rfl⟩
      rw [← hq] at hc HF
      have HPQ := hid hq
      clear hq HQ
      go_upto_region 7 with fail
      rw [← hW2, ← hb2]
      clear hW2 hb2
      cases q with
      | true =>
        go_wp2_with fail
        refine hc.mono ?_
        rintro e w3 ⟨rfl, hg3⟩
        have HG3 : Hid (Gr wr w3) := HG2.out.trans hg3
        have t0' := (hg3.cell hbl).trans t0
        have t1' := (hg3.cell hbl).trans t1
        have t2' := (hg3.cell hbl).trans t2
        have t3' := (hg3.cell hbl).trans t3
        have t4' := (hg3.cell hbl).trans t4
        have HROW : Hid (w3.ownsRow w.heap.size 36 5 u5 ((l.take i).filter p).length (fl EC ((l.take i).filter p))) := owns_below HI.out.1 HG3.out.below
        have HBD : Hid ((((l.take i).filter p).length + 1) * 40 ≤ 140737488355328 ∧ ((l.take i).filter p).length + 1 ≤ maxLen ∧ w.heap.size ≤ w3.heap.size) := ⟨by have h1 := HFL.out; have h2 := HL.out; have h3 := HN.out; omega, by have h1 := HFL.out; unfold maxLen; omega, Nat.le_trans HI.out.2.size HG3.out.size⟩
        have HB3 : Hid (Below w.heap.size w w3) := HI.out.2.trans (HG3.out.below.mono HI.out.2.size)
        obtain ⟨m, hm⟩ : ∃ m, m = ((l.take i).filter p).length := ⟨_, rfl⟩
        obtain ⟨L, hL⟩ : ∃ L, L = (l.take i).filter p := ⟨_, rfl⟩
        have HF' := HF.out
        rw [← hL] at HROW HBD hm HF'
        rw [← hm] at HROW HBD
        have HF2 := hid HF'
        have HM := hid hm
        clear hm hL hg3 t0 t1 t2 t3 t4 HF HI HFL HF'
        go_wp2_with (at_builtin; refine wpApp1 EC Try.underlying22 infoC rfl (by decide) rfl _ _ rfl w.heap.size _ m _ rfl HROW.out x (by first | rfl | (go_simp; done)) HBD.out.1 HBD.out.2.1 HBD.out.2.2 _ rfl _ ?_)
        intro g6 c6 w4 ho4 hg4 hn4
        have HO4 := hid ho4
        have HG4 := hid hg4
        clear ho4 hg4 hn4
        go_wp2_with fail
        go_roundw
        case rel =>
          refine ⟨i + 1, hlt, by simp, ?_⟩
          rw [HF2.out]
          refine ⟨owns_re HO4.out (by rw [HM.out]; simp) (by rw [fl_append]; simp [fl_one]), ?_⟩
          exact HB3.out.trans ((Kp.grownBy (S := fun k => w.heap.size ≤ k) HG4.out (fun k hk => (HROW.out.lt k hk).1)).below HB3.out.size (fun _ h => h))
        case measure => simp [RowKit.intOf]; omega
      | false =>
        go_wp2_with fail
        refine hc.mono ?_
        rintro e w3 ⟨rfl, hg3⟩
        have HG3 : Hid (Gr wr w3) := HG2.out.trans hg3
        clear hg3
        go_wp2_with fail
        go_roundw
        case rel =>
          refine ⟨i + 1, hlt, by simp, ?_⟩
          rw [HF.out]
          exact ⟨owns_re (owns_below HI.out.1 HG3.out.below) (by simp) (by simp), HI.out.2.trans (HG3.out.below.mono HI.out.2.size)⟩
        case measure => simp [RowKit.intOf]; omega
    · have hz : ¬ ((i : Int) < (n : Int)) := by omega
      have hin : l.take i = l := List.take_of_length_le (by have := HN.out; omega)
      have HI' := HI.out
      rw [hin] at HI'
      have hs := sort_any wr HI'.1 (by have := HN.out; have := List.length_filter_le p l; omega)
      have HI2 := hid HI'
      clear HI' HI hin
      go_wp2_with fail
      refine hs.mono ?_
      rintro e w5 ⟨rfl, H5⟩
      go_wp2
      go_ret
      refine ⟨_, rfl, ?_⟩
      rw [srt_len]
      exact ⟨H5.out.1, HI2.out.2.trans (H5.out.2.below HI2.out.2.size (fun k e => (HI2.out.1.lt k e).1))⟩
end Go.Proofs.Ytghpekkncfckaaa.Ca
