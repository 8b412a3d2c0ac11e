import Derived.Test.YtgojhhdjpkilmaaVRR0
import Derived.Test.YtgojhhdjpkilmaaVReads
import Derived.Test.YtgojhhdjpkilmaaVTak
namespace Go.Proofs.Ytgojhhdjpkilmaa.Wi
open Go.RowKit Go.Sort
attribute [local go_sem ↓] Go.wp_at_zero Go.wp_at_succ

theorem bok_newR {w : World} {kb : Nat} (V : Nat → Value) (C : Nat → List UInt8) (h : w.heap[kb]? = some (.cells #[.slice none 0 0, .slice none 0 0] 56 (0, 0))) : Bok w kb (.slice none 0 0) (.slice none 0 0) 0 V C :=
  ⟨h, World.ownsRow_nil _ _ _ _, World.ownsRow_nil _ _ _ _, ⟨fun i hi => by omega, fun i j hi => by omega⟩, by simp [Value.ownBlock], by simp [Value.ownBlock], by simp [Value.ownBlock], fun q ⟨i, hi, _⟩ => by omega⟩
theorem xor_byte (y : Int) : ∃ x : UInt8, bits .xor .u8 y 85 = (x.toNat : Int) := by
  obtain ⟨n, hn⟩ : ∃ n : Int, bits .xor .u8 y 85 = IntKind.u8.wrap n := ⟨_, rfl⟩
  rw [hn, IntKind.wrap_u8]
  exact ⟨UInt8.ofNat (n % 256).toNat, by rw [u8_of (by omega)]; omega⟩
set_option maxHeartbeats 4000000 in
set_option maxRecDepth 100000 in
theorem rr_any {v1 v2 v3 : Value} {f s : List UInt8} {os : List Opw} (w : World) (hF : Ls EB w v1 f) (hG : Ls EB w v2 s) (hS : ScrAt w v3 os) (hf : f.length ≤ 140737488351232) (hs : s.length ≤ 140737488351232) (hlen : os.length * 56 ≤ 140737488351232) :
    Calls Try.prog 7 #[v1, v2, v3] w fun e w' => e = .returned (.bool true) ∧ Below w.heap.size w w' := by
  have hmx : Try.prog.follows .mixedOrders = true := by kernel_rfl
  obtain ⟨p, c, rfl, hcell⟩ := hS
  have HC := hid hcell
  have HF := hid hF
  have HG := hid hG
  clear hcell hF hG
  go_enter Try.func7, Try.ntmps7
  go_wp2_with fail
  refine (taken_any _).mono ?_
  rintro r w1 ⟨rfl, hb1⟩
  have B1 := hid hb1
  have hle := lent_any w1 (Or.inl (HF.out.below hb1)) (by omega)
  clear hb1
  go_wp2_with fail
  refine hle.mono ?_
  rintro r w2 ⟨g, cap, rfl, hL2, b2⟩
  have B2 : Hid (Below w.heap.size w w2) := B1.out.trans (b2.mono B1.out.size)
  have LN := hid hL2
  have GG : Hid (w.heap.size ≤ g ∧ g < w2.heap.size) := ⟨Nat.le_trans B1.out.size hL2.ge.1, hL2.ge.2⟩
  have hnr := newreader_any w2 hL2.ls (by omega)
  clear hL2 b2 hle B1
  go_wp2_with fail
  refine hnr.mono ?_
  rintro r w3 ⟨pb, dp, rfl, hge3, hR3, hd3, b3⟩
  have R3 := hid hR3
  have P3 : Hid (w2.heap.size ≤ pb ∧ pb < w3.heap.size ∧ ∀ k, dp.ownBlock = some k → w2.heap.size ≤ k ∧ k < w3.heap.size) := ⟨hge3, hR3.lt, fun k hk => ⟨hd3 k hk, hR3.ls.blk k hk⟩⟩
  have B3 : Hid (Below w.heap.size w w3) := B2.out.trans (b3.mono B2.out.size)
  have LN3 := hid (LN.out.kp (S := fun _ => False) (Kp.of_below b3) (fun h => h))
  clear hnr hge3 hR3 hd3 b3 LN
  go_wp2_with (at_builtin; refine wpBL rfl _ _ rfl w3.heap.size _ [] rfl (World.ownsRow_made w3 #[] 0 (Nat.le_refl _) (Nat.zero_le _) rfl) _ s rfl (Or.inl ((HG.out.below B3.out).below ((Gr.refl _).alloc _).below)) (by simp; omega) (by simp) ?_)
  intro v4 w4 h4 t4
  have hal := ((Gr.refl w3).alloc (.cells #[] 5)).below
  have B34 : Hid (Below w3.heap.size w3 w4) := hal.trans (t4.out.1.below hal.size (fun k hk => by simp [Value.ownBlock] at hk; omega))
  have hls4 : Ls EB w4 v4 s := by simpa using ow_ls (owns_base h4.out (Nat.zero_le _))
  have hnr := newreader_any w4 hls4 (by omega)
  clear h4 t4 hal hls4
  go_wp2_with fail
  refine hnr.mono ?_
  rintro r w5 ⟨qb, dq, rfl, hge5, hR5, hd5, b5⟩
  have B35 : Hid (Below w3.heap.size w3 w5) := B34.out.trans (b5.mono B34.out.size)
  have R5 := hid (R3.out.below B35.out)
  have Q5 := hid hR5
  have P5 : Hid (w3.heap.size ≤ qb ∧ qb < w5.heap.size ∧ ∀ k, dq.ownBlock = some k → w3.heap.size ≤ k ∧ k < w5.heap.size) := ⟨Nat.le_trans B34.out.size hge5, hR5.lt, fun k hk => ⟨Nat.le_trans B34.out.size (hd5 k hk), hR5.ls.blk k hk⟩⟩
  have B5 : Hid (Below w.heap.size w w5) := B3.out.trans (B35.out.mono B3.out.size)
  have LN5 := hid (LN3.out.kp (S := fun _ => False) (Kp.of_below B35.out) (fun h => h))
  have Z35 : Hid (w2.heap.size ≤ w3.heap.size ∧ w3.heap.size ≤ w5.heap.size) := ⟨Nat.le_of_lt (Nat.lt_of_le_of_lt P3.out.1 P3.out.2.1), B35.out.size⟩
  have hkp := kept_any w5 (Or.inl (HF.out.below B5.out)) LN5.out (by omega)
  clear hnr hge5 hR5 hd5 b5 B34 B35 R3 LN3 B3 B2
  go_wp2_with fail
  refine hkp.mono ?_
  rintro r w6 ⟨rfl, g6⟩
  have R6 := hid (R5.out.gr g6)
  have Q6 := hid (Q5.out.gr g6)
  have B6 : Hid (Below w.heap.size w w6) := B5.out.trans (g6.below.mono B5.out.size)
  have Z56 := hid g6.size
  have OW6 : Hid (∃ M : List UInt8, M.length = f.length + 2 ∧ w6.ownsRow 0 5 1 (.slice (some ⟨g, 0, none⟩) (f.length + 2) cap) (f.length + 2) (fl EB M)) := ⟨f ++ [195, 60], by simp, owns_below (owns_base LN5.out.own (Nat.zero_le _)) g6.below⟩
  clear g6 hkp R5 Q5 B5 LN5
  go_wp2_with fail
  go_loopw [10] (fun s10 wr => ∃ i : Nat, i ≤ f.length ∧ s10 = .int .i64 i ∧ Hid (Kp (fun q => q = g) w6 wr ∧ ∃ M : List UInt8, M.length = f.length + 2 ∧ wr.ownsRow 0 5 1 (.slice (some ⟨g, 0, none⟩) (f.length + 2) cap) (f.length + 2) (fl EB M))) (fun s10 _ => f.length - (RowKit.intOf s10).toNat)
  case atStart => exact ⟨0, Nat.zero_le _, rfl, Kp.refl _ _, OW6.out⟩
  case round =>
    clear OW6
    obtain ⟨i, hi, rfl, HI⟩ := hrel
    by_cases hlt : i < f.length
    · have hltz : (i : Int) < (f.length : Int) := by omega
      obtain ⟨hk, M, hM, hown⟩ := HI.out
      obtain ⟨y, hy⟩ : ∃ y, M[i]? = some y := ⟨M[i]'(by omega), by simp⟩
      have q1 : wr.cell? ⟨g, i, none⟩ = some (bv y) := by
        have := hown.cells (g := g) rfl i _ (fl_eb _ i y hy)
        rw [addA, Nat.zero_add] at this
        exact this
      have gl2 : g < wr.heap.size := (hown.lt g rfl).2
      have f1 := owns_frozen0 hown i
      obtain ⟨x, hx⟩ := xor_byte (y.toNat : Int)
      obtain ⟨n1, n2⟩ := owns_cell0 (q := i) (bv x) hown
      rw [flB_set] at n1
      have HN : Hid (Kp (fun q => q = g) w6 (wr.setCell ⟨g, i, none⟩ (bv x)) ∧ ∃ M : List UInt8, M.length = f.length + 2 ∧ (wr.setCell ⟨g, i, none⟩ (bv x)).ownsRow 0 5 1 (.slice (some ⟨g, 0, none⟩) (f.length + 2) cap) (f.length + 2) (fl EB M)) := ⟨hk.trans n2 (fun _ _ h => h), M.set i x, by rw [List.length_set]; exact hM, n1⟩
      clear hk hM hown hy n1 n2 HI
      go_wp2_with fail
      go_roundw
      case rel => exact ⟨i + 1, by omega, by go_num, HN.out⟩
      case measure => simp [RowKit.intOf]; omega
    · have hltz : ¬ (i : Int) < (f.length : Int) := by omega
      have K7 := hid HI.out.1
      have B7 : Hid (Below w.heap.size w wr) := B6.out.trans (K7.out.below B6.out.size (fun k hk => by subst hk; exact GG.out.1))
      have R7 : Hid (Rd wr pb dp f 0 0) := R6.out.kp K7.out (fun e => by have := P3.out.1; have := GG.out.2; omega) (fun k hk e => by have := (P3.out.2.2 k hk).1; have := GG.out.2; omega)
      have Q7 : Hid (Rd wr qb dq s 0 0) := Q6.out.kp K7.out (fun e => by have := P5.out.1; have := GG.out.2; have := Z35.out; omega) (fun k hk e => by have := (P5.out.2.2 k hk).1; have := GG.out.2; have := Z35.out; omega)
      have Z57 : Hid (w5.heap.size ≤ wr.heap.size) := Nat.le_trans Z56.out K7.out.size
      have hr1 := rnewreader_any wr (HF.out.below B7.out) (by omega)
      clear HI K7 R6 Q6 B6 Z56
      generalize wr = w7 at *
      go_wp2_with fail
      refine hr1.mono ?_
      rintro r w8 ⟨r1, dr1, rfl, hge8, hR8, hd8, b8⟩
      have S8 := hid hR8
      have P8 : Hid (w7.heap.size ≤ r1 ∧ r1 < w8.heap.size ∧ ∀ k, dr1.ownBlock = some k → w7.heap.size ≤ k ∧ k < w8.heap.size) := ⟨hge8, hR8.lt, fun k hk => ⟨hd8 k hk, hR8.ls.blk k hk⟩⟩
      have R8 := hid (R7.out.below b8)
      have Q8 := hid (Q7.out.below b8)
      have B8 : Hid (Below w.heap.size w w8) := B7.out.trans (b8.mono B7.out.size)
      have hr2 := rnewreader_any w8 (HG.out.below B8.out) (by omega)
      clear hr1 hge8 hR8 hd8 b8 R7 Q7
      go_wp2_with fail
      refine hr2.mono ?_
      rintro r w9 ⟨r2, dr2, rfl, hge9, hR9, hd9, b9⟩
      have P9 : Hid (w8.heap.size ≤ r2 ∧ r2 < w9.heap.size ∧ ∀ k, dr2.ownBlock = some k → w8.heap.size ≤ k ∧ k < w9.heap.size) := ⟨hge9, hR9.lt, fun k hk => ⟨hd9 k hk, hR9.ls.blk k hk⟩⟩
      have T9 := hid hR9
      have S9 := hid (S8.out.below b9)
      have R9 := hid (R8.out.below b9)
      have Q9 := hid (Q8.out.below b9)
      have B9 : Hid (Below w.heap.size w w9) := B8.out.trans (b9.mono B8.out.size)
      clear hr2 hge9 hR9 hd9 b9 S8 R8 Q8
      obtain ⟨W, hW⟩ : ∃ W, W = w9.alloc (.cells #[.slice none 0 0, .slice none 0 0] 56) := ⟨_, rfl⟩
      obtain ⟨kb, hkb⟩ : ∃ kb, kb = w9.heap.size := ⟨_, rfl⟩
      have I0 : Hid (RRI w W ⟨pb, r1, dp, dr1, f, 0, 0⟩ ⟨qb, r2, dq, dr2, s, 0, 0⟩ ⟨kb, .slice none 0 0, .slice none 0 0, 0, fun _ => .slice none 0 0, fun _ => []⟩ 140737488351232 0) := by
        have gW : Gr w9 W := by rw [hW]; exact (Gr.refl _).alloc _
        have hbk : W.heap[kb]? = some (.cells #[.slice none 0 0, .slice none 0 0] 56 (0, 0)) := by rw [hW, hkb]; exact heap_new' _ _
        have a1 := GG.out
        have a2 := P3.out
        have a3 := P5.out
        have a4 := P8.out
        have a5 := P9.out
        have a6 := Z35.out
        have a7 := Z57.out
        have r1' : ∀ q, PS pb r1 dp dr1 q → (w2.heap.size ≤ q ∧ q < w3.heap.size) ∨ (w7.heap.size ≤ q ∧ q < w8.heap.size) := fun q h => by
          rcases h with h | h | h | h
          · left; omega
          · right; omega
          · left; exact a2.2.2 q h
          · right; exact a4.2.2 q h
        have r2' : ∀ q, PS qb r2 dq dr2 q → (w3.heap.size ≤ q ∧ q < w5.heap.size) ∨ (w8.heap.size ≤ q ∧ q < w9.heap.size) := fun q h => by
          rcases h with h | h | h | h
          · left; omega
          · right; omega
          · left; exact a3.2.2 q h
          · right; exact a5.2.2 q h
        have ks : ∀ q, KS kb (.slice none 0 0) (.slice none 0 0) 0 (fun _ => .slice none 0 0) q → q = kb := fun q h => by
          rcases h with h | h | h | ⟨i, hi, _⟩
          · exact h
          · simp [Value.ownBlock] at h
          · simp [Value.ownBlock] at h
          · omega
        refine ⟨⟨R9.out.gr gW, S9.out.below gW.below, ?_, fun e => ?_, fun e => ?_⟩, ⟨Q9.out.gr gW, T9.out.below gW.below, ?_, fun e => ?_, fun e => ?_⟩, bok_newR _ _ hbk, fun q h1 h2 => ?_, fun q h1 h2 => ?_, fun q h1 h2 => ?_, fun q h1 => ?_, B9.out.trans (gW.below.mono B9.out.size), hf, hs, Nat.le_refl _, fun j hj => by simp at hj⟩
        · show pb ≠ r1; omega
        · have := a4.2.2 pb e; omega
        · have := a2.2.2 r1 e; omega
        · show qb ≠ r2; omega
        · have := a5.2.2 qb e; omega
        · have := a3.2.2 r2 e; omega
        · have e1 := r1' q h1; have e2 := r2' q h2; omega
        · have e1 := r1' q h1; have e2 := ks q h2; omega
        · have e1 := r2' q h1; have e2 := ks q h2; omega
        · rcases h1 with h1 | h1 | h1
          · have e1 := r1' q h1; omega
          · have e1 := r2' q h1; omega
          · have e1 := ks q h1; omega
      clear R9 S9 Q9 T9 P3 P5 P8 P9 Z35 Z57 GG B7 B8 B9
      go_wp2_with fail
      rw [← hW, ← hkb]
      clear hW hkb
      go_loopw [14, 15] (fun s14 _ wr => ∃ (i : Nat) (p1 p2 : Qv) (k : Bq), i ≤ os.length ∧ s14 = .int .i64 i ∧ Hid (p1.pb = pb ∧ p1.rb = r1 ∧ p2.pb = qb ∧ p2.rb = r2 ∧ k.kb = kb ∧ RRI w wr p1 p2 k 140737488351232 i)) (fun s14 _ _ => os.length - (RowKit.intOf s14).toNat)
      case atStart => exact ⟨0, _, _, _, Nat.zero_le _, rfl, rfl, rfl, rfl, rfl, rfl, I0.out⟩
      case round =>
        clear I0
        obtain ⟨i, p1, p2, k, hi, rfl, HI⟩ := hrel
        by_cases hlt : i < os.length
        · have hltz : (i : Int) < (os.length : Int) := by omega
          obtain ⟨o, ho⟩ : ∃ o, os[i]? = some o := ⟨os[i], by rw [List.getElem?_eq_getElem]⟩
          obtain ⟨hok, b, off, rfl, hb, c0, c1, c2, c3, c4⟩ := HC.out i o ho
          have e : ∀ j, wr.cell? ⟨b, j, none⟩ = w.cell? ⟨b, j, none⟩ := fun j => HI.out.2.2.2.2.2.bl.cell (p := ⟨b, j, none⟩) hb
          rw [← e] at c0 c1 c2 c3 c4
          have hb' : b < wr.heap.size := Nat.lt_of_lt_of_le hb HI.out.2.2.2.2.2.bl.size
          have HOK := hid (hok.below HI.out.2.2.2.2.2.bl)
          clear e hok ho
          obtain ⟨kind, two, vv, z, u, l⟩ := o
          simp only at c0 c1 c2 c3 c4
          cases two
          · obtain ⟨q1, q2, q3, q4, q5, hI⟩ := HI.out
            have hwr := reads_any _ wr hI.wk HOK.out (by have := hI.cn; omega)
            rw [q1, q2, q5] at hwr
            have HX := hid (fun (w' : World) vr' at' e' sl' sw' n' V' C' (h : Qs wr w' pb r1 p1.dp p1.vr p1.L kb k.sl k.sw k.n k.V k.C vr' at' e' sl' sw' n' V' C') => show ∃ p1' p2' k', p1'.pb = pb ∧ p1'.rb = r1 ∧ p2'.pb = qb ∧ p2'.rb = r2 ∧ k'.kb = kb ∧ RRI w w' p1' p2' k' 140737488351232 (i + 1) from
              ⟨⟨p1.pb, p1.rb, p1.dp, vr', p1.L, at', e'⟩, p2, ⟨k.kb, sl', sw', n', V', C'⟩, q1, q2, q3, q4, q5, hI.step (by rw [q1, q2, q5]; exact h)⟩)
            clear hI q1 q2 q3 q4 q5 HI
            go_wp2_with fail
            refine hwr.mono ?_
            rintro r w5 ⟨rfl, vr', at', e', sl', sw', n', V', C', h5⟩
            have H5 := hid (HX.out _ _ _ _ _ _ _ _ _ h5)
            clear h5 hwr HX
            go_wp2_with fail
            go_roundw
            case rel =>
              obtain ⟨p1', p2', k', h6⟩ := H5.out
              exact ⟨i + 1, p1', p2', k', by omega, by go_num, h6⟩
            case measure => simp [RowKit.intOf]; omega
          · obtain ⟨q1, q2, q3, q4, q5, hI0⟩ := HI.out
            have hI := hI0.swap
            have hwr := reads_any _ wr hI.wk HOK.out (by have := hI.cn; omega)
            rw [q3, q4, q5] at hwr
            have HX := hid (fun (w' : World) vr' at' e' sl' sw' n' V' C' (h : Qs wr w' qb r2 p2.dp p2.vr p2.L kb k.sl k.sw k.n k.V k.C vr' at' e' sl' sw' n' V' C') => show ∃ p1' p2' k', p1'.pb = pb ∧ p1'.rb = r1 ∧ p2'.pb = qb ∧ p2'.rb = r2 ∧ k'.kb = kb ∧ RRI w w' p1' p2' k' 140737488351232 (i + 1) from
              ⟨p1, ⟨p2.pb, p2.rb, p2.dp, vr', p2.L, at', e'⟩, ⟨k.kb, sl', sw', n', V', C'⟩, q1, q2, q3, q4, q5, (hI.step (by rw [q3, q4, q5]; exact h)).swap⟩)
            clear hI hI0 q1 q2 q3 q4 q5 HI
            go_wp2_with fail
            refine hwr.mono ?_
            rintro r w5 ⟨rfl, vr', at', e', sl', sw', n', V', C', h5⟩
            have H5 := hid (HX.out _ _ _ _ _ _ _ _ _ h5)
            clear h5 hwr HX
            go_wp2_with fail
            go_roundw
            case rel =>
              obtain ⟨p1', p2', k', h6⟩ := H5.out
              exact ⟨i + 1, p1', p2', k', by omega, by go_num, h6⟩
            case measure => simp [RowKit.intOf]; omega
        · have hltz : ¬ (i : Int) < (os.length : Int) := by omega
          obtain ⟨q1, q2, q3, q4, q5, hI⟩ := HI.out
          have hwh := whole_any wr hI.ok (by have := hI.cn; omega) (fun j hj => by have := hI.cl j hj; omega)
          rw [q5] at hwh
          have HJ := hid hI
          clear hI q1 q2 q3 q4 q5 HI
          go_wp2_with fail
          refine hwh.mono ?_
          rintro r w5 ⟨rfl, k5⟩
          have B5 : Hid (Below w.heap.size w w5) := HJ.out.bl.trans (k5.below HJ.out.bl.size (fun q hq => HJ.out.ge q (Or.inr (Or.inr (Or.inr (Or.inr (Or.inr hq)))))))
          clear k5 hwh HJ
          go_wp2_with fail
          go_ret
          exact ⟨rfl, B5.out⟩
end Go.Proofs.Ytgojhhdjpkilmaa.Wi
