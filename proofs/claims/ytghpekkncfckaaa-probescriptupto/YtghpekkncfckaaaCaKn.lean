import Derived.Test.YtghpekkncfckaaaCaEq
import Derived.Test.YtghpekkncfckaaaCaNil
namespace Go.Proofs.Ytghpekkncfckaaa.Ca
open Go.RowKit Go.Sort
attribute [local go_sem ↓] Go.wp_at_zero Go.wp_at_succ

def L4 : List Ct := [⟨2, 0, 0, 1, 1⟩, ⟨1, 0, 0, 5, 9⟩, ⟨1, 0, 0, 5, 8⟩, ⟨1, 0, 0, 5, 8⟩]
def M4 : List Ct := [⟨1, 0, 0, 5, 8⟩, ⟨1, 0, 0, 5, 8⟩, ⟨1, 0, 0, 5, 9⟩, ⟨2, 0, 0, 1, 1⟩]
theorem k_srt : srt L4 = M4 := srt_eq (by unfold Sd; decide) (by decide)
theorem k_cnt : L4.count ⟨1, 0, 0, 5, 8⟩ = 2 := by decide
theorem k_upto : (M4.filter fun x => bel x.t (1, 0, 0)) = [⟨1, 0, 0, 5, 8⟩, ⟨1, 0, 0, 5, 8⟩, ⟨1, 0, 0, 5, 9⟩] := by decide
theorem k_done : (M4.filter fun x => !opn [(2, 0, 0)] x.t) = [⟨1, 0, 0, 5, 8⟩, ⟨1, 0, 0, 5, 8⟩, ⟨1, 0, 0, 5, 9⟩] := by decide
theorem k_of : (M4.filter fun x => decide (x.k = 1)) = [⟨2, 0, 0, 1, 1⟩] := by decide
/-- A list that was laid as a literal. -/
theorem ls_lit {α : Type} {E : El α} {w : World} {b : Nat} {l : List α} {cs : Array Value} {ty : TypeId} (h : w.heap[b]? = some (.cells cs ty (0, 0))) (hc : cs.toList = fl E l) (n c : Nat) (hn : n = l.length) : Ls E w (.slice (some ⟨b, 0, none⟩) n c) l := by
  subst hn
  refine .inr ⟨b, 0, c, rfl, (Array.getElem?_eq_some_iff.1 h).1, fun j u hj => ?_⟩
  rw [← hc] at hj
  simp only [World.cell?, h, Nat.zero_add]
  simpa using hj
theorem Tld.ls {w w' : World} {m : List Ct} {v : Value} (h : Tld w m v w') : Ls EC w' v m := owns_ls (E := EC) h.1
set_option maxHeartbeats 8000000 in
set_option maxRecDepth 100000 in
theorem known_any (w : World) : Calls Try.prog 7 #[] w fun e w' => e = .returned (.bool true) ∧ Below w.heap.size w w' := by
  have hnew := new_any w
  go_enter Try.func7, Try.ntmps7
  go_wp2_with fail
  refine hnew.mono ?_
  rintro e W1 ⟨pb, rfl, H1⟩
  have HP1 : Hid (Pb W1 (fun k => w.heap.size ≤ k) pb []) := H1.out.1
  have HB1 : Hid (Below w.heap.size w W1) := H1.out.2
  clear hnew H1
  go_wp2_with fail
  refine (caught_any 2 1 1 W1).mono ?_
  rintro e W2 ⟨rfl, g2⟩
  have B2 : Below W1.heap.size W1 W2 := g2.below
  have HB2 : Hid (Below w.heap.size w W2) := HB1.out.trans (B2.mono HB1.out.size)
  have HP2 : Hid (Pb W2 (fun k => w.heap.size ≤ k) pb []) := HP1.out.below B2
  clear B2 HB1 HP1
  clear g2
  go_wp2_with fail
  refine (caught_any 1 5 9 W2).mono ?_
  rintro e W3 ⟨rfl, g3⟩
  have B3 : Below W2.heap.size W2 W3 := g3.below
  have HB3 : Hid (Below w.heap.size w W3) := HB2.out.trans (B3.mono HB2.out.size)
  have HP3 : Hid (Pb W3 (fun k => w.heap.size ≤ k) pb []) := HP2.out.below B3
  clear B3 HB2 HP2
  clear g3
  go_wp2_with fail
  refine (caught_any 1 5 8 W3).mono ?_
  rintro e W4 ⟨rfl, g4⟩
  have B4 : Below W3.heap.size W3 W4 := g4.below
  have HB4 : Hid (Below w.heap.size w W4) := HB3.out.trans (B4.mono HB3.out.size)
  have HP4 : Hid (Pb W4 (fun k => w.heap.size ≤ k) pb []) := HP3.out.below B4
  clear B4 HB3 HP3
  clear g4
  go_wp2_with fail
  refine (caught_any 1 5 8 W4).mono ?_
  rintro e W5 ⟨rfl, g5⟩
  have B5 : Below W4.heap.size W4 W5 := g5.below
  have HB5 : Hid (Below w.heap.size w W5) := HB4.out.trans (B5.mono HB4.out.size)
  have HP5 : Hid (Pb W5 (fun k => w.heap.size ≤ k) pb []) := HP4.out.below B5
  clear B5 HB4 HP4
  clear g5
  obtain ⟨W6, hW6⟩ : ∃ V, V = W5.alloc (.cells #[.int .u64 2, .int .u64 0, .int .u64 0, .int .u64 1, .int .u64 1, .int .u64 1, .int .u64 0, .int .u64 0, .int .u64 5, .int .u64 9, .int .u64 1, .int .u64 0, .int .u64 0, .int .u64 5, .int .u64 8, .int .u64 1, .int .u64 0, .int .u64 0, .int .u64 5, .int .u64 8] 36) := ⟨_, rfl⟩
  obtain ⟨b6, hb6⟩ : ∃ b, b = W5.heap.size := ⟨_, rfl⟩
  have L6_a0 : Hid (Ls EC W6 (.slice (some ⟨b6, 0, none⟩) 4 4) L4) := ls_lit (by rw [hW6, hb6]; exact heap_new' _ _) rfl _ _ rfl
  have B6 : Below W5.heap.size W5 W6 := by rw [hW6]; exact ((Gr.refl _).alloc _).below
  have HB6 : Hid (Below w.heap.size w W6) := HB5.out.trans (B6.mono HB5.out.size)
  have HP6 : Hid (Pb W6 (fun k => w.heap.size ≤ k) pb []) := HP5.out.below B6
  clear B6 HB5 HP5
  have L6_a := L6_a0
  clear L6_a0
  have hc := catch_any W6 HP6.out L6_a.out (by decide)
  go_wp2_with fail
  rw [← hW6, ← hb6]
  clear hW6 hb6
  refine hc.mono ?_
  clear hc
  rintro e W7 ⟨rfl, H7⟩
  have HP7 : Hid (Pb W7 (fun k => w.heap.size ≤ k) pb L4) := H7.out.1.mono (fun k _ h => h.elim (fun h => h) (fun h => Nat.le_trans HB6.out.size h))
  have HB7 : Hid (Below w.heap.size w W7) := HB6.out.trans (H7.out.2.below HB6.out.size (fun _ h => h))
  clear H7 HB6 HP6 L6_a
  have hc := all_any W7 HP7.out (by decide)
  rw [k_srt] at hc
  go_wp2_with fail
  refine hc.mono ?_
  clear hc
  rintro e W8 ⟨p8, c8, rfl, H8⟩
  have L8_p0 : Hid (Ls EC W8 (.slice p8 4 c8) M4) := Tld.ls H8.out
  have B8 : Below W7.heap.size W7 W8 := H8.out.2
  have HB8 : Hid (Below w.heap.size w W8) := HB7.out.trans (B8.mono HB7.out.size)
  have HP8 : Hid (Pb W8 (fun k => w.heap.size ≤ k) pb L4) := HP7.out.below B8
  clear B8 HB7 HP7
  have L8_p := L8_p0
  clear L8_p0 H8
  go_wp2_with fail
  refine (caught_any 1 5 8 W8).mono ?_
  rintro e W9 ⟨rfl, g9⟩
  have B9 : Below W8.heap.size W8 W9 := g9.below
  have HB9 : Hid (Below w.heap.size w W9) := HB8.out.trans (B9.mono HB8.out.size)
  have HP9 : Hid (Pb W9 (fun k => w.heap.size ≤ k) pb L4) := HP8.out.below B9
  have L9_p : Hid (Ls EC W9 (.slice p8 4 c8) M4) := L8_p.out.below B9
  clear L8_p
  clear B9 HB8 HP8
  clear g9
  go_wp2_with fail
  refine (caught_any 1 5 8 W9).mono ?_
  rintro e W10 ⟨rfl, g10⟩
  have B10 : Below W9.heap.size W9 W10 := g10.below
  have HB10 : Hid (Below w.heap.size w W10) := HB9.out.trans (B10.mono HB9.out.size)
  have HP10 : Hid (Pb W10 (fun k => w.heap.size ≤ k) pb L4) := HP9.out.below B10
  have L10_p : Hid (Ls EC W10 (.slice p8 4 c8) M4) := L9_p.out.below B10
  clear L9_p
  clear B10 HB9 HP9
  clear g10
  go_wp2_with fail
  refine (caught_any 1 5 9 W10).mono ?_
  rintro e W11 ⟨rfl, g11⟩
  have B11 : Below W10.heap.size W10 W11 := g11.below
  have HB11 : Hid (Below w.heap.size w W11) := HB10.out.trans (B11.mono HB10.out.size)
  have HP11 : Hid (Pb W11 (fun k => w.heap.size ≤ k) pb L4) := HP10.out.below B11
  have L11_p : Hid (Ls EC W11 (.slice p8 4 c8) M4) := L10_p.out.below B11
  clear L10_p
  clear B11 HB10 HP10
  clear g11
  go_wp2_with fail
  refine (caught_any 2 1 1 W11).mono ?_
  rintro e W12 ⟨rfl, g12⟩
  have B12 : Below W11.heap.size W11 W12 := g12.below
  have HB12 : Hid (Below w.heap.size w W12) := HB11.out.trans (B12.mono HB11.out.size)
  have HP12 : Hid (Pb W12 (fun k => w.heap.size ≤ k) pb L4) := HP11.out.below B12
  have L12_p : Hid (Ls EC W12 (.slice p8 4 c8) M4) := L11_p.out.below B12
  clear L11_p
  clear B12 HB11 HP11
  clear g12
  obtain ⟨W13, hW13⟩ : ∃ V, V = W12.alloc (.cells #[.int .u64 1, .int .u64 0, .int .u64 0, .int .u64 5, .int .u64 8, .int .u64 1, .int .u64 0, .int .u64 0, .int .u64 5, .int .u64 8, .int .u64 1, .int .u64 0, .int .u64 0, .int .u64 5, .int .u64 9, .int .u64 2, .int .u64 0, .int .u64 0, .int .u64 1, .int .u64 1] 36) := ⟨_, rfl⟩
  obtain ⟨b13, hb13⟩ : ∃ b, b = W12.heap.size := ⟨_, rfl⟩
  have L13_q0 : Hid (Ls EC W13 (.slice (some ⟨b13, 0, none⟩) 4 4) M4) := ls_lit (by rw [hW13, hb13]; exact heap_new' _ _) rfl _ _ rfl
  have B13 : Below W12.heap.size W12 W13 := by rw [hW13]; exact ((Gr.refl _).alloc _).below
  have HB13 : Hid (Below w.heap.size w W13) := HB12.out.trans (B13.mono HB12.out.size)
  have HP13 : Hid (Pb W13 (fun k => w.heap.size ≤ k) pb L4) := HP12.out.below B13
  have L13_p : Hid (Ls EC W13 (.slice p8 4 c8) M4) := L12_p.out.below B13
  clear L12_p
  clear B13 HB12 HP12
  have L13_q := L13_q0
  clear L13_q0
  have hc := same_eq W13 L13_p.out L13_q.out (by decide)
  go_wp2_with fail
  rw [← hW13, ← hb13]
  clear hW13 hb13
  refine hc.mono ?_
  clear hc
  rintro e W14 ⟨rfl, g14⟩
  have B14 : Below W13.heap.size W13 W14 := g14.below
  have HB14 : Hid (Below w.heap.size w W14) := HB13.out.trans (B14.mono HB13.out.size)
  have HP14 : Hid (Pb W14 (fun k => w.heap.size ≤ k) pb L4) := HP13.out.below B14
  have L14_p : Hid (Ls EC W14 (.slice p8 4 c8) M4) := L13_p.out.below B14
  clear L13_p
  have L14_q : Hid (Ls EC W14 (.slice (some ⟨b13, 0, none⟩) 4 4) M4) := L13_q.out.below B14
  clear L13_q
  clear B14 HB13 HP13
  clear g14 L14_p L14_q
  have hc := len_any W14 HP14.out
  go_wp2_with fail
  refine hc.mono ?_
  clear hc
  rintro e w' ⟨rfl, hw⟩
  rw [hw]
  clear hw w'
  go_wp2_with fail
  refine (caught_any 1 5 8 W14).mono ?_
  rintro e W15 ⟨rfl, g15⟩
  have B15 : Below W14.heap.size W14 W15 := g15.below
  have HB15 : Hid (Below w.heap.size w W15) := HB14.out.trans (B15.mono HB14.out.size)
  have HP15 : Hid (Pb W15 (fun k => w.heap.size ≤ k) pb L4) := HP14.out.below B15
  clear B15 HB14 HP14
  clear g15
  have hc := count_any ⟨1, 0, 0, 5, 8⟩ W15 HP15.out (by decide)
  rw [k_cnt] at hc
  go_wp2_with fail
  refine hc.mono ?_
  clear hc
  rintro e W16 ⟨rfl, g16⟩
  have B16 : Below W15.heap.size W15 W16 := g16.below
  have HB16 : Hid (Below w.heap.size w W16) := HB15.out.trans (B16.mono HB15.out.size)
  have HP16 : Hid (Pb W16 (fun k => w.heap.size ≤ k) pb L4) := HP15.out.below B16
  clear B16 HB15 HP15
  clear g16
  have hc := upto_any (1, 0, 0) W16 HP16.out (by decide)
  rw [k_srt, k_upto] at hc
  go_wp2_with fail

  refine hc.mono ?_
  clear hc
  rintro e W17 ⟨p17, n17, c17, rfl, H17⟩
  obtain rfl : n17 = 3 := H17.out.2
  have L17_u0 : Hid (Ls EC W17 (.slice p17 3 c17) [⟨1, 0, 0, 5, 8⟩, ⟨1, 0, 0, 5, 8⟩, ⟨1, 0, 0, 5, 9⟩]) := Tld.ls H17.out.1
  have B17 : Below W16.heap.size W16 W17 := H17.out.1.2
  have HB17 : Hid (Below w.heap.size w W17) := HB16.out.trans (B17.mono HB16.out.size)
  have HP17 : Hid (Pb W17 (fun k => w.heap.size ≤ k) pb L4) := HP16.out.below B17
  clear B17 HB16 HP16
  have L17_u := L17_u0
  clear L17_u0 H17
  obtain ⟨W18, hW18⟩ : ∃ V, V = W17.alloc (.cells #[.int .u64 2, .int .u64 0, .int .u64 0] 25) := ⟨_, rfl⟩
  obtain ⟨b18, hb18⟩ : ∃ b, b = W17.heap.size := ⟨_, rfl⟩
  have L18_t0 : Hid (Ls ET W18 (.slice (some ⟨b18, 0, none⟩) 1 1) [(2, 0, 0)]) := ls_lit (by rw [hW18, hb18]; exact heap_new' _ _) rfl _ _ rfl
  have B18 : Below W17.heap.size W17 W18 := by rw [hW18]; exact ((Gr.refl _).alloc _).below
  have HB18 : Hid (Below w.heap.size w W18) := HB17.out.trans (B18.mono HB17.out.size)
  have HP18 : Hid (Pb W18 (fun k => w.heap.size ≤ k) pb L4) := HP17.out.below B18
  have L18_u : Hid (Ls EC W18 (.slice p17 3 c17) [⟨1, 0, 0, 5, 8⟩, ⟨1, 0, 0, 5, 8⟩, ⟨1, 0, 0, 5, 9⟩]) := L17_u.out.below B18
  clear L17_u
  clear B18 HB17 HP17
  have L18_t := L18_t0
  clear L18_t0
  have hc := done_any W18 HP18.out (by decide) L18_t.out (by decide)
  rw [k_srt, k_done] at hc
  go_wp2_with fail
  rw [← hW18, ← hb18]
  clear hW18 hb18
  refine hc.mono ?_
  clear hc
  rintro e W19 ⟨p19, n19, c19, rfl, H19⟩
  obtain rfl : n19 = 3 := H19.out.2
  have L19_d0 : Hid (Ls EC W19 (.slice p19 3 c19) [⟨1, 0, 0, 5, 8⟩, ⟨1, 0, 0, 5, 8⟩, ⟨1, 0, 0, 5, 9⟩]) := Tld.ls H19.out.1
  have B19 : Below W18.heap.size W18 W19 := H19.out.1.2
  have HB19 : Hid (Below w.heap.size w W19) := HB18.out.trans (B19.mono HB18.out.size)
  have HP19 : Hid (Pb W19 (fun k => w.heap.size ≤ k) pb L4) := HP18.out.below B19
  have L19_u : Hid (Ls EC W19 (.slice p17 3 c17) [⟨1, 0, 0, 5, 8⟩, ⟨1, 0, 0, 5, 8⟩, ⟨1, 0, 0, 5, 9⟩]) := L18_u.out.below B19
  clear L18_u
  have L19_t : Hid (Ls ET W19 (.slice (some ⟨b18, 0, none⟩) 1 1) [(2, 0, 0)]) := L18_t.out.below B19
  clear L18_t
  clear B19 HB18 HP18
  have L19_d := L19_d0
  clear L19_d0 H19
  have hc := same_eq W19 L19_u.out L19_d.out (by decide)
  go_wp2_with fail
  refine hc.mono ?_
  clear hc
  rintro e W20 ⟨rfl, g20⟩
  have B20 : Below W19.heap.size W19 W20 := g20.below
  have HB20 : Hid (Below w.heap.size w W20) := HB19.out.trans (B20.mono HB19.out.size)
  have HP20 : Hid (Pb W20 (fun k => w.heap.size ≤ k) pb L4) := HP19.out.below B20
  have L20_u : Hid (Ls EC W20 (.slice p17 3 c17) [⟨1, 0, 0, 5, 8⟩, ⟨1, 0, 0, 5, 8⟩, ⟨1, 0, 0, 5, 9⟩]) := L19_u.out.below B20
  clear L19_u
  have L20_t : Hid (Ls ET W20 (.slice (some ⟨b18, 0, none⟩) 1 1) [(2, 0, 0)]) := L19_t.out.below B20
  clear L19_t
  have L20_d : Hid (Ls EC W20 (.slice p19 3 c19) [⟨1, 0, 0, 5, 8⟩, ⟨1, 0, 0, 5, 8⟩, ⟨1, 0, 0, 5, 9⟩]) := L19_d.out.below B20
  clear L19_d
  clear B20 HB19 HP19
  clear g20 L20_u L20_d L20_t
  have hc := of_any 1 W20 HP20.out (by decide)
  rw [k_srt, k_of] at hc
  go_wp2_with fail

  refine hc.mono ?_
  clear hc
  rintro e W21 ⟨p21, n21, c21, rfl, H21⟩
  obtain rfl : n21 = 1 := H21.out.2
  have L21_o0 : Hid (Ls EC W21 (.slice p21 1 c21) [⟨2, 0, 0, 1, 1⟩]) := Tld.ls H21.out.1
  have B21 : Below W20.heap.size W20 W21 := H21.out.1.2
  have HB21 : Hid (Below w.heap.size w W21) := HB20.out.trans (B21.mono HB20.out.size)
  have HP21 : Hid (Pb W21 (fun k => w.heap.size ≤ k) pb L4) := HP20.out.below B21
  clear B21 HB20 HP20
  have L21_o := L21_o0
  clear L21_o0 H21
  have hc := upto_any (1, 0, 0) W21 HP21.out (by decide)
  rw [k_srt, k_upto] at hc
  go_wp2_with fail

  refine hc.mono ?_
  clear hc
  rintro e W22 ⟨p22, n22, c22, rfl, H22⟩
  obtain rfl : n22 = 3 := H22.out.2
  have L22_v0 : Hid (Ls EC W22 (.slice p22 3 c22) [⟨1, 0, 0, 5, 8⟩, ⟨1, 0, 0, 5, 8⟩, ⟨1, 0, 0, 5, 9⟩]) := Tld.ls H22.out.1
  have B22 : Below W21.heap.size W21 W22 := H22.out.1.2
  have HB22 : Hid (Below w.heap.size w W22) := HB21.out.trans (B22.mono HB21.out.size)
  have HP22 : Hid (Pb W22 (fun k => w.heap.size ≤ k) pb L4) := HP21.out.below B22
  have L22_o : Hid (Ls EC W22 (.slice p21 1 c21) [⟨2, 0, 0, 1, 1⟩]) := L21_o.out.below B22
  clear L21_o
  clear B22 HB21 HP21
  have L22_v := L22_v0
  clear L22_v0 H22
  clear HP22 L22_o L22_v
  go_wp2_with fail
  refine (caught_any 1 1 1 W22).mono ?_
  rintro e W23 ⟨rfl, g23⟩
  have B23 : Below W22.heap.size W22 W23 := g23.below
  have HB23 : Hid (Below w.heap.size w W23) := HB22.out.trans (B23.mono HB22.out.size)
  clear B23 HB22
  clear g23
  obtain ⟨W24, hW24⟩ : ∃ V, V = W23.alloc (.cells #[.int .u64 1, .int .u64 0, .int .u64 0, .int .u64 1, .int .u64 1] 36) := ⟨_, rfl⟩
  obtain ⟨b24, hb24⟩ : ∃ b, b = W23.heap.size := ⟨_, rfl⟩
  have L24_n0 : Hid (Ls EC W24 (.slice (some ⟨b24, 0, none⟩) 1 1) [⟨1, 0, 0, 1, 1⟩]) := ls_lit (by rw [hW24, hb24]; exact heap_new' _ _) rfl _ _ rfl
  have B24 : Below W23.heap.size W23 W24 := by rw [hW24]; exact ((Gr.refl _).alloc _).below
  have HB24 : Hid (Below w.heap.size w W24) := HB23.out.trans (B24.mono HB23.out.size)
  clear B24 HB23
  have L24_n := L24_n0
  clear L24_n0
  clear L24_n
  go_wp2_with fail
  rw [← hW24, ← hb24]
  clear hW24 hb24
  refine (nCatch_any _).mono ?_
  rintro e w' ⟨rfl, hw⟩
  rw [hw]
  clear hw w'
  go_wp2_with fail
  refine (nAll_any W24).mono ?_
  rintro e W25 ⟨rfl, g25⟩
  have B25 : Below W24.heap.size W24 W25 := g25.below
  have HB25 : Hid (Below w.heap.size w W25) := HB24.out.trans (B25.mono HB24.out.size)
  clear B25 HB24
  clear g25
  go_wp2_with fail
  refine (nUpto_any (0, 0, 0) W25).mono ?_
  rintro e W26 ⟨rfl, g26⟩
  have B26 : Below W25.heap.size W25 W26 := g26.below
  have HB26 : Hid (Below w.heap.size w W26) := HB25.out.trans (B26.mono HB25.out.size)
  clear B26 HB25
  clear g26
  go_wp2_with fail
  refine (nDone_any W26).mono ?_
  rintro e W27 ⟨rfl, g27⟩
  have B27 : Below W26.heap.size W26 W27 := g27.below
  have HB27 : Hid (Below w.heap.size w W27) := HB26.out.trans (B27.mono HB26.out.size)
  clear B27 HB26
  clear g27
  go_wp2_with fail
  refine (nOf_any 1 W27).mono ?_
  rintro e W28 ⟨rfl, g28⟩
  have B28 : Below W27.heap.size W27 W28 := g28.below
  have HB28 : Hid (Below w.heap.size w W28) := HB27.out.trans (B28.mono HB27.out.size)
  clear B28 HB27
  clear g28
  go_wp2_with fail
  refine (caught_any 1 1 1 W28).mono ?_
  rintro e W29 ⟨rfl, g29⟩
  have B29 : Below W28.heap.size W28 W29 := g29.below
  have HB29 : Hid (Below w.heap.size w W29) := HB28.out.trans (B29.mono HB28.out.size)
  clear B29 HB28
  clear g29
  go_wp2_with fail
  refine (nCount_any ⟨1, 0, 0, 1, 1⟩ W29).mono ?_
  rintro e W30 ⟨rfl, g30⟩
  have B30 : Below W29.heap.size W29 W30 := g30.below
  have HB30 : Hid (Below w.heap.size w W30) := HB29.out.trans (B30.mono HB29.out.size)
  clear B30 HB29
  clear g30
  go_wp2_with fail
  refine (nLen_any W30).mono ?_
  rintro e W31 ⟨rfl, g31⟩
  have B31 : Below W30.heap.size W30 W31 := g31.below
  have HB31 : Hid (Below w.heap.size w W31) := HB30.out.trans (B31.mono HB30.out.size)
  clear B31 HB30
  clear g31
  go_wp2_with fail
  refine (nCopy_any W31).mono ?_
  rintro e W32 ⟨rfl, g32⟩
  have B32 : Below W31.heap.size W31 W32 := g32.below
  have HB32 : Hid (Below w.heap.size w W32) := HB31.out.trans (B32.mono HB31.out.size)
  clear B32 HB31
  clear g32
  go_wp2
  go_ret
  exact ⟨rfl, HB32.out⟩
end Go.Proofs.Ytghpekkncfckaaa.Ca
