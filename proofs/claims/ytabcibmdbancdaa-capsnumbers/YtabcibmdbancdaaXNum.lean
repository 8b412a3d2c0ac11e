import Derived.Test.YtabcibmdbancdaaXNum0
namespace Go.Proofs.Ytabcibmdbancdaa
open Go.RowKit Go.Sort Go.Maps
attribute [local go_sem ↓] Go.wp_at_zero Go.wp_at_succ
theorem cells_of {W : World} {B : Nat} {cs : Array Value} {t : TypeId} (h : W.heap[B]? = some (.cells cs t (0, 0))) (i : Nat) (v : Value) (hv : cs[i]? = some v) : W.cell? ⟨B, i, none⟩ = some v := by
  simp only [World.cell?, h]
  simpa using hv
theorem blk_lt {W : World} {B : Nat} {o : Obj} (h : W.heap[B]? = some o) : B < W.heap.size := (Array.getElem?_eq_some_iff.1 h).1
/-- The call, in a box. -/
def Bo (W : World) (B : Nat) (ok on oid p x y z : Int) : Prop := W.heap[B]? = some (.cells #[.int .i64 ok, .int .i64 on, .int .i64 oid, .int .i64 p, .int .u64 x, .int .u64 y, .int .u64 z] 33 (0, 0))
def Bh (W : World) (B : Nat) (id p x y z : Int) : Prop := W.heap[B]? = some (.cells #[.int .i64 id, .int .i64 p, .int .u64 x, .int .u64 y, .int .u64 z] 38 (0, 0))
def Bs (W : World) (B : Nat) (p x y z : Int) : Prop := W.heap[B]? = some (.cells #[.int .i64 p, .int .u64 x, .int .u64 y, .int .u64 z] 31 (0, 0))
theorem Bo.cs {W : World} {B : Nat} {ok on oid p x y z : Int} (h : Bo W B ok on oid p x y z) : B < W.heap.size ∧ W.cell? ⟨B, 0, none⟩ = some (.int .i64 ok) ∧ W.cell? ⟨B, 2, none⟩ = some (.int .i64 oid) ∧ W.cell? ⟨B, 3, none⟩ = some (.int .i64 p) ∧ W.cell? ⟨B, 4, none⟩ = some (.int .u64 x) ∧ W.cell? ⟨B, 5, none⟩ = some (.int .u64 y) ∧ W.cell? ⟨B, 6, none⟩ = some (.int .u64 z) :=
  ⟨blk_lt h, cells_of h 0 _ rfl, cells_of h 2 _ rfl, cells_of h 3 _ rfl, cells_of h 4 _ rfl, cells_of h 5 _ rfl, cells_of h 6 _ rfl⟩
theorem Bh.cs {W : World} {B : Nat} {id p x y z : Int} (h : Bh W B id p x y z) : B < W.heap.size ∧ W.cell? ⟨B, 0, none⟩ = some (.int .i64 id) ∧ W.cell? ⟨B, 1, none⟩ = some (.int .i64 p) ∧ W.cell? ⟨B, 2, none⟩ = some (.int .u64 x) ∧ W.cell? ⟨B, 3, none⟩ = some (.int .u64 y) ∧ W.cell? ⟨B, 4, none⟩ = some (.int .u64 z) :=
  ⟨blk_lt h, cells_of h 0 _ rfl, cells_of h 1 _ rfl, cells_of h 2 _ rfl, cells_of h 3 _ rfl, cells_of h 4 _ rfl⟩
theorem Bs.cs {W : World} {B : Nat} {p x y z : Int} (h : Bs W B p x y z) : B < W.heap.size ∧ W.cell? ⟨B, 0, none⟩ = some (.int .i64 p) ∧ W.cell? ⟨B, 1, none⟩ = some (.int .u64 x) ∧ W.cell? ⟨B, 2, none⟩ = some (.int .u64 y) ∧ W.cell? ⟨B, 3, none⟩ = some (.int .u64 z) :=
  ⟨blk_lt h, cells_of h 0 _ rfl, cells_of h 1 _ rfl, cells_of h 2 _ rfl, cells_of h 3 _ rfl⟩
/-- What holds at the head of the loop. -/
structure Nm (w : World) (tb b : Nat) (n i : Nat) (last : Int) (L : List Hd) (vh : Value) (wr : World) : Prop where
  il : i ≤ n
  im : i ≤ 5000
  ll : last ≤ (i : Int)
  cs : Cs wr tb b 1000000 last L
  row : wr.ownsRow w.heap.size 38 5 vh L.length (fl EH L)
  bw : Below w.heap.size w wr
section
variable {w : World} {tb b n i : Nat} {last : Int} {L : List Hd} {vh : Value} {wr wr' : World}
theorem Nm.len (h : Nm w tb b n i last L vh wr) : L.length ≤ 5000 := by
  have := h.cs.ri.len h.cs.lo
  have := h.ll
  have := h.im
  omega
theorem Nm.gr (h : Nm w tb b n i last L vh wr) (g : Gr wr wr') : Nm w tb b n i last L vh wr' := ⟨h.il, h.im, h.ll, h.cs.gr g, owns_below h.row g.below, h.bw.trans (g.below.mono h.bw.size)⟩
/-- A call on the book: the list stays where it was. -/
theorem Nm.call (h : Nm w tb b n i last L vh wr) (hk : Kp (fun k => k = tb ∨ k = b) wr wr') (htb : w.heap.size ≤ tb) (hb : w.heap.size ≤ b) : wr'.ownsRow w.heap.size 38 5 vh L.length (fl EH L) ∧ Below w.heap.size w wr' :=
  ⟨owns_kp hk h.row (fun k hk hs => by have := h.cs.apart h.row hk; omega), h.bw.trans (hk.below h.bw.size (fun k hs => by rcases hs with rfl | rfl <;> assumption))⟩
/-- A box at the heap's end is no block of the book's, nor the list's. -/
theorem Nm.off (h : Nm w tb b n i last L vh wr) {B : Nat} (hB : wr.heap.size ≤ B) : B ≠ tb ∧ B ≠ b ∧ vh.ownBlock ≠ some B := by
  have h1 := h.cs.lt
  have h2 := h.cs.mp.lt
  refine ⟨by omega, by omega, fun e => ?_⟩
  have := (h.row.lt B e).2
  omega
end
set_option maxRecDepth 100000 in
set_option maxHeartbeats 60000000 in
theorem capsNumbers_any (v : Value) (os : List Opx) (w : World) (h : Ls EO w v os) (_hl : os.length ≤ 140737488355328) : Calls Try.prog 3 #[v] w fun e w' => e = .returned (.bool true) ∧ Below w.heap.size w w' := by
  have hmx : Try.prog.follows .mixedOrders = true := by kernel_rfl
  obtain ⟨pv, cv, rfl⟩ := h.form
  have HO := hid h
  clear h
  go_enter Try.func3, Try.ntmps3
  go_wp2_with fail
  refine (new_any 1000000 w).mono ?_
  rintro e w1 ⟨rfl, h1, g1⟩
  go_wp2_with fail
  refine (taken_any _).mono ?_
  rintro e w2 ⟨rfl, b2⟩
  have H2 : Hid (Nm w (w.heap.size + 1) w.heap.size os.length 0 0 [] (.slice none 0 0) w2) := ⟨Nat.zero_le _, Nat.zero_le _, Int.le_refl _, h1.below b2, World.ownsRow_nil _ _ _ _, g1.below.trans (b2.mono g1.size)⟩
  clear h1 g1 b2
  have htb : Hid (w.heap.size ≤ w.heap.size + 1) := Nat.le_succ _
  generalize w.heap.size + 1 = tb at *
  go_wp2_with fail
  go_loopw [4, 5, 6] (fun s4 s5 s6 wr => ∃ (i : Nat) (last : Int) (L : List Hd) (vh : Value), s6 = .int .i64 (i : Nat) ∧ s5 = .int .i64 last ∧ s4 = vh ∧ Nm w tb w.heap.size os.length i last L vh wr) (fun _ _ s6 _ => os.length - (RowKit.intOf s6).toNat)
  case atStart => exact ⟨0, 0, [], _, rfl, rfl, rfl, H2.out⟩
  case round =>
    obtain ⟨i, last, L, vh, rfl, rfl, rfl, hN⟩ := hrel
    have HN := hid hN
    have hil := hN.il
    have him := hN.im
    have hll := hN.ll
    have hLn := hN.len
    obtain ⟨ph, ch, hvh⟩ := (owns_ls (E := EH) hN.row).form
    subst hvh
    clear hN
    by_cases hi1 : i < os.length
    · have hz1 : (i : Int) < (os.length : Int) := by omega
      have hk0 : (0 : Int) ≤ (i : Int) := by omega
      by_cases hi2 : i < 5000
      · have hz2 : (i : Int) < 5000 := by omega
        obtain ⟨o, ho⟩ : ∃ o, os[i]? = some o := ⟨os[i], by simp⟩
        obtain ⟨b1, o1, c1, e1, z1, x0, x1, x2, x3, x4, x5, x6⟩ := (HO.out.below HN.out.bw).atO ho
        simp only [Value.slice.injEq] at e1
        obtain ⟨rfl, -, rfl⟩ := e1
        clear ho
        obtain ⟨ok, on, oid, ⟨p, x, y, z⟩, ohw⟩ := o
        go_upto_region 10 with fail
        have HV : Hid (Nm w tb w.heap.size os.length i last L (.slice ph L.length ch) (wr.alloc (.cells #[.int .i64 ok, .int .i64 on, .int .i64 oid, .int .i64 p, .int .u64 x, .int .u64 y, .int .u64 z] 33))) := HN.out.gr ((Gr.refl _).alloc _)
        have HX : Hid (Bo (wr.alloc (.cells #[.int .i64 ok, .int .i64 on, .int .i64 oid, .int .i64 p, .int .u64 x, .int .u64 y, .int .u64 z] 33)) wr.heap.size ok on oid p x y z) := heap_new' _ _
        have HF := hid (HN.out.off (Nat.le_refl wr.heap.size))
        clear x0 x1 x2 x3 x4 x5 x6 z1 HN
        generalize (wr.alloc (.cells #[.int .i64 ok, .int .i64 on, .int .i64 oid, .int .i64 p, .int .u64 x, .int .u64 y, .int .u64 z] 33)) = V at *
        generalize wr.heap.size = B at *
        by_cases hA : ok = 1 ∨ L.length = 0
        · have hm1 := mint_ok (p, x, y, z) V HV.out.cs (by omega) (by omega)
          go_cut [4, 44] (fun s4 s44 w' => s4 = .slice ph L.length ch ∧ s44 = .bool true ∧ w' = V)
          case first =>
            obtain ⟨y0, y1, y2, y3, y4, y5, y6⟩ := HX.out.cs
            by_cases hk1 : ok = 1
            · go_wp2_with fail
              go_meet
              exact ⟨rfl, rfl, rfl⟩
            · have hL0 : L.length = 0 := by omega
              go_wp2_with fail
              go_meet
              exact ⟨by rw [hL0], rfl, rfl⟩
          case rest =>
            obtain ⟨rfl, rfl, hwc⟩ := hcut
            rw [hwc]
            clear hwc
            obtain ⟨y0, y1, y2, y3, y4, y5, y6⟩ := HX.out.cs
            go_wp2_with fail
            refine hm1.mono ?_
            rintro e V2 ⟨rfl, h2, k2⟩
            clear y0 y1 y2 y3 y4 y5 y6 hm1
            have HX2 : Hid (Bo V2 B ok on oid p x y z) := (k2.block B (blk_lt HX.out) (fun e => by have := HF.out; omega)).trans HX.out
            obtain ⟨r2, b2⟩ := HV.out.call k2 htb.out (Nat.le_refl _)
            have HR2 := hid r2
            have HB2 := hid b2
            have HC2 := hid h2
            have hB2 := b2.size
            obtain ⟨y0, y1, y2, y3, y4, y5, y6⟩ := HX2.out.cs
            have hwr : IntKind.i64.wrap (last + 1) = last + 1 := by rw [IntKind.wrap_i64]; have := HV.out.cs.lo; omega
            clear h2 k2 r2 b2
            go_wp2_with (at_builtin; refine wpApp1 EH Try.underlying26 infoH rfl (by decide) rfl _ _ rfl w.heap.size (.slice ph L.length ch) L.length _ rfl HR2.out (last + 1, p, x, y, z) (by first | rfl | simp) (by omega) (by unfold maxLen; omega) hB2 _ rfl _ ?_; intro g' cap' w' hown' hg' hgb; go_frame)
            go_roundw
            case rel =>
              have hk : Kp (fun k => (Value.slice ph L.length ch).ownBlock = some k) V2 w' := Kp.grownBy hg' (fun k hk => hk)
              refine ⟨i + 1, last + 1, L ++ [(last + 1, p, x, y, z)], _, by go_num, rfl, rfl, ⟨by omega, by omega, by omega, ?_, ?_, ?_⟩⟩
              · exact HC2.out.kp hk (fun e => (HV.out.cs.apart HV.out.row e).1 rfl) (fun e => (HV.out.cs.apart HV.out.row e).2 rfl)
              · rw [List.length_append, fl_append]
                exact hown'
              · exact HB2.out.grown hg' hB2 (fun j hj => (HR2.out.lt j hj).1)
            case measure => simp [RowKit.intOf]; omega
        · have hk1 : ¬ ok = 1 := fun e => hA (Or.inl e)
          have hL0 : ¬ L = [] := fun e => hA (Or.inr (by rw [e]; rfl))
          clear hA
          have hLp : 0 < L.length := List.length_pos_iff.2 hL0
          have hL1 : ¬ (L.length : Int) = 0 := by omega
          have hkb : (ok == 1) = false := by simp [hk1]
          have hLb : ((L.length : Int) == 0) = false := by simp [hL0]
          obtain ⟨y0, y1, y2, y3, y4, y5, y6⟩ := HX.out.cs
          have ht1 := Int.tmod_lt_of_pos oid (b := (L.length : Int)) (by omega)
          have ht2 := Int.lt_tmod_of_pos oid (b := (L.length : Int)) (by omega)
          go_upto_if 74 with fail
          generalize oid.tmod (L.length : Int) = r at *
          go_cut [10] (fun s10 w' => ∃ k : Nat, k < L.length ∧ s10 = .int .i64 (k : Nat) ∧ w' = V)
          case first =>
            by_cases hr : r < 0
            · have hwr : IntKind.i64.wrap (r + (L.length : Int)) = r + (L.length : Int) := by rw [IntKind.wrap_i64]; omega
              go_wp2_with fail
              go_meet
              exact ⟨(r + (L.length : Int)).toNat, by omega, by congr 1; omega, rfl⟩
            · go_wp2_with fail
              go_meet
              exact ⟨r.toNat, by omega, by congr 1; omega, rfl⟩
          case rest =>
            obtain ⟨k, hk, rfl, hwc⟩ := hcut
            rw [hwc]
            clear hwc ht1 ht2
            have hkz : (k : Int) < (L.length : Int) := by omega
            have hk0 : (0 : Int) ≤ (k : Int) := by omega
            obtain ⟨hd, hh⟩ : ∃ h, L[k]? = some h := ⟨L[k], by simp⟩
            obtain ⟨_, ⟨_, hn0⟩ | ⟨gb, cap, cur, hvv, _, _, hcap, hcm, _, _⟩⟩ := HV.out.row
            · omega
            simp only [Value.slice.injEq] at hvv
            obtain ⟨rfl, -, rfl⟩ := hvv
            obtain ⟨b2, o2, c2, e2, z2, x0, x1, x2, x3, x4⟩ := (owns_ls (E := EH) HV.out.row).atH hh
            simp only [Value.slice.injEq, Option.some.injEq, Addr.mk.injEq] at e2
            obtain ⟨⟨rfl, rfl, -⟩, -, rfl⟩ := e2
            simp only [Nat.zero_add] at x0 x1 x2 x3 x4
            have HH := hid hh
            clear hh
            obtain ⟨id, hp, hx, hy, hz⟩ := hd
            go_upto_region 20 with fail
            have HV3 : Hid (Nm w tb w.heap.size os.length i last L (.slice (some ⟨gb, 0, none⟩) L.length ch) (V.alloc (.cells #[.int .i64 id, .int .i64 hp, .int .u64 hx, .int .u64 hy, .int .u64 hz] 38))) := HV.out.gr ((Gr.refl _).alloc _)
            have HX3 : Hid (Bo (V.alloc (.cells #[.int .i64 id, .int .i64 hp, .int .u64 hx, .int .u64 hy, .int .u64 hz] 38)) B ok on oid p x y z) := (((Gr.refl V).alloc _).below.block B (blk_lt HX.out)).trans HX.out
            have HY3 : Hid (Bh (V.alloc (.cells #[.int .i64 id, .int .i64 hp, .int .u64 hx, .int .u64 hy, .int .u64 hz] 38)) V.heap.size id hp hx hy hz) := heap_new' _ _
            have HG := hid (HV.out.off (Nat.le_refl V.heap.size))
            clear x0 x1 x2 x3 x4 y0 y1 y2 y3 y4 y5 y6 HV HX z2
            generalize (V.alloc (.cells #[.int .i64 id, .int .i64 hp, .int .u64 hx, .int .u64 hy, .int .u64 hz] 38)) = V3 at *
            generalize V.heap.size = BH at *
            have hmem : (id, hp, hx, hy, hz) ∈ L := List.mem_of_getElem? HH.out
            have hib := HV3.out.cs.ri.bd _ hmem
            have hwf : (Lit.int .i64 id).wf = true := WalkArith.wf_i64 (by simp only at hib; omega)
            have hlk : look L id = some (hp, hx, hy, hz) := mem_look HV3.out.cs.ri.up hmem
            have HLK := hid hlk
            clear hmem hib hlk
            by_cases hk4 : ok = 4
            · subst hk4
              have m1 := drop_ok id (hp, hx, hy, hz) V3 HV3.out.cs hwf HLK.out
              obtain ⟨y0, y1, y2, y3, y4, y5, y6⟩ := HX3.out.cs
              obtain ⟨h0, h1, h2, h3, h4, h5⟩ := HY3.out.cs
              go_wp2_with fail
              refine m1.mono ?_
              rintro e V4 ⟨rfl, c4, k4⟩
              clear m1 y0 y1 y2 y3 y4 y5 y6 h0 h1 h2 h3 h4 h5
              have k4' : Kp (fun k => k = tb ∨ k = w.heap.size) V3 V4 := k4.mono (fun k hk => Or.inr hk)
              obtain ⟨r4, b4⟩ := HV3.out.call k4' htb.out (Nat.le_refl _)
              have HX4 : Hid (Bo V4 B 4 on oid p x y z) := (k4'.block B (blk_lt HX3.out) (fun e => by have := HF.out; omega)).trans HX3.out
              have HY4 : Hid (Bh V4 BH id hp hx hy hz) := (k4'.block BH (blk_lt HY3.out) (fun e => by have := HG.out; omega)).trans HY3.out
              have HC4 := hid c4
              have m2 := drop_none id V4 c4 hwf (by rw [look_drop]; simp)
              obtain ⟨h0, h1, h2, h3, h4, h5⟩ := HY4.out.cs
              have HR4 := hid (And.intro r4 b4)
              clear c4 k4 k4' r4 b4
              go_wp2_with fail
              refine m2.mono ?_
              rintro e V5 ⟨rfl, g5⟩
              clear m2 h0 h1 h2 h3 h4 h5
              have HX5 : Hid (Bo V5 B 4 on oid p x y z) := (g5.below.block B (blk_lt HX4.out)).trans HX4.out
              have HY5 : Hid (Bh V5 BH id hp hx hy hz) := (g5.below.block BH (blk_lt HY4.out)).trans HY4.out
              have m3 := lower_none id x y z V5 (HC4.out.gr g5) hwf (by rw [look_drop]; simp)
              obtain ⟨y0, y1, y2, y3, y4, y5, y6⟩ := HX5.out.cs
              obtain ⟨h0, h1, h2, h3, h4, h5⟩ := HY5.out.cs
              go_wp2_with fail
              refine m3.mono ?_
              rintro e V6 ⟨rfl, g6⟩
              clear m3 y0 y1 y2 y3 y4 y5 y6 h0 h1 h2 h3 h4 h5
              have HC6 := hid (HC4.out.gr (g5.trans g6))
              have HC6r := hid HV3.out.cs.ri
              have HR6 : Hid (V6.ownsRow w.heap.size 38 5 (.slice (some ⟨gb, 0, none⟩) L.length ch) L.length (fl EH L) ∧ Below w.heap.size w V6) := ⟨owns_below HR4.out.1 (g5.trans g6).below, HR4.out.2.trans ((g5.trans g6).below.mono HR4.out.2.size)⟩
              clear g5 g6 HX5 HY5 HX4 HY4 HR4 HC4
              go_upto_region 23 with fail
              have hz3 : (k : Int) ≤ (ch : Int) := by omega
              have hz4 : ¬ ch = 0 := by omega
              have hz5 : (k : Int) + 1 ≤ (L.length : Int) := by omega
              have hz6 : (0 : Int) ≤ (k : Int) + 1 := by omega
              have hwr : IntKind.i64.wrap ((k : Int) + 1) = (k : Int) + 1 := by rw [IntKind.wrap_i64]; omega
              have hz7 : (L.length : Int) ≤ (ch : Int) := by omega
              have hzc := HR6.out.2.size
              have HLV := hid (owns_ls (E := EH) HR6.out.1)
              have R7 : ((V6.alloc (.cells #[] 38)).drew).ownsRow V6.heap.size 38 5 (.slice (some ⟨V6.heap.size, 0, none⟩) 0 0) 0 [] := ⟨rfl, Or.inr ⟨V6.heap.size, 0, #[], rfl, Nat.le_refl _, heap_new' V6 _, Nat.le_refl _, Nat.zero_le _, rfl, rfl⟩⟩
              have hb7 : Below V6.heap.size V6 (V6.alloc (.cells #[] 38)).drew := ((Gr.refl V6).alloc _).drew.below
              have hmm : L.length - (k + 1) + k + 1 = L.length := by omega
              have hlt : (L.take k).length = k := by simp; omega
              have hld : (L.drop (k + 1)).length = L.length - (k + 1) := by simp
              have HT7 : Hid (Ls EH (V6.alloc (.cells #[] 38)).drew (.slice (some ⟨gb, 0, none⟩) k ch) (L.take k)) := (HLV.out.cut (k := k) (by omega) ch).below hb7
              have HDQ := hid (drop_eq HC6r.out HH.out)
              by_cases hcc : ch = k + 1
              · have HD6 : Hid (Ls EH V6 (.slice (some ⟨gb, 0, none⟩) (L.length - (k + 1)) 0) (L.drop (k + 1))) := HLV.out.void (k := k + 1) (by omega) 0
                have HCC := hid hcc
                clear hcc
                refine wp_regionD (S := fun _ => True) (D := []) hmx ?_
                refine' wpAnyD_take (i := 1) (oi := { dst := some 109, op := Go.Op.move (Go.Operand.tmp 4), type := 26, pos := "law.go:171", after := #[], guard := none }) (v := _) rfl (by kernel_rfl) (by kernel_rfl) (by kernel_rfl) (fun _ _ _ h => h) (by kernel_rfl) (Or.inl ⟨by rfl, ?hy1⟩) trivial ?rest1
                case hy1 => (intro W hSw; go_simp; try (with_reducible rfl))
                try simp only [Act.put, List.setIfInBounds_toArray, List.set_cons_zero, List.set_cons_succ]
                refine' wpAnyD_take (i := 2) (oi := { dst := some 110, op := Go.Op.move (Go.Operand.tmp 10), type := 3, pos := "law.go:171", after := #[], guard := none }) (v := _) rfl (by kernel_rfl) (by kernel_rfl) (by kernel_rfl) (fun _ _ _ h => h) (by kernel_rfl) (Or.inl ⟨by rfl, ?hy2⟩) trivial ?rest2
                case hy2 => (intro W hSw; go_simp; try (with_reducible rfl))
                try simp only [Act.put, List.setIfInBounds_toArray, List.set_cons_zero, List.set_cons_succ]
                refine' wpAnyD_take (i := 3) (oi := { dst := some 111, op := Go.Op.slice 26 (Go.Operand.tmp 109) none (some (Go.Operand.tmp 110)) none, type := 26, pos := "law.go:171", after := #[{ on := 1, ground := Go.Ground.data }, { on := 2, ground := Go.Ground.data }], guard := none }) (v := _) rfl (by kernel_rfl) (by kernel_rfl) (by kernel_rfl) (fun _ _ _ h => h) (by kernel_rfl) (Or.inl ⟨by rfl, ?hy3⟩) trivial ?rest3
                case hy3 => (intro W hSw; go_simp; try (with_reducible rfl))
                try simp only [Act.put, List.setIfInBounds_toArray, List.set_cons_zero, List.set_cons_succ]
                refine' wpAnyD_take (i := 5) (oi := { dst := some 113, op := Go.Op.move (Go.Operand.tmp 4), type := 26, pos := "law.go:171", after := #[], guard := none }) (v := _) rfl (by kernel_rfl) (by kernel_rfl) (by kernel_rfl) (fun _ _ _ h => h) (by kernel_rfl) (Or.inl ⟨by rfl, ?hy4⟩) trivial ?rest4
                case hy4 => (intro W hSw; go_simp; try (with_reducible rfl))
                try simp only [Act.put, List.setIfInBounds_toArray, List.set_cons_zero, List.set_cons_succ]
                refine' wpAnyD_take (i := 6) (oi := { dst := some 114, op := Go.Op.move (Go.Operand.tmp 10), type := 3, pos := "law.go:171", after := #[], guard := none }) (v := _) rfl (by kernel_rfl) (by kernel_rfl) (by kernel_rfl) (fun _ _ _ h => h) (by kernel_rfl) (Or.inl ⟨by rfl, ?hy5⟩) trivial ?rest5
                case hy5 => (intro W hSw; go_simp; try (with_reducible rfl))
                try simp only [Act.put, List.setIfInBounds_toArray, List.set_cons_zero, List.set_cons_succ]
                refine' wpAnyD_take (i := 7) (oi := { dst := some 115, op := Go.Op.binOp Go.BinOp.add 3 (Go.Operand.tmp 114) (Go.Operand.const (Go.Value.int Go.IntKind.i64 1)) 3, type := 3, pos := "law.go:171", after := #[{ on := 6, ground := Go.Ground.data }], guard := none }) (v := _) rfl (by kernel_rfl) (by kernel_rfl) (by kernel_rfl) (fun _ _ _ h => h) (by kernel_rfl) (Or.inl ⟨by rfl, ?hy6⟩) trivial ?rest6
                case hy6 => (intro W hSw; go_simp; try (with_reducible rfl))
                try simp only [Act.put, List.setIfInBounds_toArray, List.set_cons_zero, List.set_cons_succ]
                refine' wpAnyD_take (i := 8) (oi := { dst := some 116, op := Go.Op.slice 26 (Go.Operand.tmp 113) (some (Go.Operand.tmp 115)) none none, type := 26, pos := "law.go:171", after := #[{ on := 5, ground := Go.Ground.data }, { on := 7, ground := Go.Ground.data }], guard := none }) (v := _) rfl (by kernel_rfl) (by kernel_rfl) (by kernel_rfl) (fun _ _ _ h => h) (by kernel_rfl) (Or.inl ⟨by rfl, ?hy7⟩) trivial ?rest7
                case hy7 => (intro W hSw; have hcc := HCC.out; go_simp; try (with_reducible rfl))
                try simp only [Act.put, List.setIfInBounds_toArray, List.set_cons_zero, List.set_cons_succ]
                refine wpAnyD_one (i := 0) (o := { dst := some 108, op := Go.Op.buildSlice 26 0 #[], type := 26, pos := "law.go:171", after := #[], guard := none }) (by kernel_rfl) rfl (fun K hK => ?_)
                go_simp
                refine hK.out _ _ (fun hD => trivial) ?_
                clear hK K
                try simp only [Act.put, List.setIfInBounds_toArray, List.set_cons_zero, List.set_cons_succ]
                refine wpAnyD_one (i := 4) (o := { dst := some 112, op := Go.Op.call { callee := Go.Callee.builtin Go.Builtin.append, args := #[Go.Operand.tmp 108, Go.Operand.tmp 111], argTypes := #[26, 26] }, type := 26, pos := "law.go:171", after := #[{ on := 0, ground := Go.Ground.data }, { on := 3, ground := Go.Ground.data }], guard := none }) (by kernel_rfl) rfl (fun K hK => ?_)
                refine step_appL EH Try.underlying26 infoH rfl (by decide) rfl _ _ rfl V6.heap.size (.slice (some ⟨V6.heap.size, 0, none⟩) 0 0) 0 [] rfl R7 (by have := hb7.size; omega) (.slice (some ⟨gb, 0, none⟩) k ch) (L.take k) rfl HT7.out (by omega) (by unfold maxLen; omega) ?_
                intro v8 w8 HO8 HG8
                have hb8 : Below V6.heap.size V6 w8 := hb7.grown HG8.out hb7.size (fun j hj => by simp [Value.ownBlock] at hj; omega)
                have hz8 := hb8.size
                have HV8 : Hid (w8.ownsRow V6.heap.size 38 5 v8 k (fl EH (L.take k))) := by
                  have h8 := HO8.out
                  rw [Nat.zero_add, hlt, List.nil_append] at h8
                  exact h8
                clear HO8
                refine hK.out _ _ (fun hD => trivial) ?_
                clear hK K
                try simp only [Act.put, List.setIfInBounds_toArray, List.set_cons_zero, List.set_cons_succ]
                refine wpAnyD_one (i := 9) (o := { dst := some 117, op := Go.Op.call { callee := Go.Callee.builtin Go.Builtin.append, args := #[Go.Operand.tmp 112, Go.Operand.tmp 116], argTypes := #[26, 26] }, type := 26, pos := "law.go:171", after := #[{ on := 4, ground := Go.Ground.data }, { on := 8, ground := Go.Ground.data }, { on := 4, ground := Go.Ground.chain }], guard := none }) (by kernel_rfl) rfl (fun K hK => ?_)
                refine step_appL EH Try.underlying26 infoH rfl (by decide) rfl _ _ rfl V6.heap.size v8 k (fl EH (L.take k)) rfl HV8.out (by omega) _ (L.drop (k + 1)) rfl (HD6.out.below hb8) (by omega) (by unfold maxLen; omega) ?_
                intro v9 w9 HO9 HG9
                refine hK.out _ _ (fun hD => trivial) ?_
                clear hK K
                try simp only [Act.put, List.setIfInBounds_toArray, List.set_cons_zero, List.set_cons_succ]
                refine' wpAnyD_take (i := 10) (oi := { dst := some 4, op := Go.Op.assign (Go.Operand.tmp 117), type := 26, pos := "law.go:171", after := #[{ on := 9, ground := Go.Ground.data }, { on := 9, ground := Go.Ground.chain }, { on := 0, ground := Go.Ground.phase }, { on := 1, ground := Go.Ground.phase }, { on := 2, ground := Go.Ground.phase }, { on := 3, ground := Go.Ground.phase }, { on := 4, ground := Go.Ground.phase }, { on := 5, ground := Go.Ground.phase }, { on := 6, ground := Go.Ground.phase }, { on := 7, ground := Go.Ground.phase }, { on := 8, ground := Go.Ground.phase }, { on := 9, ground := Go.Ground.phase }], guard := none }) (v := _) rfl (by kernel_rfl) (by kernel_rfl) (by kernel_rfl) (fun _ _ _ h => h) (by kernel_rfl) (Or.inl ⟨by rfl, ?hy11⟩) trivial ?rest11
                case hy11 => (intro W hSw; go_simp; try (with_reducible rfl))
                try simp only [Act.put, List.setIfInBounds_toArray, List.set_cons_zero, List.set_cons_succ]
                refine wpAnyD_done (by kernel_rfl) ?_ _
                have hb9 : Below V6.heap.size V6 w9 := hb8.grown HG9.out hb8.size (fun j hj => (HV8.out.lt j hj).1)
                go_wp2_with fail
                go_roundw
                case rel =>
                  refine ⟨i + 1, last, dropL L id, _, by go_num, rfl, rfl, ⟨by omega, by omega, by omega, ?_, ?_, ?_⟩⟩
                  · exact HC6.out.below hb9
                  · have h9 := HO9.out
                    rw [← fl_append, HDQ.out] at h9
                    have e9 : k + (L.drop (k + 1)).length = (dropL L id).length := by
                      have := congrArg List.length HDQ.out
                      rw [List.length_append, hlt] at this
                      exact this
                    rw [e9] at h9
                    exact owns_base h9 hzc
                  · exact HR6.out.2.trans (hb9.mono hzc)
                case measure => simp [RowKit.intOf]; omega
              · have HD6 : Hid (Ls EH V6 (.slice (some ⟨gb, (k + 1) * 5, none⟩) (L.length - (k + 1)) (ch - (k + 1))) (L.drop (k + 1))) := by
                  have h1 := HLV.out.tail (k := k + 1) (ch - (k + 1))
                  rw [Nat.zero_add] at h1
                  exact h1
                have HCC := hid hcc
                clear hcc
                refine wp_regionD (S := fun _ => True) (D := []) hmx ?_
                refine' wpAnyD_take (i := 1) (oi := { dst := some 109, op := Go.Op.move (Go.Operand.tmp 4), type := 26, pos := "law.go:171", after := #[], guard := none }) (v := _) rfl (by kernel_rfl) (by kernel_rfl) (by kernel_rfl) (fun _ _ _ h => h) (by kernel_rfl) (Or.inl ⟨by rfl, ?hy12⟩) trivial ?rest12
                case hy12 => (intro W hSw; go_simp; try (with_reducible rfl))
                try simp only [Act.put, List.setIfInBounds_toArray, List.set_cons_zero, List.set_cons_succ]
                refine' wpAnyD_take (i := 2) (oi := { dst := some 110, op := Go.Op.move (Go.Operand.tmp 10), type := 3, pos := "law.go:171", after := #[], guard := none }) (v := _) rfl (by kernel_rfl) (by kernel_rfl) (by kernel_rfl) (fun _ _ _ h => h) (by kernel_rfl) (Or.inl ⟨by rfl, ?hy13⟩) trivial ?rest13
                case hy13 => (intro W hSw; go_simp; try (with_reducible rfl))
                try simp only [Act.put, List.setIfInBounds_toArray, List.set_cons_zero, List.set_cons_succ]
                refine' wpAnyD_take (i := 3) (oi := { dst := some 111, op := Go.Op.slice 26 (Go.Operand.tmp 109) none (some (Go.Operand.tmp 110)) none, type := 26, pos := "law.go:171", after := #[{ on := 1, ground := Go.Ground.data }, { on := 2, ground := Go.Ground.data }], guard := none }) (v := _) rfl (by kernel_rfl) (by kernel_rfl) (by kernel_rfl) (fun _ _ _ h => h) (by kernel_rfl) (Or.inl ⟨by rfl, ?hy14⟩) trivial ?rest14
                case hy14 => (intro W hSw; go_simp; try (with_reducible rfl))
                try simp only [Act.put, List.setIfInBounds_toArray, List.set_cons_zero, List.set_cons_succ]
                refine' wpAnyD_take (i := 5) (oi := { dst := some 113, op := Go.Op.move (Go.Operand.tmp 4), type := 26, pos := "law.go:171", after := #[], guard := none }) (v := _) rfl (by kernel_rfl) (by kernel_rfl) (by kernel_rfl) (fun _ _ _ h => h) (by kernel_rfl) (Or.inl ⟨by rfl, ?hy15⟩) trivial ?rest15
                case hy15 => (intro W hSw; go_simp; try (with_reducible rfl))
                try simp only [Act.put, List.setIfInBounds_toArray, List.set_cons_zero, List.set_cons_succ]
                refine' wpAnyD_take (i := 6) (oi := { dst := some 114, op := Go.Op.move (Go.Operand.tmp 10), type := 3, pos := "law.go:171", after := #[], guard := none }) (v := _) rfl (by kernel_rfl) (by kernel_rfl) (by kernel_rfl) (fun _ _ _ h => h) (by kernel_rfl) (Or.inl ⟨by rfl, ?hy16⟩) trivial ?rest16
                case hy16 => (intro W hSw; go_simp; try (with_reducible rfl))
                try simp only [Act.put, List.setIfInBounds_toArray, List.set_cons_zero, List.set_cons_succ]
                refine' wpAnyD_take (i := 7) (oi := { dst := some 115, op := Go.Op.binOp Go.BinOp.add 3 (Go.Operand.tmp 114) (Go.Operand.const (Go.Value.int Go.IntKind.i64 1)) 3, type := 3, pos := "law.go:171", after := #[{ on := 6, ground := Go.Ground.data }], guard := none }) (v := _) rfl (by kernel_rfl) (by kernel_rfl) (by kernel_rfl) (fun _ _ _ h => h) (by kernel_rfl) (Or.inl ⟨by rfl, ?hy17⟩) trivial ?rest17
                case hy17 => (intro W hSw; go_simp; try (with_reducible rfl))
                try simp only [Act.put, List.setIfInBounds_toArray, List.set_cons_zero, List.set_cons_succ]
                refine' wpAnyD_take (i := 8) (oi := { dst := some 116, op := Go.Op.slice 26 (Go.Operand.tmp 113) (some (Go.Operand.tmp 115)) none none, type := 26, pos := "law.go:171", after := #[{ on := 5, ground := Go.Ground.data }, { on := 7, ground := Go.Ground.data }], guard := none }) (v := _) rfl (by kernel_rfl) (by kernel_rfl) (by kernel_rfl) (fun _ _ _ h => h) (by kernel_rfl) (Or.inl ⟨by rfl, ?hy18⟩) trivial ?rest18
                case hy18 => (intro W hSw; have hcc := HCC.out; go_simp; try (with_reducible rfl))
                try simp only [Act.put, List.setIfInBounds_toArray, List.set_cons_zero, List.set_cons_succ]
                refine wpAnyD_one (i := 0) (o := { dst := some 108, op := Go.Op.buildSlice 26 0 #[], type := 26, pos := "law.go:171", after := #[], guard := none }) (by kernel_rfl) rfl (fun K hK => ?_)
                go_simp
                refine hK.out _ _ (fun hD => trivial) ?_
                clear hK K
                try simp only [Act.put, List.setIfInBounds_toArray, List.set_cons_zero, List.set_cons_succ]
                refine wpAnyD_one (i := 4) (o := { dst := some 112, op := Go.Op.call { callee := Go.Callee.builtin Go.Builtin.append, args := #[Go.Operand.tmp 108, Go.Operand.tmp 111], argTypes := #[26, 26] }, type := 26, pos := "law.go:171", after := #[{ on := 0, ground := Go.Ground.data }, { on := 3, ground := Go.Ground.data }], guard := none }) (by kernel_rfl) rfl (fun K hK => ?_)
                refine step_appL EH Try.underlying26 infoH rfl (by decide) rfl _ _ rfl V6.heap.size (.slice (some ⟨V6.heap.size, 0, none⟩) 0 0) 0 [] rfl R7 (by have := hb7.size; omega) (.slice (some ⟨gb, 0, none⟩) k ch) (L.take k) rfl HT7.out (by omega) (by unfold maxLen; omega) ?_
                intro v8 w8 HO8 HG8
                have hb8 : Below V6.heap.size V6 w8 := hb7.grown HG8.out hb7.size (fun j hj => by simp [Value.ownBlock] at hj; omega)
                have hz8 := hb8.size
                have HV8 : Hid (w8.ownsRow V6.heap.size 38 5 v8 k (fl EH (L.take k))) := by
                  have h8 := HO8.out
                  rw [Nat.zero_add, hlt, List.nil_append] at h8
                  exact h8
                clear HO8
                refine hK.out _ _ (fun hD => trivial) ?_
                clear hK K
                try simp only [Act.put, List.setIfInBounds_toArray, List.set_cons_zero, List.set_cons_succ]
                refine wpAnyD_one (i := 9) (o := { dst := some 117, op := Go.Op.call { callee := Go.Callee.builtin Go.Builtin.append, args := #[Go.Operand.tmp 112, Go.Operand.tmp 116], argTypes := #[26, 26] }, type := 26, pos := "law.go:171", after := #[{ on := 4, ground := Go.Ground.data }, { on := 8, ground := Go.Ground.data }, { on := 4, ground := Go.Ground.chain }], guard := none }) (by kernel_rfl) rfl (fun K hK => ?_)
                refine step_appL EH Try.underlying26 infoH rfl (by decide) rfl _ _ rfl V6.heap.size v8 k (fl EH (L.take k)) rfl HV8.out (by omega) _ (L.drop (k + 1)) rfl (HD6.out.below hb8) (by omega) (by unfold maxLen; omega) ?_
                intro v9 w9 HO9 HG9
                refine hK.out _ _ (fun hD => trivial) ?_
                clear hK K
                try simp only [Act.put, List.setIfInBounds_toArray, List.set_cons_zero, List.set_cons_succ]
                refine' wpAnyD_take (i := 10) (oi := { dst := some 4, op := Go.Op.assign (Go.Operand.tmp 117), type := 26, pos := "law.go:171", after := #[{ on := 9, ground := Go.Ground.data }, { on := 9, ground := Go.Ground.chain }, { on := 0, ground := Go.Ground.phase }, { on := 1, ground := Go.Ground.phase }, { on := 2, ground := Go.Ground.phase }, { on := 3, ground := Go.Ground.phase }, { on := 4, ground := Go.Ground.phase }, { on := 5, ground := Go.Ground.phase }, { on := 6, ground := Go.Ground.phase }, { on := 7, ground := Go.Ground.phase }, { on := 8, ground := Go.Ground.phase }, { on := 9, ground := Go.Ground.phase }], guard := none }) (v := _) rfl (by kernel_rfl) (by kernel_rfl) (by kernel_rfl) (fun _ _ _ h => h) (by kernel_rfl) (Or.inl ⟨by rfl, ?hy22⟩) trivial ?rest22
                case hy22 => (intro W hSw; go_simp; try (with_reducible rfl))
                try simp only [Act.put, List.setIfInBounds_toArray, List.set_cons_zero, List.set_cons_succ]
                refine wpAnyD_done (by kernel_rfl) ?_ _
                have hb9 : Below V6.heap.size V6 w9 := hb8.grown HG9.out hb8.size (fun j hj => (HV8.out.lt j hj).1)
                go_wp2_with fail
                go_roundw
                case rel =>
                  refine ⟨i + 1, last, dropL L id, _, by go_num, rfl, rfl, ⟨by omega, by omega, by omega, ?_, ?_, ?_⟩⟩
                  · exact HC6.out.below hb9
                  · have h9 := HO9.out
                    rw [← fl_append, HDQ.out] at h9
                    have e9 : k + (L.drop (k + 1)).length = (dropL L id).length := by
                      have := congrArg List.length HDQ.out
                      rw [List.length_append, hlt] at this
                      exact this
                    rw [e9] at h9
                    exact owns_base h9 hzc
                  · exact HR6.out.2.trans (hb9.mono hzc)
                case measure => simp [RowKit.intOf]; omega
            · cases ha : tle hx hy hz x y z with
              | true =>
                have m1 := lower_ok id x y z (hp, hx, hy, hz) V3 HV3.out.cs hwf HLK.out ha (by omega)
                obtain ⟨y0, y1, y2, y3, y4, y5, y6⟩ := HX3.out.cs
                obtain ⟨h0, h1, h2, h3, h4, h5⟩ := HY3.out.cs
                go_wp2_with fail
                refine m1.mono ?_
                rintro e V4 ⟨rfl, c4, k4⟩
                clear m1 y0 y1 y2 y3 y4 y5 y6 h0 h1 h2 h3 h4 h5
                have k4' : Kp (fun k => k = tb ∨ k = w.heap.size) V3 V4 := k4.mono (fun k hk => Or.inr hk)
                obtain ⟨r4, b4⟩ := HV3.out.call k4' htb.out (Nat.le_refl _)
                have HX4 : Hid (Bo V4 B ok on oid p x y z) := (k4'.block B (blk_lt HX3.out) (fun e => by have := HF.out; omega)).trans HX3.out
                have HY4 : Hid (Bh V4 BH id hp hx hy hz) := (k4'.block BH (blk_lt HY3.out) (fun e => by have := HG.out; omega)).trans HY3.out
                have HC4 := hid c4
                have m2 := get_some id (hp, x, y, z) V4 c4 hwf (by rw [look_set L id _ (by rw [HLK.out]; exact nofun), if_pos rfl])
                have HR4 := hid (And.intro r4 b4)
                clear c4 k4 k4' r4 b4
                as_aux_lemma =>
                  obtain ⟨h0, h1, h2, h3, h4, h5⟩ := HY4.out.cs
                  go_wp2_with fail
                  refine m2.mono ?_
                  rintro e V5 ⟨rfl, g5⟩
                  clear m2 h0 h1 h2 h3 h4 h5
                  go_upto_region 26 with fail
                  have G5 : Gr V4 (V5.alloc (.cells #[.int .i64 hp, .int .u64 x, .int .u64 y, .int .u64 z] 31)) := g5.alloc _
                  have HX6 : Hid (Bo (V5.alloc (.cells #[.int .i64 hp, .int .u64 x, .int .u64 y, .int .u64 z] 31)) B ok on oid p x y z) := (G5.below.block B (blk_lt HX4.out)).trans HX4.out
                  have HY6 : Hid (Bh (V5.alloc (.cells #[.int .i64 hp, .int .u64 x, .int .u64 y, .int .u64 z] 31)) BH id hp hx hy hz) := (G5.below.block BH (blk_lt HY4.out)).trans HY4.out
                  have HS6 : Hid (Bs (V5.alloc (.cells #[.int .i64 hp, .int .u64 x, .int .u64 y, .int .u64 z] 31)) V5.heap.size hp x y z) := heap_new' _ _
                  have HC6 := hid (HC4.out.gr G5)
                  have HR6 : Hid ((V5.alloc (.cells #[.int .i64 hp, .int .u64 x, .int .u64 y, .int .u64 z] 31)).ownsRow w.heap.size 38 5 (.slice (some ⟨gb, 0, none⟩) L.length ch) L.length (fl EH L) ∧ Below w.heap.size w (V5.alloc (.cells #[.int .i64 hp, .int .u64 x, .int .u64 y, .int .u64 z] 31))) := ⟨owns_below HR4.out.1 G5.below, HR4.out.2.trans (G5.below.mono HR4.out.2.size)⟩
                  clear g5 G5 HX4 HY4 HC4 HR4
                  generalize (V5.alloc (.cells #[.int .i64 hp, .int .u64 x, .int .u64 y, .int .u64 z] 31)) = V6 at *
                  generalize V5.heap.size = BS at *
                  obtain ⟨y0, y1, y2, y3, y4, y5, y6⟩ := HX6.out.cs
                  obtain ⟨h0, h1, h2, h3, h4, h5⟩ := HY6.out.cs
                  obtain ⟨s0, s1, s2, s3, s4⟩ := HS6.out.cs
                  go_cut [15] (fun s15 w' => s15 = .bool true ∧ w' = V6)
                  case first =>
                    have hq : hx ≤ x ∧ hy ≤ y ∧ hz ≤ z := by simpa [tle] using ha
                    obtain ⟨q1, q2, q3⟩ := hq
                    go_wp2_with fail
                    go_meet
                    exact ⟨rfl, rfl⟩
                  case rest =>
                    obtain ⟨rfl, hwc⟩ := hcut
                    rw [hwc]
                    clear hwc
                    have heqT := run_eqT x y z x y z
                    have heqS := run_eqS' 9997 hp hx hy hz hp hx hy hz
                    rw [show teq x y z x y z = true by simp [teq]] at heqT
                    rw [show (hp == hp && teq hx hy hz hx hy hz) = true by simp [teq]] at heqS
                    obtain ⟨g1, o1', c1', e1', gz, x0, x1, x2, x3, x4⟩ := (owns_ls (E := EH) HR6.out.1).atH HH.out
                    simp only [Value.slice.injEq, Option.some.injEq, Addr.mk.injEq] at e1'
                    obtain ⟨⟨rfl, rfl, -⟩, -, rfl⟩ := e1'
                    simp only [Nat.zero_add] at x0 x1 x2 x3 x4
                    have f1 := owns_fz HR6.out.1
                    have hB6 := HR6.out.2.size
                    have hgb := hid (HC6.out.apart HR6.out.1 rfl)
                    have HQ := hid (set_eq HV3.out.cs.ri HH.out (hp, x, y, z))
                    go_wp2_with fail
                    go_roundw
                    case rel =>
                      obtain ⟨p1, k1⟩ := owns_cell (q := k * 5 + 1) (.int .i64 hp) HR6.out.1
                      obtain ⟨p2, k2⟩ := owns_cell (q := k * 5 + 2) (.int .u64 x) p1
                      obtain ⟨p3, k3⟩ := owns_cell (q := k * 5 + 3) (.int .u64 y) p2
                      obtain ⟨p4, k4⟩ := owns_cell (q := k * 5 + 4) (.int .u64 z) p3
                      rw [fl_stamp L k _ (hp, x, y, z) HH.out, HQ.out] at p4
                      have hk := ((k1.trans k2 (fun _ _ h => h)).trans k3 (fun _ _ h => h)).trans k4 (fun _ _ h => h)
                      refine ⟨i + 1, last, (setL L id (hp, x, y, z)), _, by go_num, rfl, rfl, ⟨by omega, by omega, by omega, ?_, ?_, ?_⟩⟩
                      · exact HC6.out.kp hk (fun e => hgb.out.1 e.symm) (fun e => hgb.out.2 e.symm)
                      · have e9 : L.length = ((setL L id (hp, x, y, z))).length := by first | rfl | exact (setL_length _ _ _).symm
                        rw [← e9]
                        exact p4
                      · exact HR6.out.2.trans (hk.below hB6 (fun j hj => by have := (HR6.out.1.lt gb rfl).1; omega))
                    case measure => simp [RowKit.intOf]; omega
              | false =>
                have m1 := lower_back id x y z (hp, hx, hy, hz) V3 HV3.out.cs hwf HLK.out ha
                obtain ⟨y0, y1, y2, y3, y4, y5, y6⟩ := HX3.out.cs
                obtain ⟨h0, h1, h2, h3, h4, h5⟩ := HY3.out.cs
                go_wp2_with fail
                refine m1.mono ?_
                rintro e V4 ⟨rfl, g4⟩
                clear m1 y0 y1 y2 y3 y4 y5 y6 h0 h1 h2 h3 h4 h5
                have HX4 : Hid (Bo V4 B ok on oid p x y z) := (g4.below.block B (blk_lt HX3.out)).trans HX3.out
                have HY4 : Hid (Bh V4 BH id hp hx hy hz) := (g4.below.block BH (blk_lt HY3.out)).trans HY3.out
                have HC4 := hid (HV3.out.cs.gr g4)
                have m2 := get_some id (hp, hx, hy, hz) V4 HC4.out hwf HLK.out
                have HR4 : Hid (V4.ownsRow w.heap.size 38 5 (.slice (some ⟨gb, 0, none⟩) L.length ch) L.length (fl EH L) ∧ Below w.heap.size w V4) := ⟨owns_below HV3.out.row g4.below, HV3.out.bw.trans (g4.below.mono HV3.out.bw.size)⟩
                clear g4
                as_aux_lemma =>
                  obtain ⟨h0, h1, h2, h3, h4, h5⟩ := HY4.out.cs
                  go_wp2_with fail
                  refine m2.mono ?_
                  rintro e V5 ⟨rfl, g5⟩
                  clear m2 h0 h1 h2 h3 h4 h5
                  go_upto_region 26 with fail
                  have G5 : Gr V4 (V5.alloc (.cells #[.int .i64 hp, .int .u64 hx, .int .u64 hy, .int .u64 hz] 31)) := g5.alloc _
                  have HX6 : Hid (Bo (V5.alloc (.cells #[.int .i64 hp, .int .u64 hx, .int .u64 hy, .int .u64 hz] 31)) B ok on oid p x y z) := (G5.below.block B (blk_lt HX4.out)).trans HX4.out
                  have HY6 : Hid (Bh (V5.alloc (.cells #[.int .i64 hp, .int .u64 hx, .int .u64 hy, .int .u64 hz] 31)) BH id hp hx hy hz) := (G5.below.block BH (blk_lt HY4.out)).trans HY4.out
                  have HS6 : Hid (Bs (V5.alloc (.cells #[.int .i64 hp, .int .u64 hx, .int .u64 hy, .int .u64 hz] 31)) V5.heap.size hp hx hy hz) := heap_new' _ _
                  have HC6 := hid (HC4.out.gr G5)
                  have HR6 : Hid ((V5.alloc (.cells #[.int .i64 hp, .int .u64 hx, .int .u64 hy, .int .u64 hz] 31)).ownsRow w.heap.size 38 5 (.slice (some ⟨gb, 0, none⟩) L.length ch) L.length (fl EH L) ∧ Below w.heap.size w (V5.alloc (.cells #[.int .i64 hp, .int .u64 hx, .int .u64 hy, .int .u64 hz] 31))) := ⟨owns_below HR4.out.1 G5.below, HR4.out.2.trans (G5.below.mono HR4.out.2.size)⟩
                  clear g5 G5 HX4 HY4 HC4 HR4
                  generalize (V5.alloc (.cells #[.int .i64 hp, .int .u64 hx, .int .u64 hy, .int .u64 hz] 31)) = V6 at *
                  generalize V5.heap.size = BS at *
                  obtain ⟨y0, y1, y2, y3, y4, y5, y6⟩ := HX6.out.cs
                  obtain ⟨h0, h1, h2, h3, h4, h5⟩ := HY6.out.cs
                  obtain ⟨s0, s1, s2, s3, s4⟩ := HS6.out.cs
                  go_cut [15] (fun s15 w' => s15 = .bool false ∧ w' = V6)
                  case first =>
                    by_cases q1 : hx ≤ x
                    · by_cases q2 : hy ≤ y
                      · have q3 : ¬ hz ≤ z := fun q3 => by simp [tle, q1, q2, q3] at ha
                        go_wp2_with fail
                        go_meet
                        exact ⟨rfl, rfl⟩
                      · go_wp2_with fail
                        go_meet
                        exact ⟨rfl, rfl⟩
                    · go_wp2_with fail
                      go_meet
                      exact ⟨rfl, rfl⟩
                  case rest =>
                    obtain ⟨rfl, hwc⟩ := hcut
                    rw [hwc]
                    clear hwc
                    have heqT := run_eqT x y z x y z
                    have heqS := run_eqS' 9997 hp hx hy hz hp hx hy hz
                    rw [show teq x y z x y z = true by simp [teq]] at heqT
                    rw [show (hp == hp && teq hx hy hz hx hy hz) = true by simp [teq]] at heqS
                    obtain ⟨g1, o1', c1', e1', gz, x0, x1, x2, x3, x4⟩ := (owns_ls (E := EH) HR6.out.1).atH HH.out
                    simp only [Value.slice.injEq, Option.some.injEq, Addr.mk.injEq] at e1'
                    obtain ⟨⟨rfl, rfl, -⟩, -, rfl⟩ := e1'
                    simp only [Nat.zero_add] at x0 x1 x2 x3 x4
                    have f1 := owns_fz HR6.out.1
                    have hB6 := HR6.out.2.size
                    have hgb := hid (HC6.out.apart HR6.out.1 rfl)
                    have HQ := hid (set_same HH.out)
                    go_wp2_with fail
                    go_roundw
                    case rel =>
                      obtain ⟨p1, k1⟩ := owns_cell (q := k * 5 + 1) (.int .i64 hp) HR6.out.1
                      obtain ⟨p2, k2⟩ := owns_cell (q := k * 5 + 2) (.int .u64 hx) p1
                      obtain ⟨p3, k3⟩ := owns_cell (q := k * 5 + 3) (.int .u64 hy) p2
                      obtain ⟨p4, k4⟩ := owns_cell (q := k * 5 + 4) (.int .u64 hz) p3
                      rw [fl_stamp L k _ (hp, hx, hy, hz) HH.out, HQ.out] at p4
                      have hk := ((k1.trans k2 (fun _ _ h => h)).trans k3 (fun _ _ h => h)).trans k4 (fun _ _ h => h)
                      refine ⟨i + 1, last, L, _, by go_num, rfl, rfl, ⟨by omega, by omega, by omega, ?_, ?_, ?_⟩⟩
                      · exact HC6.out.kp hk (fun e => hgb.out.1 e.symm) (fun e => hgb.out.2 e.symm)
                      · have e9 : L.length = (L).length := by first | rfl | exact (setL_length _ _ _).symm
                        rw [← e9]
                        exact p4
                      · exact HR6.out.2.trans (hk.below hB6 (fun j hj => by have := (HR6.out.1.lt gb rfl).1; omega))
                    case measure => simp [RowKit.intOf]; omega
      · have hz2 : ¬ (i : Int) < 5000 := by omega
        as_aux_lemma =>
          have hal := all_any wr HN.out.cs (by omega)
          go_wp2_with fail
          refine hal.mono ?_
          rintro e W1 ⟨g1, cap1, rfl, r1, b1⟩
          have hsm := same_any W1 (owns_ls (E := EH) r1) ((owns_ls (E := EH) HN.out.row).below (b1.mono (Nat.le_refl _))) (by omega)
          have HB1 := hid b1
          clear r1 b1 hal
          go_wp2_with fail
          refine hsm.mono ?_
          rintro e W2 ⟨rfl, g2⟩
          clear hsm
          go_wp2
          go_ret
          exact ⟨rfl, HN.out.bw.trans ((HB1.out.trans (g2.below.mono HB1.out.size)).mono HN.out.bw.size)⟩
    · have hz1 : ¬ (i : Int) < (os.length : Int) := by omega
      as_aux_lemma =>
        have hal := all_any wr HN.out.cs (by omega)
        go_wp2_with fail
        refine hal.mono ?_
        rintro e W1 ⟨g1, cap1, rfl, r1, b1⟩
        have hsm := same_any W1 (owns_ls (E := EH) r1) ((owns_ls (E := EH) HN.out.row).below (b1.mono (Nat.le_refl _))) (by omega)
        have HB1 := hid b1
        clear r1 b1 hal
        go_wp2_with fail
        refine hsm.mono ?_
        rintro e W2 ⟨rfl, g2⟩
        clear hsm
        go_wp2
        go_ret
        exact ⟨rfl, HN.out.bw.trans ((HB1.out.trans (g2.below.mono HB1.out.size)).mono HN.out.bw.size)⟩
end Go.Proofs.Ytabcibmdbancdaa
