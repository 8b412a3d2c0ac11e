import Derived.Test.YtjppkehnjnmbnaaGreatJ20
import Derived.Test.YtjppkehnjnmbnaaGreatRows
import Derived.Test.YtjppkehnjnmbnaaGreatGFlaw
import Derived.ProofKit
import Derived.Lay
import Derived.LaidMore
import Derived.Deep.DeepHandedRow
import Derived.Lib.SmallJoins
import Derived.OpenShut
import Derived.Deep.Slices
import Derived.ChangeOld
import Derived.Test.YtjppkehnjnmbnaaGreatJ12
namespace Go.Proofs.YtjppkehnjnmbnaaGreat.Lf
open Go.RowKit Go.Sort Pt
open Df (hid Gph plN Gok GR NV Edg gof gvc Gcap EI tk_store tk_lt owns_form owns_caps)
attribute [local go_sem ↓] Go.wp_at_zero Go.wp_at_succ
def fe (n : Nat) (R : Nat → Nat → List Tri) (q : Int) (l : List Hf.Th) : List Tri := l.flatMap fun s => frt (allT n R q [s])
theorem fe_take {n : Nat} {R : Nat → Nat → List Tri} {q : Int} {l : List Hf.Th} {i : Nat} {s : Hf.Th} (h : l[i]? = some s) : fe n R q (l.take (i + 1)) = fe n R q (l.take i) ++ frt (allT n R q [s]) := by
 unfold fe
 rw [List.take_add_one, h, List.flatMap_append]
 simp
theorem fr1_len {n : Nat} {R : Nat → Nat → List Tri} (hR : ∀ p q, (bt n R p q).length ≤ 64) (q : Int) (l : List Hf.Th) : (frt (allT n R q l)).length ≤ 64 * l.length := Nat.le_trans (frt_len _) (allT_len hR l)
theorem fe_len {n : Nat} {R : Nat → Nat → List Tri} (hR : ∀ p q, (bt n R p q).length ≤ 64) (q : Int) (l : List Hf.Th) : (fe n R q l).length ≤ 64 * l.length := by
 unfold fe
 induction l with
 | nil => simp
 | cons s l ih =>
  have h1 := fr1_len hR q [s]
  simp only [List.flatMap_cons, List.length_append, List.length_cons] at h1 ⊢
  simp only [List.length_nil] at h1
  omega
theorem out_ls {B : Nat} {w : World} {v : Value} {r : List Tri} (h : Out B w v r) : Ls Pc.ET w v r := by
 rcases h with ⟨h1, h2⟩ | ⟨_, g, c, h1, h2⟩
 ·exact Or.inl ⟨h1, h2⟩
 ·exact owns_ls (E := Pc.ET) h2
set_option maxRecDepth 100000 in
set_option maxHeartbeats 8000000 in
theorem pathsFronts_any {M0 M2 : Nat} {nv ev sv : Value} {a : Int} {xs : List NV} {es : List Edg} {l : List Hf.Th} (q : Int) (w : World) (hG : GR M0 w nv ev xs es) (hM : M0 ≤ w.heap.size) (hC : Gcap ev xs) (hP : Gpt (gof a xs es)) (hs : Df.Lz EF M2 w sv l) (hcp : ∀ p n c, sv = .slice p n c → n ≤ c) : Calls Tryz.prog 6 #[.agg (gvc a nv ev), .int .i64 q, sv] w fun e w' => e = .returned (.bool true) ∧ Below w.heap.size w w' := by
 have hmx : Tryz.prog.follows .mixedOrders = true := by kernel_rfl
 obtain ⟨ps, cs, rfl⟩ := hs.form
 have hcs : l.length ≤ cs := hcp _ _ _ rfl
 obtain ⟨xb, hxb⟩ : ∃ b, b = w.heap.size := ⟨_, rfl⟩
 obtain ⟨W0, hW0⟩ : ∃ W, W = w.alloc (.cells (gvc a nv ev) 25) := ⟨_, rfl⟩
 have P0 : Hid (Below w.heap.size w W0 ∧ W0.heap[xb]? = some (.cells (gvc a nv ev) 25 (0, 0)) ∧ Df.Lz EF M2 W0 (.slice ps l.length cs) l) := by
  rw [hW0, hxb]
  exact ⟨((Gr.refl w).alloc _).below, heap_new' _ _, hs.below ((Gr.refl w).alloc _).below⟩
 have hbo := both_any (a := a) W0 (hG.below P0.out.1) (Nat.le_trans hM P0.out.1.size) hC hP
 have HW0 : Hid (w.alloc (.cells (gvc a nv ev) 25) = W0 ∧ w.heap.size = xb) := ⟨hW0.symm, hxb.symm⟩
 have c0 := (tk_store P0.out.2.1).1
 have l0 := tk_lt P0.out.2.1
 clear hG hM hC hP hs hW0 hxb hcp
 obtain ⟨g, hg⟩ : ∃ g, g = gof a xs es := ⟨_, rfl⟩
 rw [← hg] at hbo
 clear hg
 go_enter Tryz.func6, Tryz.ntmps6
 go_upto_region 1 with fail
 rw [HW0.out.1, HW0.out.2]
 clear HW0
 go_wp2_with fail
 refine hbo.mono ?_
 clear hbo c0 l0
 rintro r w1 ⟨hb1, hr⟩
 have HB1 := hid hb1
 clear hb1
 rcases hr with rfl | ⟨tb, rb, R, hok, hres, rfl, htp, htr⟩
 ·go_wp2_with fail
  refine (known_any w1).mono ?_
  rintro r w2 ⟨rfl, H2⟩
  go_wp2
  go_ret
  exact ⟨rfl, P0.out.1.trans ((HB1.out.trans (H2.out.mono HB1.out.size)).mono P0.out.1.size)⟩
 ·have HR := hid (bt_len hres)
  have HRS := hid hres
  have HT := hid htp
  clear hres htp htr hok
  generalize plN g.nodes = n at *
  go_wp2_with fail
  refine (known_any w1).mono ?_
  rintro r Wk ⟨rfl, H2⟩
  have HF : Hid (∀ W v' l' M', Below Wk.heap.size Wk W → Df.Lz EF M' W v' l' → l'.length ≤ 41 → Calls Tryz.prog 19 #[.pointer (some ⟨tb, 0, none⟩), .int .i64 q, v'] W fun e w' => ∃ pp c, e = .returned (.slice pp (frt (allT n R q l')).length c) ∧ Hid (Ls Pc.ET w' (.slice pp (frt (allT n R q l')).length c) (frt (allT n R q l')) ∧ Below W.heap.size W w')) := fun W v' l' M' hb hz hl => by
   have h1 := H2.out.trans (hb.mono H2.out.size)
   refine (front_any q W (Or.inr ⟨tb, rfl, HT.out.keep h1⟩) h1.size HR.out hz (by omega)).mono ?_
   rintro e w' ⟨v, rfl, h1, h2⟩
   obtain ⟨pp, c, rfl⟩ := (owns_ls (E := Pc.ET) h1).form
   exact ⟨pp, c, rfl, owns_ls (E := Pc.ET) h1, h2⟩
  have HCD : Hid (∀ W (s u : Hf.Th), Below Wk.heap.size Wk W → Calls Tryz.prog 17 #[.pointer (some ⟨tb, 0, none⟩), .agg #[.int .i64 s.1, .int .u64 s.2.1.1, .int .u64 s.2.1.2.1, .int .u64 s.2.1.2.2], .agg #[.int .i64 u.1, .int .u64 u.2.1.1, .int .u64 u.2.1.2.1, .int .u64 u.2.1.2.2]] W fun e w' => e = .returned (.bool (cldB n R s u)) ∧ Below W.heap.size W w') := fun W s u hb => by
   have h1 := H2.out.trans (hb.mono H2.out.size)
   exact could_any s u W (Or.inr ⟨tb, rfl, HT.out.keep h1⟩) h1.size (HR.out _ _)
  have HZ : Hid (∀ W, Below Wk.heap.size Wk W → Df.Lz EF M2 W (.slice ps l.length cs) l) := fun W hb => by
   have h1 := H2.out.trans (hb.mono H2.out.size)
   exact P0.out.2.2.below (HB1.out.trans (h1.mono HB1.out.size))
  have HBk : Hid (Below w.heap.size w Wk) := P0.out.1.trans ((HB1.out.trans (H2.out.mono HB1.out.size)).mono P0.out.1.size)
  clear H2 HT HB1 P0
  go_wp2_with fail
  go_loopw [11, 12] (fun s11 s12 wr => ∃ i : Nat, i ≤ 40 ∧ i ≤ l.length ∧ s12 = .int .i64 i ∧ Hid (wr.ownsRow Wk.heap.size 50 3 s11 (fe n R q (l.take i)).length (Pc.flT (fe n R q (l.take i))) ∧ Below Wk.heap.size Wk wr)) (fun _ s12 _ => 40 - (RowKit.intOf s12).toNat)
  case atStart => exact ⟨0, by omega, by omega, rfl, World.ownsRow_nil _ _ _ _, Below.refl _ _⟩
  case round =>
   obtain ⟨i, hi, hi2, rfl, HK⟩ := hrel
   by_cases hil : i < l.length ∧ i < 40
   ·have hilz : (i : Int) < (l.length : Int) := by omega
    have hil4 : (i : Int) < 40 := by omega
    obtain ⟨s, hs⟩ : ∃ s, l[i]? = some s := ⟨l[i]'hil.1, by simp⟩
    obtain ⟨b1, o1, c1, hv1, hb1, s0, s1, s2, s3⟩ := EF_at ((HZ.out _ HK.out.2).ls hs) hs
    cases hv1
    have hn7 := heap_new' wr (.cells #[.int .i64 s.1, .int .u64 s.2.1.1, .int .u64 s.2.1.2.1, .int .u64 s.2.1.2.2] 52)
    have hB7 : Below Wk.heap.size Wk (wr.alloc (.cells #[.int .i64 s.1, .int .u64 s.2.1.1, .int .u64 s.2.1.2.1, .int .u64 s.2.1.2.2] 52)) := HK.out.2.trans (((Gr.refl wr).alloc _).below.mono HK.out.2.size)
    have hcall := HF.out _ _ [s] _ hB7 (Or.inl ⟨sm_row1 (c := 1) hn7, (sm_row1 (c := 1) hn7).blk⟩) (by simp)
    have HN := hid (fe_take (n := n) (R := R) (q := q) hs)
    have HL1 : Hid ((frt (allT n R q [s])).length ≤ 64) := by have := fr1_len HR.out q [s]; show _ ≤ _; simpa using this
    have HL2 : Hid ((fe n R q (l.take i)).length ≤ 2560) := by
     have h1 := fe_len HR.out q (l.take i)
     rw [List.length_take] at h1
     show _ ≤ _
     omega
    generalize frt (allT n R q [s]) = fr at *
    generalize fe n R q (l.take i) = al at *
    have HWA : Hid (Below wr.heap.size wr (wr.alloc (.cells #[.int .i64 s.1, .int .u64 s.2.1.1, .int .u64 s.2.1.2.1, .int .u64 s.2.1.2.2] 52))) := ((Gr.refl wr).alloc _).below
    clear hn7 hB7
    go_wp2_with fail
    refine hcall.mono ?_
    clear hcall s0 s1 s2 s3 hb1
    rintro r w8 ⟨p8, c8, rfl, H8⟩
    have HB8 : Hid (Below wr.heap.size wr w8) := HWA.out.trans (H8.out.2.mono HWA.out.size)
    have hwz : Wk.heap.size ≤ w8.heap.size := Nat.le_trans HK.out.2.size HB8.out.size
    have HO8 := hid (owns_below HK.out.1 HB8.out)
    go_wp2_with (at_builtin; refine wpTL rfl _ _ rfl Wk.heap.size _ al.length _ rfl HO8.out (.slice p8 fr.length c8) fr rfl H8.out.1 (by have := HL1.out; have := HL2.out; omega) hwz ?_)
    intro v9 w9 ho9 hg9
    have F9 : Hid (w9.ownsRow Wk.heap.size 50 3 v9 (fe n R q (l.take (i + 1))).length (Pc.flT (fe n R q (l.take (i + 1)))) ∧ Below Wk.heap.size Wk w9) := by
     rw [HN.out]
     exact ⟨owns_re ho9 (by simp) (by rw [Pc.flT_append]), (HK.out.2.trans (HB8.out.mono HK.out.2.size)).trans ((Kp.grownBy (S := fun k => Wk.heap.size ≤ k) hg9 (fun k hk => (HO8.out.lt k hk).1)).below hwz (fun _ h => h))⟩
    clear ho9 hg9
    go_wp2
    go_roundw
    case rel => exact ⟨i + 1, by omega, by omega, by first | rfl | go_num, F9.out⟩
    case measure => simp [RowKit.intOf]; omega
   ·have hie : i = (l.take 40).length := by rw [List.length_take]; omega
    have HA : Hid (wr.ownsRow Wk.heap.size 50 3 u11 (fe n R q (l.take 40)).length (Pc.flT (fe n R q (l.take 40))) ∧ Below Wk.heap.size Wk wr) := by
     have : l.take i = l.take 40 := by
      rw [hie, List.length_take, ← List.take_take, List.take_length]
     rw [← this]
     exact HK.out
    have hcond : ((i : Int) < (l.length : Int) ∧ ¬ (i : Int) < 40) ∨ ¬ (i : Int) < (l.length : Int) := by omega
    clear HK
    clear hie hil hi hi2
    rcases hcond with ⟨hilz, hil4⟩ | hilz
    ·skip
     go_upto_if 52 with fail
     go_cut [2] (fun s2 wx => ∃ p c, s2 = .slice p (l.take 40).length c ∧ Hid (∀ W, Below Wk.heap.size Wk W → Df.Lz EF M2 W (.slice p (l.take 40).length c) (l.take 40)) ∧ wx = wr)
     case first =>
      by_cases h40 : 40 < l.length
      ·have z1 : (40 : Int) < (l.length : Int) := by omega
       have z2 : 40 ≤ cs := by omega
       have z3 : (40 : Int) ≤ (cs : Int) := by omega
       go_wp2_with fail
       go_meet
       exact ⟨ps, cs, by rw [List.length_take, Nat.min_eq_left (by omega)], fun W hb => by rw [List.length_take, Nat.min_eq_left (by omega)]; exact (HZ.out W hb).front 40 (by omega) cs, rfl⟩
      ·have z1 : ¬ (40 : Int) < (l.length : Int) := by omega
       have z2 : l.take 40 = l := List.take_of_length_le (by omega)
       go_wp2_with fail
       all_goals go_meet
       all_goals exact ⟨ps, cs, by rw [z2], fun W hb => by rw [z2]; exact HZ.out W hb, rfl⟩
     case rest =>
      obtain ⟨p4, c4, rfl, HZ4, rfl⟩ := hcut
      clear HZ hcs
      have HL4 : Hid ((l.take 40).length ≤ 40) := by show _ ≤ _; rw [List.length_take]; omega
      generalize l.take 40 = l4 at *
      have hfr := HF.out _ _ l4 M2 HA.out.2 (HZ4.out _ HA.out.2) (by have := HL4.out; omega)
      have HFL : Hid ((frt (allT n R q l4)).length ≤ 2560) := by have := fr1_len HR.out q l4; have := HL4.out; show _ ≤ _; omega
      have HEL : Hid ((fe n R q l4).length ≤ 2560) := by have := fe_len HR.out q l4; have := HL4.out; show _ ≤ _; omega
      have HFE : Hid (frt (allT n R q l4) = frt (fe n R q l4)) := frt_each q l4
      have HFM : Hid (∀ (s : Hf.Th) (mo : List Hf.Th), (∀ u ∈ mo, u ∈ l4) → s ∈ mo → (∀ u ∈ l4, u ∈ mo ∨ cldB n R s u = true) → frt (allT n R q mo) = frt (allT n R q l4)) := fun s mo h1 hm h2 => frt_more HRS.out q h1 hm h2
      generalize frt (allT n R q l4) = fr at *
      generalize fe n R q l4 = al at *
      go_wp2_with fail
      refine hfr.mono ?_
      clear hfr
      rintro r w6 ⟨p6, c6, rfl, H6⟩
      have HO6 := hid (owns_below HA.out.1 H6.out.2)
      have HB6 : Hid (Below Wk.heap.size Wk w6) := HA.out.2.trans (H6.out.2.mono HA.out.2.size)
      clear HA
      go_wp2_with fail
      refine (rfront_any _ al w6 (owns_ls (E := Pc.ET) HO6.out) (by have := HEL.out; omega)).mono ?_
      rintro r w7 ⟨v7, r7, rfl, o7, s7, m7, b7⟩
      have hr7 : r7 = fr := (frt_of s7 m7).trans HFE.out.symm
      subst hr7
      have HV7 : Hid (Ls Pc.ET w7 v7 r7) := out_ls o7
      have H67 : Hid (Ls Pc.ET w7 (.slice p6 r7.length c6) r7) := H6.out.1.below b7
      have HB7 : Hid (Below Wk.heap.size Wk w7) := HB6.out.trans (b7.mono HB6.out.size)
      clear o7 s7 m7 b7 H6 HO6 HB6 HFE HEL
      go_wp2_with fail
      refine (sameT_eq w7 H67.out HV7.out (by have := HFL.out; omega)).mono ?_
      rintro r w8 ⟨rfl, g8⟩
      have H68 : Hid (Ls Pc.ET w8 (.slice p6 r7.length c6) r7) := H67.out.below g8.below
      have HB8 : Hid (Below Wk.heap.size Wk w8) := HB7.out.trans (g8.below.mono HB7.out.size)
      clear g8 H67 HV7 HB7
      have HS6 : Hid (∀ W, Below w8.heap.size w8 W → Ls Pc.ET W (.slice p6 r7.length c6) r7) := fun W hb => H68.out.below hb
      clear H68
      go_wp2_with fail
      go_loopw [14, 15, 16] (fun s14 _ _ wx => ∃ i : Nat, i ≤ l4.length ∧ s14 = .int .i64 i ∧ Hid (Below w8.heap.size w8 wx)) (fun s14 _ _ _ => 40 - (RowKit.intOf s14).toNat)
      case atStart => exact ⟨0, by omega, rfl, Below.refl _ _⟩
      case round =>
       obtain ⟨i, hi, rfl, HX⟩ := hrel
       have hL4 := HL4.out
       by_cases hil : i < l4.length
       ·have hilz : (i : Int) < (l4.length : Int) := by omega
        obtain ⟨s, hs⟩ : ∃ s, l4[i]? = some s := ⟨l4[i]'hil, by simp⟩
        have HBX : Hid (Below Wk.heap.size Wk wr) := HB8.out.trans (HX.out.mono HB8.out.size)
        obtain ⟨b1, o1, c1, hv1, hb1, s0, s1, s2, s3⟩ := EF_at ((HZ4.out _ HBX.out).ls hs) hs
        cases hv1
        obtain ⟨B, hB⟩ : ∃ B, B = wr.heap.size := ⟨_, rfl⟩
        have HZW : Hid (∀ W, Below wr.heap.size wr W → Df.Lz EF M2 W (.slice (some ⟨b1, o1, none⟩) l4.length c4) l4) := fun W hb => HZ4.out _ (HBX.out.trans (hb.mono HBX.out.size))
        have HE : Hid (∀ W, Below wr.heap.size wr W → (W.cell? ⟨b1, o1 + i * 4, none⟩ = some (.int .i64 s.1) ∧ W.cell? ⟨b1, o1 + i * 4 + 1, none⟩ = some (.int .u64 s.2.1.1) ∧ W.cell? ⟨b1, o1 + i * 4 + 2, none⟩ = some (.int .u64 s.2.1.2.1) ∧ W.cell? ⟨b1, o1 + i * 4 + 3, none⟩ = some (.int .u64 s.2.1.2.2)) ∧ b1 < W.heap.size) := fun W hb => ⟨⟨(hb.cell (p := ⟨b1, o1 + i * 4, none⟩) hb1).trans s0, (hb.cell (p := ⟨b1, o1 + i * 4 + 1, none⟩) hb1).trans s1, (hb.cell (p := ⟨b1, o1 + i * 4 + 2, none⟩) hb1).trans s2, (hb.cell (p := ⟨b1, o1 + i * 4 + 3, none⟩) hb1).trans s3⟩, Nat.lt_of_lt_of_le hb1 hb.size⟩
        have HSI : Hid (s ∈ l4) := List.mem_of_getElem? hs
        have HS := hid hs
        clear s0 s1 s2 s3 hb1 hs
        go_upto_region 19 with fail
        go_cut [15] from 64 to 119 (fun s15 wc => ∃ g cap, s15 = .slice (some ⟨g, 0, none⟩) (l4.length + 1) cap ∧ Hid (wc.ownsRow wr.heap.size 52 4 s15 (l4.length + 1) (fl EF (l4 ++ [s])) ∧ Below wr.heap.size wr wc))
        case first =>
         have BD : Hid (Below wr.heap.size wr wr.drew) := (Gr.refl wr).drew.below
         have hi0 : (0 : Int) ≤ (i : Int) := by omega
         refine wp_regionD (S := fun W => Below wr.heap.size wr W) (D := []) hmx ?_
         generalize wr.drew = Wd at BD ⊢
         refine' wpAnyD_take (i := 1) (oi := {dst := some 71, op := .move (.tmp 2), type := 49, pos := "law.go:344", after := #[], guard := none}) (v := _) rfl (by kernel_rfl) (by kernel_rfl) (by kernel_rfl) (fun _ _ _ h => h) (by kernel_rfl) (Or.inl ⟨by rfl, ?hy5001⟩) BD.out ?rest5001
         case hy5001 => (intro W hSw; go_simp; try (with_reducible rfl))
         try simp only [Act.put, List.setIfInBounds_toArray, List.set_cons_zero, List.set_cons_succ]
         refine' wpAnyD_take (i := 3) (oi := {dst := some 73, op := .move (.tmp 2), type := 49, pos := "law.go:344", after := #[], guard := none}) (v := _) rfl (by kernel_rfl) (by kernel_rfl) (by kernel_rfl) (fun _ _ _ h => h) (by kernel_rfl) (Or.inl ⟨by rfl, ?hy5002⟩) BD.out ?rest5002
         case hy5002 => (intro W hSw; go_simp; try (with_reducible rfl))
         try simp only [Act.put, List.setIfInBounds_toArray, List.set_cons_zero, List.set_cons_succ]
         refine' wpAnyD_take (i := 4) (oi := {dst := some 74, op := .move (.tmp 14), type := 3, pos := "law.go:344", after := #[], guard := none}) (v := _) rfl (by kernel_rfl) (by kernel_rfl) (by kernel_rfl) (fun _ _ _ h => h) (by kernel_rfl) (Or.inl ⟨by rfl, ?hy5003⟩) BD.out ?rest5003
         case hy5003 => (intro W hSw; go_simp; try (with_reducible rfl))
         try simp only [Act.put, List.setIfInBounds_toArray, List.set_cons_zero, List.set_cons_succ]
         refine' wpAnyD_take (i := 5) (oi := {dst := some 75, op := .indexAddr 49 (.tmp 73) (.tmp 74), type := 0, pos := "law.go:344", after := #[{on := 3, ground := .data}, {on := 4, ground := .data}], guard := none}) (v := _) rfl (by kernel_rfl) (by kernel_rfl) (by kernel_rfl) (fun _ _ _ h => h) (by kernel_rfl) (Or.inl ⟨by rfl, ?hy5004⟩) BD.out ?rest5004
         case hy5004 => (intro W hSw; obtain ⟨⟨t0, t1, t2, t3⟩, hl⟩ := HE.out W hSw; go_simp; try (with_reducible rfl))
         try simp only [Act.put, List.setIfInBounds_toArray, List.set_cons_zero, List.set_cons_succ]
         refine' wpAnyD_take (i := 6) (oi := {dst := some 76, op := .load 52 (.tmp 75), type := 52, pos := "law.go:344", after := #[{on := 5, ground := .data}], guard := none}) (v := _) rfl (by kernel_rfl) (by kernel_rfl) (by kernel_rfl) (fun _ _ _ h => h) (by kernel_rfl) (Or.inl ⟨by rfl, ?hy5005⟩) BD.out ?rest5005
         case hy5005 => (intro W hSw; obtain ⟨⟨t0, t1, t2, t3⟩, hl⟩ := HE.out W hSw; go_simp; try (with_reducible rfl))
         try simp only [Act.put, List.setIfInBounds_toArray, List.set_cons_zero, List.set_cons_succ]
         refine wpAnyD_two (i := 0) (j := 7) (oi := {dst := some 70, op := .buildSlice 49 0 #[], type := 49, pos := "law.go:344", after := #[], guard := none}) (oj := {dst := some 77, op := .buildSlice 49 1 #[(0, .tmp 76)], type := 49, pos := "law.go:344", after := #[{on := 6, ground := .data}], guard := none}) (by kernel_rfl) rfl rfl (fun K hK => ?_) (fun K hK => ?_)
         ·skip
          go_simp
          have g7 := (Gr.refl Wd).alloc (.cells #[] 52)
          obtain ⟨b7, hb7⟩ : ∃ b, b = Wd.heap.size := ⟨_, rfl⟩
          obtain ⟨V7, hV7⟩ : ∃ V, V = Wd.alloc (.cells #[] 52) := ⟨_, rfl⟩
          rw [← hV7, ← hb7]
          rw [← hV7] at g7
          have B7 := hid (BD.out.trans (g7.below.mono BD.out.size))
          have O7 : Hid (V7.ownsRow wr.heap.size 52 4 (.slice (some ⟨b7, 0, none⟩) 0 0) 0 []) := by
           rw [hV7, hb7]
           exact World.ownsRow_made Wd #[] 0 BD.out.size (Nat.zero_le _) rfl
          clear g7 hV7 hb7
          refine hK.out _ _ (fun hD => B7.out) ?_
          clear hK K
          try simp only [Act.put, List.setIfInBounds_toArray, List.set_cons_zero, List.set_cons_succ]
          refine wpAnyD_two (i := 2) (j := 7) (oi := {dst := some 72, op := .call {callee := .builtin .append, args := #[.tmp 70, .tmp 71], argTypes := #[49, 49]}, type := 49, pos := "law.go:344", after := #[{on := 0, ground := .data}, {on := 1, ground := .data}], guard := none}) (oj := {dst := some 77, op := .buildSlice 49 1 #[(0, .tmp 76)], type := 49, pos := "law.go:344", after := #[{on := 6, ground := .data}], guard := none}) (by kernel_rfl) rfl rfl (fun K hK => ?_) (fun K hK => ?_)
          ·skip
           refine Df.step_appZ EF Tryz.underlying49 infoSt rfl (by decide) rfl _ _ rfl wr.heap.size (.slice (some ⟨b7, 0, none⟩) 0 0) 0 [] rfl O7.out B7.out.size M2 (.slice (some ⟨b1, o1, none⟩) l4.length c4) l4 rfl (HZW.out _ B7.out) (by have := HL4.out; omega) (by have := HL4.out; unfold maxLen; omega) ?_
           intro v8 w8 h8 k8
           have K8 := hid (Kp.grownBy (S := fun k => ((.slice (some ⟨b7, 0, none⟩) 0 0) : Value).ownBlock = some k) k8.out (fun _ h => h))
           have B8 := hid (B7.out.trans (K8.out.below B7.out.size (fun k hk => (O7.out.lt k hk).1)))
           have O8 : Hid (w8.ownsRow wr.heap.size 52 4 v8 l4.length (fl EF l4)) := owns_re h8.out (by simp) (by simp)
           clear h8 k8
           refine hK.out _ _ (fun hD => B8.out) ?_
           clear hK K
           try simp only [Act.put, List.setIfInBounds_toArray, List.set_cons_zero, List.set_cons_succ]
           refine wpAnyD_one (i := 7) (o := {dst := some 77, op := .buildSlice 49 1 #[(0, .tmp 76)], type := 49, pos := "law.go:344", after := #[{on := 6, ground := .data}], guard := none}) (by kernel_rfl) rfl (fun K hK => ?_)
           go_simp
           have g9 := (Gr.refl w8).alloc (.cells #[.int .i64 s.1, .int .u64 s.2.1.1, .int .u64 s.2.1.2.1, .int .u64 s.2.1.2.2] 52)
           have a9 := heap_new' w8 (.cells #[.int .i64 s.1, .int .u64 s.2.1.1, .int .u64 s.2.1.2.1, .int .u64 s.2.1.2.2] 52)
           obtain ⟨b9, hb9⟩ : ∃ b, b = w8.heap.size := ⟨_, rfl⟩
           obtain ⟨V9, hV9⟩ : ∃ V, V = w8.alloc (.cells #[.int .i64 s.1, .int .u64 s.2.1.1, .int .u64 s.2.1.2.1, .int .u64 s.2.1.2.2] 52) := ⟨_, rfl⟩
           rw [← hV9, ← hb9]
           rw [← hV9] at g9 a9
           have B9 := hid (B8.out.trans (g9.below.mono B8.out.size))
           have M9 : Hid (V9.heap[b9]? = some (.cells #[.int .i64 s.1, .int .u64 s.2.1.1, .int .u64 s.2.1.2.1, .int .u64 s.2.1.2.2] 52 (0, 0))) := by
            show _ = _
            rw [hb9]
            exact a9
           have O9 := hid (owns_below O8.out g9.below)
           have N9 : Hid (∀ k, (v8 : Value).ownBlock = some k → k ≠ b9) := fun k hk e => by
            have h1 := (O8.out.lt k hk).2
            omega
           clear g9 a9 hV9 hb9
           refine hK.out _ _ (fun hD => B9.out) ?_
           clear hK K
           try simp only [Act.put, List.setIfInBounds_toArray, List.set_cons_zero, List.set_cons_succ]
           refine wpAnyD_one (i := 8) (o := {dst := some 78, op := .call {callee := .builtin .append, args := #[.tmp 72, .tmp 77], argTypes := #[49, 49]}, type := 49, pos := "law.go:344", after := #[{on := 2, ground := .data}, {on := 7, ground := .data}, {on := 2, ground := .chain}], guard := none}) (by kernel_rfl) rfl (fun K hK => ?_)
           refine step_appL EF Tryz.underlying49 infoSt rfl (by decide) rfl _ _ rfl wr.heap.size v8 l4.length (fl EF l4) rfl O9.out B9.out.size (.slice (some ⟨b9, 0, none⟩) 1 1) [s] rfl (Df.one_ls M9.out rfl) (by have := HL4.out; simp; omega) (by have := HL4.out; unfold maxLen; simp; omega) ?_
           intro v10 w10 h10 k10
           have K10 := hid (Kp.grownBy (S := fun k => (v8 : Value).ownBlock = some k) k10.out (fun _ h => h))
           have B10 := hid (B9.out.trans (K10.out.below B9.out.size (fun k hk => (O9.out.lt k hk).1)))
           have O10 : Hid (w10.ownsRow wr.heap.size 52 4 v10 (l4.length + 1) (fl EF (l4 ++ [s]))) := owns_re h10.out (by simp) (by rw [fl_append])
           clear h10 k10
           refine hK.out _ _ (fun hD => B10.out) ?_
           clear hK K
           try simp only [Act.put, List.setIfInBounds_toArray, List.set_cons_zero, List.set_cons_succ]
           refine wpAnyD_one (i := 9) (o := {dst := some 15, op := .assign (.tmp 78), type := 49, pos := "law.go:344", after := #[{on := 8, ground := .data}, {on := 8, ground := .chain}, {on := 0, ground := .phase}, {on := 1, ground := .phase}, {on := 2, ground := .phase}, {on := 3, ground := .phase}, {on := 4, ground := .phase}, {on := 5, ground := .phase}, {on := 6, ground := .phase}, {on := 7, ground := .phase}, {on := 8, ground := .phase}], guard := none}) (by kernel_rfl) rfl (fun K hK => ?_)
           go_simp
           refine hK.out _ _ (fun hD => B10.out) ?_
           clear hK K
           try simp only [Act.put, List.setIfInBounds_toArray, List.set_cons_zero, List.set_cons_succ]
           refine wpAnyD_done (by kernel_rfl) ?_ _
           go_wp2_with fail
           go_meet
           obtain ⟨gg, cg, hg⟩ := own_form O10.out
           exact ⟨gg, cg, hg, O10.out, B10.out⟩
          ·skip
           go_simp
           have g13 := (Gr.refl V7).alloc (.cells #[.int .i64 s.1, .int .u64 s.2.1.1, .int .u64 s.2.1.2.1, .int .u64 s.2.1.2.2] 52)
           have a13 := heap_new' V7 (.cells #[.int .i64 s.1, .int .u64 s.2.1.1, .int .u64 s.2.1.2.1, .int .u64 s.2.1.2.2] 52)
           obtain ⟨b13, hb13⟩ : ∃ b, b = V7.heap.size := ⟨_, rfl⟩
           obtain ⟨V13, hV13⟩ : ∃ V, V = V7.alloc (.cells #[.int .i64 s.1, .int .u64 s.2.1.1, .int .u64 s.2.1.2.1, .int .u64 s.2.1.2.2] 52) := ⟨_, rfl⟩
           rw [← hV13, ← hb13]
           rw [← hV13] at g13 a13
           have B13 := hid (B7.out.trans (g13.below.mono B7.out.size))
           have M13 : Hid (V13.heap[b13]? = some (.cells #[.int .i64 s.1, .int .u64 s.2.1.1, .int .u64 s.2.1.2.1, .int .u64 s.2.1.2.2] 52 (0, 0))) := by
            show _ = _
            rw [hb13]
            exact a13
           have O13 := hid (owns_below O7.out g13.below)
           have N13 : Hid (∀ k, ((.slice (some ⟨b7, 0, none⟩) 0 0) : Value).ownBlock = some k → k ≠ b13) := fun k hk e => by
            have h1 := (O7.out.lt k hk).2
            omega
           clear g13 a13 hV13 hb13
           refine hK.out _ _ (fun hD => B13.out) ?_
           clear hK K
           try simp only [Act.put, List.setIfInBounds_toArray, List.set_cons_zero, List.set_cons_succ]
           refine wpAnyD_one (i := 2) (o := {dst := some 72, op := .call {callee := .builtin .append, args := #[.tmp 70, .tmp 71], argTypes := #[49, 49]}, type := 49, pos := "law.go:344", after := #[{on := 0, ground := .data}, {on := 1, ground := .data}], guard := none}) (by kernel_rfl) rfl (fun K hK => ?_)
           refine Df.step_appZ EF Tryz.underlying49 infoSt rfl (by decide) rfl _ _ rfl wr.heap.size (.slice (some ⟨b7, 0, none⟩) 0 0) 0 [] rfl O13.out B13.out.size M2 (.slice (some ⟨b1, o1, none⟩) l4.length c4) l4 rfl (HZW.out _ B13.out) (by have := HL4.out; omega) (by have := HL4.out; unfold maxLen; omega) ?_
           intro v14 w14 h14 k14
           have K14 := hid (Kp.grownBy (S := fun k => ((.slice (some ⟨b7, 0, none⟩) 0 0) : Value).ownBlock = some k) k14.out (fun _ h => h))
           have B14 := hid (B13.out.trans (K14.out.below B13.out.size (fun k hk => (O13.out.lt k hk).1)))
           have O14 : Hid (w14.ownsRow wr.heap.size 52 4 v14 l4.length (fl EF l4)) := owns_re h14.out (by simp) (by simp)
           have M14 := hid ((K14.out.block _ (tk_lt M13.out) (fun e => N13.out _ e rfl)).trans M13.out)
           clear h14 k14
           refine hK.out _ _ (fun hD => B14.out) ?_
           clear hK K
           try simp only [Act.put, List.setIfInBounds_toArray, List.set_cons_zero, List.set_cons_succ]
           refine wpAnyD_one (i := 8) (o := {dst := some 78, op := .call {callee := .builtin .append, args := #[.tmp 72, .tmp 77], argTypes := #[49, 49]}, type := 49, pos := "law.go:344", after := #[{on := 2, ground := .data}, {on := 7, ground := .data}, {on := 2, ground := .chain}], guard := none}) (by kernel_rfl) rfl (fun K hK => ?_)
           refine step_appL EF Tryz.underlying49 infoSt rfl (by decide) rfl _ _ rfl wr.heap.size v14 l4.length (fl EF l4) rfl O14.out B14.out.size (.slice (some ⟨b13, 0, none⟩) 1 1) [s] rfl (Df.one_ls M14.out rfl) (by have := HL4.out; simp; omega) (by have := HL4.out; unfold maxLen; simp; omega) ?_
           intro v15 w15 h15 k15
           have K15 := hid (Kp.grownBy (S := fun k => (v14 : Value).ownBlock = some k) k15.out (fun _ h => h))
           have B15 := hid (B14.out.trans (K15.out.below B14.out.size (fun k hk => (O14.out.lt k hk).1)))
           have O15 : Hid (w15.ownsRow wr.heap.size 52 4 v15 (l4.length + 1) (fl EF (l4 ++ [s]))) := owns_re h15.out (by simp) (by rw [fl_append])
           clear h15 k15
           refine hK.out _ _ (fun hD => B15.out) ?_
           clear hK K
           try simp only [Act.put, List.setIfInBounds_toArray, List.set_cons_zero, List.set_cons_succ]
           refine wpAnyD_one (i := 9) (o := {dst := some 15, op := .assign (.tmp 78), type := 49, pos := "law.go:344", after := #[{on := 8, ground := .data}, {on := 8, ground := .chain}, {on := 0, ground := .phase}, {on := 1, ground := .phase}, {on := 2, ground := .phase}, {on := 3, ground := .phase}, {on := 4, ground := .phase}, {on := 5, ground := .phase}, {on := 6, ground := .phase}, {on := 7, ground := .phase}, {on := 8, ground := .phase}], guard := none}) (by kernel_rfl) rfl (fun K hK => ?_)
           go_simp
           refine hK.out _ _ (fun hD => B15.out) ?_
           clear hK K
           try simp only [Act.put, List.setIfInBounds_toArray, List.set_cons_zero, List.set_cons_succ]
           refine wpAnyD_done (by kernel_rfl) ?_ _
           go_wp2_with fail
           go_meet
           obtain ⟨gg, cg, hg⟩ := own_form O15.out
           exact ⟨gg, cg, hg, O15.out, B15.out⟩
         ·skip
          go_simp
          have g17 := (Gr.refl Wd).alloc (.cells #[.int .i64 s.1, .int .u64 s.2.1.1, .int .u64 s.2.1.2.1, .int .u64 s.2.1.2.2] 52)
          have a17 := heap_new' Wd (.cells #[.int .i64 s.1, .int .u64 s.2.1.1, .int .u64 s.2.1.2.1, .int .u64 s.2.1.2.2] 52)
          obtain ⟨b17, hb17⟩ : ∃ b, b = Wd.heap.size := ⟨_, rfl⟩
          obtain ⟨V17, hV17⟩ : ∃ V, V = Wd.alloc (.cells #[.int .i64 s.1, .int .u64 s.2.1.1, .int .u64 s.2.1.2.1, .int .u64 s.2.1.2.2] 52) := ⟨_, rfl⟩
          rw [← hV17, ← hb17]
          rw [← hV17] at g17 a17
          have B17 := hid (BD.out.trans (g17.below.mono BD.out.size))
          have M17 : Hid (V17.heap[b17]? = some (.cells #[.int .i64 s.1, .int .u64 s.2.1.1, .int .u64 s.2.1.2.1, .int .u64 s.2.1.2.2] 52 (0, 0))) := by
           show _ = _
           rw [hb17]
           exact a17
          clear g17 a17 hV17 hb17
          refine hK.out _ _ (fun hD => B17.out) ?_
          clear hK K
          try simp only [Act.put, List.setIfInBounds_toArray, List.set_cons_zero, List.set_cons_succ]
          refine wpAnyD_one (i := 0) (o := {dst := some 70, op := .buildSlice 49 0 #[], type := 49, pos := "law.go:344", after := #[], guard := none}) (by kernel_rfl) rfl (fun K hK => ?_)
          go_simp
          have g18 := (Gr.refl V17).alloc (.cells #[] 52)
          obtain ⟨b18, hb18⟩ : ∃ b, b = V17.heap.size := ⟨_, rfl⟩
          obtain ⟨V18, hV18⟩ : ∃ V, V = V17.alloc (.cells #[] 52) := ⟨_, rfl⟩
          rw [← hV18, ← hb18]
          rw [← hV18] at g18
          have B18 := hid (B17.out.trans (g18.below.mono B17.out.size))
          have O18 : Hid (V18.ownsRow wr.heap.size 52 4 (.slice (some ⟨b18, 0, none⟩) 0 0) 0 []) := by
           rw [hV18, hb18]
           exact World.ownsRow_made V17 #[] 0 B17.out.size (Nat.zero_le _) rfl
          have M18 := hid ((g18.below.block _ (tk_lt M17.out)).trans M17.out)
          have N18 : Hid (∀ k, ((.slice (some ⟨b18, 0, none⟩) 0 0) : Value).ownBlock = some k → k ≠ b17) := fun k hk e => by
           have h1 := tk_lt M17.out
           simp [Value.ownBlock] at hk
           omega
          clear g18 hV18 hb18
          refine hK.out _ _ (fun hD => B18.out) ?_
          clear hK K
          try simp only [Act.put, List.setIfInBounds_toArray, List.set_cons_zero, List.set_cons_succ]
          refine wpAnyD_one (i := 2) (o := {dst := some 72, op := .call {callee := .builtin .append, args := #[.tmp 70, .tmp 71], argTypes := #[49, 49]}, type := 49, pos := "law.go:344", after := #[{on := 0, ground := .data}, {on := 1, ground := .data}], guard := none}) (by kernel_rfl) rfl (fun K hK => ?_)
          have M17' := M18
          refine Df.step_appZ EF Tryz.underlying49 infoSt rfl (by decide) rfl _ _ rfl wr.heap.size (.slice (some ⟨b18, 0, none⟩) 0 0) 0 [] rfl O18.out B18.out.size M2 (.slice (some ⟨b1, o1, none⟩) l4.length c4) l4 rfl (HZW.out _ B18.out) (by have := HL4.out; omega) (by have := HL4.out; unfold maxLen; omega) ?_
          intro v19 w19 h19 k19
          have K19 := hid (Kp.grownBy (S := fun k => ((.slice (some ⟨b18, 0, none⟩) 0 0) : Value).ownBlock = some k) k19.out (fun _ h => h))
          have B19 := hid (B18.out.trans (K19.out.below B18.out.size (fun k hk => (O18.out.lt k hk).1)))
          have O19 : Hid (w19.ownsRow wr.heap.size 52 4 v19 l4.length (fl EF l4)) := owns_re h19.out (by simp) (by simp)
          have M19 := hid ((K19.out.block _ (tk_lt M18.out) (fun e => N18.out _ e rfl)).trans M18.out)
          clear h19 k19 M17'
          refine hK.out _ _ (fun hD => B19.out) ?_
          clear hK K
          try simp only [Act.put, List.setIfInBounds_toArray, List.set_cons_zero, List.set_cons_succ]
          refine wpAnyD_one (i := 8) (o := {dst := some 78, op := .call {callee := .builtin .append, args := #[.tmp 72, .tmp 77], argTypes := #[49, 49]}, type := 49, pos := "law.go:344", after := #[{on := 2, ground := .data}, {on := 7, ground := .data}, {on := 2, ground := .chain}], guard := none}) (by kernel_rfl) rfl (fun K hK => ?_)
          refine step_appL EF Tryz.underlying49 infoSt rfl (by decide) rfl _ _ rfl wr.heap.size v19 l4.length (fl EF l4) rfl O19.out B19.out.size (.slice (some ⟨b17, 0, none⟩) 1 1) [s] rfl (Df.one_ls M19.out rfl) (by have := HL4.out; simp; omega) (by have := HL4.out; unfold maxLen; simp; omega) ?_
          intro v20 w20 h20 k20
          have K20 := hid (Kp.grownBy (S := fun k => (v19 : Value).ownBlock = some k) k20.out (fun _ h => h))
          have B20 := hid (B19.out.trans (K20.out.below B19.out.size (fun k hk => (O19.out.lt k hk).1)))
          have O20 : Hid (w20.ownsRow wr.heap.size 52 4 v20 (l4.length + 1) (fl EF (l4 ++ [s]))) := owns_re h20.out (by simp) (by rw [fl_append])
          clear h20 k20
          refine hK.out _ _ (fun hD => B20.out) ?_
          clear hK K
          try simp only [Act.put, List.setIfInBounds_toArray, List.set_cons_zero, List.set_cons_succ]
          refine wpAnyD_one (i := 9) (o := {dst := some 15, op := .assign (.tmp 78), type := 49, pos := "law.go:344", after := #[{on := 8, ground := .data}, {on := 8, ground := .chain}, {on := 0, ground := .phase}, {on := 1, ground := .phase}, {on := 2, ground := .phase}, {on := 3, ground := .phase}, {on := 4, ground := .phase}, {on := 5, ground := .phase}, {on := 6, ground := .phase}, {on := 7, ground := .phase}, {on := 8, ground := .phase}], guard := none}) (by kernel_rfl) rfl (fun K hK => ?_)
          go_simp
          refine hK.out _ _ (fun hD => B20.out) ?_
          clear hK K
          try simp only [Act.put, List.setIfInBounds_toArray, List.set_cons_zero, List.set_cons_succ]
          refine wpAnyD_done (by kernel_rfl) ?_ _
          go_wp2_with fail
          go_meet
          obtain ⟨gg, cg, hg⟩ := own_form O20.out
          exact ⟨gg, cg, hg, O20.out, B20.out⟩
        case rest =>
         obtain ⟨gm, cap, rfl, HC⟩ := hcut
         have HM : Hid (wc.ownsRow B 52 4 (.slice (some ⟨gm, 0, none⟩) (l4.length + 1) cap) (l4.length + 1) (fl EF (mor n R s l4 0)) ∧ Below w8.heap.size w8 wc) := by
          rw [mor_zero, hB]
          exact ⟨HC.out.1, HX.out.trans (HC.out.2.mono HX.out.size)⟩
         have HBB : Hid (w8.heap.size ≤ B) := by
          show _ ≤ _
          rw [hB]
          exact HX.out.size
         have HEW : Hid (∀ W, Below w8.heap.size w8 W → ∀ (j : Nat) (u : Hf.Th), l4[j]? = some u → (W.cell? ⟨b1, o1 + j * 4, none⟩ = some (.int .i64 u.1) ∧ W.cell? ⟨b1, o1 + j * 4 + 1, none⟩ = some (.int .u64 u.2.1.1) ∧ W.cell? ⟨b1, o1 + j * 4 + 2, none⟩ = some (.int .u64 u.2.1.2.1) ∧ W.cell? ⟨b1, o1 + j * 4 + 3, none⟩ = some (.int .u64 u.2.1.2.2)) ∧ b1 < W.heap.size) := fun W hb j u hu => by
          obtain ⟨b2, o2, c2, hv2, hb2, u0, u1, u2, u3⟩ := EF_at ((HZ4.out _ (HB8.out.trans (hb.mono HB8.out.size))).ls hu) hu
          cases hv2
          exact ⟨⟨u0, u1, u2, u3⟩, hb2⟩
         clear HX HBX HE HZW HC hB hilz hil hi
         go_wp2_with fail
         go_loopw [16] (fun s16 wx => ∃ j : Nat, j ≤ l4.length ∧ s16 = .int .i64 j ∧ Hid (wx.ownsRow B 52 4 (.slice (some ⟨gm, 0, none⟩) (l4.length + 1) cap) (l4.length + 1) (fl EF (mor n R s l4 j)) ∧ Below w8.heap.size w8 wx)) (fun s16 _ => 40 - (RowKit.intOf s16).toNat)
         case atStart => exact ⟨0, by omega, rfl, HM.out⟩
         case round =>
          clear HM
          obtain ⟨j, hj, rfl, HM⟩ := hrel
          have hiL : (i : Int) < (l4.length : Int) := by
           have := (List.getElem?_eq_some_iff.1 HS.out).1
           omega
          by_cases hjl : j < l4.length
          ·have hjlz : (j : Int) < (l4.length : Int) := by omega
           obtain ⟨u, hu⟩ : ∃ u, l4[j]? = some u := ⟨l4[j]'hjl, by simp⟩
           have hi0 : (0 : Int) ≤ (i : Int) := by omega
           have hj0 : (0 : Int) ≤ (j : Int) := by omega
           have HSE : Hid (∀ W, Below wr.heap.size wr W → ((W.cell? ⟨b1, o1 + i * 4, none⟩ = some (.int .i64 s.1) ∧ W.cell? ⟨b1, o1 + i * 4 + 1, none⟩ = some (.int .u64 s.2.1.1) ∧ W.cell? ⟨b1, o1 + i * 4 + 2, none⟩ = some (.int .u64 s.2.1.2.1) ∧ W.cell? ⟨b1, o1 + i * 4 + 3, none⟩ = some (.int .u64 s.2.1.2.2)) ∧ (W.cell? ⟨b1, o1 + j * 4, none⟩ = some (.int .i64 u.1) ∧ W.cell? ⟨b1, o1 + j * 4 + 1, none⟩ = some (.int .u64 u.2.1.1) ∧ W.cell? ⟨b1, o1 + j * 4 + 2, none⟩ = some (.int .u64 u.2.1.2.1) ∧ W.cell? ⟨b1, o1 + j * 4 + 3, none⟩ = some (.int .u64 u.2.1.2.2)) ∧ b1 < W.heap.size)) := fun W hb => by
            have hw := HM.out.2.trans (hb.mono HM.out.2.size)
            exact ⟨(HEW.out W hw i s HS.out).1, HEW.out W hw j u hu⟩
           have hcd := fun W (hb : Below wr.heap.size wr W) => HCD.out W s u (HB8.out.trans ((HM.out.2.trans (hb.mono HM.out.2.size)).mono HB8.out.size))
           have HU := hid hu
           have HMY := fun h => (mor_yes (n := n) (R := R) (s := s) hu h)
           have HMN := fun h => (mor_no (n := n) (R := R) (s := s) hu h)
           have HYH := hid HMY
           have HNH := hid HMN
           clear hu HMY HMN
           go_upto_region 23 with fail
           go_cut [105] from 79 to 112 (fun s105 wy => s105 = .bool (decide (u ≠ s) && cldB n R s u) ∧ Hid (Below wr.heap.size wr wy))
           case first =>
            have hB0 : Below wr.heap.size wr wr.drew := (Gr.refl wr).drew.below
            have hS0 := HSE.out _ hB0
            by_cases hus : u = s
            ·have heq := run_neqTh (decide_eq_true hus)
             have HCC : Hid ((decide (u ≠ s) && cldB n R s u) = false) := by
              show _ = _
              simp [hus]
             clear hus hcd
             refine wp_regionD (S := fun W => ((W.cell? ⟨b1, o1 + i * 4, none⟩ = some (.int .i64 s.1) ∧ W.cell? ⟨b1, o1 + i * 4 + 1, none⟩ = some (.int .u64 s.2.1.1) ∧ W.cell? ⟨b1, o1 + i * 4 + 2, none⟩ = some (.int .u64 s.2.1.2.1) ∧ W.cell? ⟨b1, o1 + i * 4 + 3, none⟩ = some (.int .u64 s.2.1.2.2)) ∧ (W.cell? ⟨b1, o1 + j * 4, none⟩ = some (.int .i64 u.1) ∧ W.cell? ⟨b1, o1 + j * 4 + 1, none⟩ = some (.int .u64 u.2.1.1) ∧ W.cell? ⟨b1, o1 + j * 4 + 2, none⟩ = some (.int .u64 u.2.1.2.1) ∧ W.cell? ⟨b1, o1 + j * 4 + 3, none⟩ = some (.int .u64 u.2.1.2.2)) ∧ b1 < W.heap.size)) (D := []) hmx ?_
             refine' wpAnyD_take (i := 0) (oi := {dst := some 85, op := .move (.tmp 2), type := 49, pos := "law.go:346", after := #[], guard := none}) (v := _) rfl (by kernel_rfl) (by kernel_rfl) (by kernel_rfl) (fun _ _ _ h => h) (by kernel_rfl) (Or.inl ⟨by rfl, ?hy1⟩) hS0 ?rest1
             case hy1 => (intro W hSw; go_simp; try (with_reducible rfl))
             try simp only [Act.put, List.setIfInBounds_toArray, List.set_cons_zero, List.set_cons_succ]
             refine' wpAnyD_take (i := 1) (oi := {dst := some 86, op := .move (.tmp 16), type := 3, pos := "law.go:346", after := #[], guard := none}) (v := _) rfl (by kernel_rfl) (by kernel_rfl) (by kernel_rfl) (fun _ _ _ h => h) (by kernel_rfl) (Or.inl ⟨by rfl, ?hy2⟩) hS0 ?rest2
             case hy2 => (intro W hSw; go_simp; try (with_reducible rfl))
             try simp only [Act.put, List.setIfInBounds_toArray, List.set_cons_zero, List.set_cons_succ]
             refine' wpAnyD_take (i := 2) (oi := {dst := some 87, op := .indexAddr 49 (.tmp 85) (.tmp 86), type := 0, pos := "law.go:346", after := #[{on := 0, ground := .data}, {on := 1, ground := .data}], guard := none}) (v := _) rfl (by kernel_rfl) (by kernel_rfl) (by kernel_rfl) (fun _ _ _ h => h) (by kernel_rfl) (Or.inl ⟨by rfl, ?hy3⟩) hS0 ?rest3
             case hy3 => (intro W hSw; obtain ⟨⟨t0, t1, t2, t3⟩, ⟨x0, x1, x2, x3⟩, hl⟩ := hSw; go_simp; try (with_reducible rfl))
             try simp only [Act.put, List.setIfInBounds_toArray, List.set_cons_zero, List.set_cons_succ]
             refine' wpAnyD_take (i := 3) (oi := {dst := some 88, op := .load 52 (.tmp 87), type := 52, pos := "law.go:346", after := #[{on := 2, ground := .data}], guard := none}) (v := _) rfl (by kernel_rfl) (by kernel_rfl) (by kernel_rfl) (fun _ _ _ h => h) (by kernel_rfl) (Or.inl ⟨by rfl, ?hy4⟩) hS0 ?rest4
             case hy4 => (intro W hSw; obtain ⟨⟨t0, t1, t2, t3⟩, ⟨x0, x1, x2, x3⟩, hl⟩ := hSw; go_simp; try (with_reducible rfl))
             try simp only [Act.put, List.setIfInBounds_toArray, List.set_cons_zero, List.set_cons_succ]
             refine' wpAnyD_take (i := 4) (oi := {dst := some 89, op := .move (.tmp 2), type := 49, pos := "law.go:346", after := #[], guard := none}) (v := _) rfl (by kernel_rfl) (by kernel_rfl) (by kernel_rfl) (fun _ _ _ h => h) (by kernel_rfl) (Or.inl ⟨by rfl, ?hy5⟩) hS0 ?rest5
             case hy5 => (intro W hSw; go_simp; try (with_reducible rfl))
             try simp only [Act.put, List.setIfInBounds_toArray, List.set_cons_zero, List.set_cons_succ]
             refine' wpAnyD_take (i := 5) (oi := {dst := some 90, op := .move (.tmp 14), type := 3, pos := "law.go:346", after := #[], guard := none}) (v := _) rfl (by kernel_rfl) (by kernel_rfl) (by kernel_rfl) (fun _ _ _ h => h) (by kernel_rfl) (Or.inl ⟨by rfl, ?hy6⟩) hS0 ?rest6
             case hy6 => (intro W hSw; go_simp; try (with_reducible rfl))
             try simp only [Act.put, List.setIfInBounds_toArray, List.set_cons_zero, List.set_cons_succ]
             refine' wpAnyD_take (i := 6) (oi := {dst := some 91, op := .indexAddr 49 (.tmp 89) (.tmp 90), type := 0, pos := "law.go:346", after := #[{on := 4, ground := .data}, {on := 5, ground := .data}], guard := none}) (v := _) rfl (by kernel_rfl) (by kernel_rfl) (by kernel_rfl) (fun _ _ _ h => h) (by kernel_rfl) (Or.inl ⟨by rfl, ?hy7⟩) hS0 ?rest7
             case hy7 => (intro W hSw; obtain ⟨⟨t0, t1, t2, t3⟩, ⟨x0, x1, x2, x3⟩, hl⟩ := hSw; go_simp; try (with_reducible rfl))
             try simp only [Act.put, List.setIfInBounds_toArray, List.set_cons_zero, List.set_cons_succ]
             refine' wpAnyD_take (i := 7) (oi := {dst := some 92, op := .load 52 (.tmp 91), type := 52, pos := "law.go:346", after := #[{on := 6, ground := .data}], guard := none}) (v := _) rfl (by kernel_rfl) (by kernel_rfl) (by kernel_rfl) (fun _ _ _ h => h) (by kernel_rfl) (Or.inl ⟨by rfl, ?hy8⟩) hS0 ?rest8
             case hy8 => (intro W hSw; obtain ⟨⟨t0, t1, t2, t3⟩, ⟨x0, x1, x2, x3⟩, hl⟩ := hSw; go_simp; try (with_reducible rfl))
             try simp only [Act.put, List.setIfInBounds_toArray, List.set_cons_zero, List.set_cons_succ]
             refine' wpAnyD_take (i := 8) (oi := {dst := some 93, op := .binOp .neq 52 (.tmp 88) (.tmp 92) 52, type := 4, pos := "law.go:346", after := #[{on := 3, ground := .data}, {on := 7, ground := .data}], guard := none}) (v := _) rfl (by kernel_rfl) (by kernel_rfl) (by kernel_rfl) (fun _ _ _ h => h) (by kernel_rfl) (Or.inl ⟨by rfl, ?hy9⟩) hS0 ?rest9
             case hy9 => (intro W hSw; go_simp; try (with_reducible rfl))
             try simp only [Act.put, List.setIfInBounds_toArray, List.set_cons_zero, List.set_cons_succ]
             refine' wpAnyD_take (i := 9) (oi := {dst := some 94, op := .move (.tmp 93), type := 4, pos := "law.go:346", after := #[{on := 8, ground := .data}], guard := none}) (v := _) rfl (by kernel_rfl) (by kernel_rfl) (by kernel_rfl) (fun _ _ _ h => h) (by kernel_rfl) (Or.inl ⟨by rfl, ?hy10⟩) hS0 ?rest10
             case hy10 => (intro W hSw; go_simp; try (with_reducible rfl))
             try simp only [Act.put, List.setIfInBounds_toArray, List.set_cons_zero, List.set_cons_succ]
             refine' wpAnyD_take (i := 10) (oi := {dst := some 95, op := .move (.tmp 7), type := 26, pos := "law.go:346", after := #[{on := 9, ground := .guard}], guard := some (9, true)}) (v := undef) rfl (by kernel_rfl) (by kernel_rfl) (by kernel_rfl) (fun _ _ _ h => h) (by kernel_rfl) (Or.inr ⟨by rfl, rfl⟩) hS0 ?rest11
             try simp only [Act.put, List.setIfInBounds_toArray, List.set_cons_zero, List.set_cons_succ]
             refine' wpAnyD_take (i := 11) (oi := {dst := some 96, op := .move (.tmp 2), type := 49, pos := "law.go:346", after := #[{on := 9, ground := .guard}], guard := some (9, true)}) (v := undef) rfl (by kernel_rfl) (by kernel_rfl) (by kernel_rfl) (fun _ _ _ h => h) (by kernel_rfl) (Or.inr ⟨by rfl, rfl⟩) hS0 ?rest12
             try simp only [Act.put, List.setIfInBounds_toArray, List.set_cons_zero, List.set_cons_succ]
             refine' wpAnyD_take (i := 12) (oi := {dst := some 97, op := .move (.tmp 14), type := 3, pos := "law.go:346", after := #[{on := 9, ground := .guard}], guard := some (9, true)}) (v := undef) rfl (by kernel_rfl) (by kernel_rfl) (by kernel_rfl) (fun _ _ _ h => h) (by kernel_rfl) (Or.inr ⟨by rfl, rfl⟩) hS0 ?rest13
             try simp only [Act.put, List.setIfInBounds_toArray, List.set_cons_zero, List.set_cons_succ]
             refine' wpAnyD_take (i := 13) (oi := {dst := some 98, op := .indexAddr 49 (.tmp 96) (.tmp 97), type := 0, pos := "law.go:346", after := #[{on := 11, ground := .data}, {on := 12, ground := .data}, {on := 9, ground := .guard}], guard := some (9, true)}) (v := undef) rfl (by kernel_rfl) (by kernel_rfl) (by kernel_rfl) (fun _ _ _ h => h) (by kernel_rfl) (Or.inr ⟨by rfl, rfl⟩) hS0 ?rest14
             try simp only [Act.put, List.setIfInBounds_toArray, List.set_cons_zero, List.set_cons_succ]
             refine' wpAnyD_take (i := 14) (oi := {dst := some 99, op := .load 52 (.tmp 98), type := 52, pos := "law.go:346", after := #[{on := 13, ground := .data}, {on := 9, ground := .guard}], guard := some (9, true)}) (v := undef) rfl (by kernel_rfl) (by kernel_rfl) (by kernel_rfl) (fun _ _ _ h => h) (by kernel_rfl) (Or.inr ⟨by rfl, rfl⟩) hS0 ?rest15
             try simp only [Act.put, List.setIfInBounds_toArray, List.set_cons_zero, List.set_cons_succ]
             refine' wpAnyD_take (i := 15) (oi := {dst := some 100, op := .move (.tmp 2), type := 49, pos := "law.go:346", after := #[{on := 9, ground := .guard}], guard := some (9, true)}) (v := undef) rfl (by kernel_rfl) (by kernel_rfl) (by kernel_rfl) (fun _ _ _ h => h) (by kernel_rfl) (Or.inr ⟨by rfl, rfl⟩) hS0 ?rest16
             try simp only [Act.put, List.setIfInBounds_toArray, List.set_cons_zero, List.set_cons_succ]
             refine' wpAnyD_take (i := 16) (oi := {dst := some 101, op := .move (.tmp 16), type := 3, pos := "law.go:346", after := #[{on := 9, ground := .guard}], guard := some (9, true)}) (v := undef) rfl (by kernel_rfl) (by kernel_rfl) (by kernel_rfl) (fun _ _ _ h => h) (by kernel_rfl) (Or.inr ⟨by rfl, rfl⟩) hS0 ?rest17
             try simp only [Act.put, List.setIfInBounds_toArray, List.set_cons_zero, List.set_cons_succ]
             refine' wpAnyD_take (i := 17) (oi := {dst := some 102, op := .indexAddr 49 (.tmp 100) (.tmp 101), type := 0, pos := "law.go:346", after := #[{on := 15, ground := .data}, {on := 16, ground := .data}, {on := 9, ground := .guard}], guard := some (9, true)}) (v := undef) rfl (by kernel_rfl) (by kernel_rfl) (by kernel_rfl) (fun _ _ _ h => h) (by kernel_rfl) (Or.inr ⟨by rfl, rfl⟩) hS0 ?rest18
             try simp only [Act.put, List.setIfInBounds_toArray, List.set_cons_zero, List.set_cons_succ]
             refine' wpAnyD_take (i := 18) (oi := {dst := some 103, op := .load 52 (.tmp 102), type := 52, pos := "law.go:346", after := #[{on := 17, ground := .data}, {on := 9, ground := .guard}], guard := some (9, true)}) (v := undef) rfl (by kernel_rfl) (by kernel_rfl) (by kernel_rfl) (fun _ _ _ h => h) (by kernel_rfl) (Or.inr ⟨by rfl, rfl⟩) hS0 ?rest19
             try simp only [Act.put, List.setIfInBounds_toArray, List.set_cons_zero, List.set_cons_succ]
             refine wpAnyD_one (i := 19) (o := {dst := some 104, op := .call {callee := .value (.func 17), args := #[.tmp 95, .tmp 99, .tmp 103], argTypes := #[26, 52, 52]}, type := 4, pos := "law.go:346", after := #[{on := 10, ground := .data}, {on := 14, ground := .data}, {on := 18, ground := .data}, {on := 9, ground := .chain}, {on := 9, ground := .guard}], guard := some (9, true)}) (by kernel_rfl) rfl (fun K hK => ?_)
             rw [if_neg (Bool.eq_false_iff.1 (by kernel_rfl))]
             refine hK.out _ _ (fun hD => hS0) ?_
             clear hK K
             try simp only [Act.put, List.setIfInBounds_toArray, List.set_cons_zero, List.set_cons_succ]
             refine' wpAnyD_take (i := 20) (oi := {dst := some 105, op := .pick (.tmp 94) (.tmp 104) (.const (.bool false)), type := 4, pos := "law.go:346", after := #[{on := 9, ground := .data}, {on := 19, ground := .data}], guard := none}) (v := _) rfl (by kernel_rfl) (by kernel_rfl) (by kernel_rfl) (fun _ _ _ h => h) (by kernel_rfl) (Or.inl ⟨by rfl, ?hy21⟩) hS0 ?rest21
             case hy21 => (intro W hSw; go_simp; try (with_reducible rfl))
             try simp only [Act.put, List.setIfInBounds_toArray, List.set_cons_zero, List.set_cons_succ]
             refine wpAnyD_done (by kernel_rfl) ?_ _
             go_wp2_with fail
             go_meet
             exact ⟨by rw [HCC.out], hB0⟩
            ·have heq := run_neqTh (decide_eq_false hus)
             have HCC : Hid ((decide (u ≠ s) && cldB n R s u) = cldB n R s u) := by
              show _ = _
              simp [hus]
             clear hus
             refine wp_regionD (S := fun W => ((W.cell? ⟨b1, o1 + i * 4, none⟩ = some (.int .i64 s.1) ∧ W.cell? ⟨b1, o1 + i * 4 + 1, none⟩ = some (.int .u64 s.2.1.1) ∧ W.cell? ⟨b1, o1 + i * 4 + 2, none⟩ = some (.int .u64 s.2.1.2.1) ∧ W.cell? ⟨b1, o1 + i * 4 + 3, none⟩ = some (.int .u64 s.2.1.2.2)) ∧ (W.cell? ⟨b1, o1 + j * 4, none⟩ = some (.int .i64 u.1) ∧ W.cell? ⟨b1, o1 + j * 4 + 1, none⟩ = some (.int .u64 u.2.1.1) ∧ W.cell? ⟨b1, o1 + j * 4 + 2, none⟩ = some (.int .u64 u.2.1.2.1) ∧ W.cell? ⟨b1, o1 + j * 4 + 3, none⟩ = some (.int .u64 u.2.1.2.2)) ∧ b1 < W.heap.size)) (D := []) hmx ?_
             refine' wpAnyD_take (i := 0) (oi := {dst := some 85, op := .move (.tmp 2), type := 49, pos := "law.go:346", after := #[], guard := none}) (v := _) rfl (by kernel_rfl) (by kernel_rfl) (by kernel_rfl) (fun _ _ _ h => h) (by kernel_rfl) (Or.inl ⟨by rfl, ?hy22⟩) hS0 ?rest22
             case hy22 => (intro W hSw; go_simp; try (with_reducible rfl))
             try simp only [Act.put, List.setIfInBounds_toArray, List.set_cons_zero, List.set_cons_succ]
             refine' wpAnyD_take (i := 1) (oi := {dst := some 86, op := .move (.tmp 16), type := 3, pos := "law.go:346", after := #[], guard := none}) (v := _) rfl (by kernel_rfl) (by kernel_rfl) (by kernel_rfl) (fun _ _ _ h => h) (by kernel_rfl) (Or.inl ⟨by rfl, ?hy23⟩) hS0 ?rest23
             case hy23 => (intro W hSw; go_simp; try (with_reducible rfl))
             try simp only [Act.put, List.setIfInBounds_toArray, List.set_cons_zero, List.set_cons_succ]
             refine' wpAnyD_take (i := 2) (oi := {dst := some 87, op := .indexAddr 49 (.tmp 85) (.tmp 86), type := 0, pos := "law.go:346", after := #[{on := 0, ground := .data}, {on := 1, ground := .data}], guard := none}) (v := _) rfl (by kernel_rfl) (by kernel_rfl) (by kernel_rfl) (fun _ _ _ h => h) (by kernel_rfl) (Or.inl ⟨by rfl, ?hy24⟩) hS0 ?rest24
             case hy24 => (intro W hSw; obtain ⟨⟨t0, t1, t2, t3⟩, ⟨x0, x1, x2, x3⟩, hl⟩ := hSw; go_simp; try (with_reducible rfl))
             try simp only [Act.put, List.setIfInBounds_toArray, List.set_cons_zero, List.set_cons_succ]
             refine' wpAnyD_take (i := 3) (oi := {dst := some 88, op := .load 52 (.tmp 87), type := 52, pos := "law.go:346", after := #[{on := 2, ground := .data}], guard := none}) (v := _) rfl (by kernel_rfl) (by kernel_rfl) (by kernel_rfl) (fun _ _ _ h => h) (by kernel_rfl) (Or.inl ⟨by rfl, ?hy25⟩) hS0 ?rest25
             case hy25 => (intro W hSw; obtain ⟨⟨t0, t1, t2, t3⟩, ⟨x0, x1, x2, x3⟩, hl⟩ := hSw; go_simp; try (with_reducible rfl))
             try simp only [Act.put, List.setIfInBounds_toArray, List.set_cons_zero, List.set_cons_succ]
             refine' wpAnyD_take (i := 4) (oi := {dst := some 89, op := .move (.tmp 2), type := 49, pos := "law.go:346", after := #[], guard := none}) (v := _) rfl (by kernel_rfl) (by kernel_rfl) (by kernel_rfl) (fun _ _ _ h => h) (by kernel_rfl) (Or.inl ⟨by rfl, ?hy26⟩) hS0 ?rest26
             case hy26 => (intro W hSw; go_simp; try (with_reducible rfl))
             try simp only [Act.put, List.setIfInBounds_toArray, List.set_cons_zero, List.set_cons_succ]
             refine' wpAnyD_take (i := 5) (oi := {dst := some 90, op := .move (.tmp 14), type := 3, pos := "law.go:346", after := #[], guard := none}) (v := _) rfl (by kernel_rfl) (by kernel_rfl) (by kernel_rfl) (fun _ _ _ h => h) (by kernel_rfl) (Or.inl ⟨by rfl, ?hy27⟩) hS0 ?rest27
             case hy27 => (intro W hSw; go_simp; try (with_reducible rfl))
             try simp only [Act.put, List.setIfInBounds_toArray, List.set_cons_zero, List.set_cons_succ]
             refine' wpAnyD_take (i := 6) (oi := {dst := some 91, op := .indexAddr 49 (.tmp 89) (.tmp 90), type := 0, pos := "law.go:346", after := #[{on := 4, ground := .data}, {on := 5, ground := .data}], guard := none}) (v := _) rfl (by kernel_rfl) (by kernel_rfl) (by kernel_rfl) (fun _ _ _ h => h) (by kernel_rfl) (Or.inl ⟨by rfl, ?hy28⟩) hS0 ?rest28
             case hy28 => (intro W hSw; obtain ⟨⟨t0, t1, t2, t3⟩, ⟨x0, x1, x2, x3⟩, hl⟩ := hSw; go_simp; try (with_reducible rfl))
             try simp only [Act.put, List.setIfInBounds_toArray, List.set_cons_zero, List.set_cons_succ]
             refine' wpAnyD_take (i := 7) (oi := {dst := some 92, op := .load 52 (.tmp 91), type := 52, pos := "law.go:346", after := #[{on := 6, ground := .data}], guard := none}) (v := _) rfl (by kernel_rfl) (by kernel_rfl) (by kernel_rfl) (fun _ _ _ h => h) (by kernel_rfl) (Or.inl ⟨by rfl, ?hy29⟩) hS0 ?rest29
             case hy29 => (intro W hSw; obtain ⟨⟨t0, t1, t2, t3⟩, ⟨x0, x1, x2, x3⟩, hl⟩ := hSw; go_simp; try (with_reducible rfl))
             try simp only [Act.put, List.setIfInBounds_toArray, List.set_cons_zero, List.set_cons_succ]
             refine' wpAnyD_take (i := 8) (oi := {dst := some 93, op := .binOp .neq 52 (.tmp 88) (.tmp 92) 52, type := 4, pos := "law.go:346", after := #[{on := 3, ground := .data}, {on := 7, ground := .data}], guard := none}) (v := _) rfl (by kernel_rfl) (by kernel_rfl) (by kernel_rfl) (fun _ _ _ h => h) (by kernel_rfl) (Or.inl ⟨by rfl, ?hy30⟩) hS0 ?rest30
             case hy30 => (intro W hSw; go_simp; try (with_reducible rfl))
             try simp only [Act.put, List.setIfInBounds_toArray, List.set_cons_zero, List.set_cons_succ]
             refine' wpAnyD_take (i := 9) (oi := {dst := some 94, op := .move (.tmp 93), type := 4, pos := "law.go:346", after := #[{on := 8, ground := .data}], guard := none}) (v := _) rfl (by kernel_rfl) (by kernel_rfl) (by kernel_rfl) (fun _ _ _ h => h) (by kernel_rfl) (Or.inl ⟨by rfl, ?hy31⟩) hS0 ?rest31
             case hy31 => (intro W hSw; go_simp; try (with_reducible rfl))
             try simp only [Act.put, List.setIfInBounds_toArray, List.set_cons_zero, List.set_cons_succ]
             refine' wpAnyD_take (i := 10) (oi := {dst := some 95, op := .move (.tmp 7), type := 26, pos := "law.go:346", after := #[{on := 9, ground := .guard}], guard := some (9, true)}) (v := _) rfl (by kernel_rfl) (by kernel_rfl) (by kernel_rfl) (fun _ _ _ h => h) (by kernel_rfl) (Or.inl ⟨by rfl, ?hy32⟩) hS0 ?rest32
             case hy32 => (intro W hSw; go_simp; try (with_reducible rfl))
             try simp only [Act.put, List.setIfInBounds_toArray, List.set_cons_zero, List.set_cons_succ]
             refine' wpAnyD_take (i := 11) (oi := {dst := some 96, op := .move (.tmp 2), type := 49, pos := "law.go:346", after := #[{on := 9, ground := .guard}], guard := some (9, true)}) (v := _) rfl (by kernel_rfl) (by kernel_rfl) (by kernel_rfl) (fun _ _ _ h => h) (by kernel_rfl) (Or.inl ⟨by rfl, ?hy33⟩) hS0 ?rest33
             case hy33 => (intro W hSw; go_simp; try (with_reducible rfl))
             try simp only [Act.put, List.setIfInBounds_toArray, List.set_cons_zero, List.set_cons_succ]
             refine' wpAnyD_take (i := 12) (oi := {dst := some 97, op := .move (.tmp 14), type := 3, pos := "law.go:346", after := #[{on := 9, ground := .guard}], guard := some (9, true)}) (v := _) rfl (by kernel_rfl) (by kernel_rfl) (by kernel_rfl) (fun _ _ _ h => h) (by kernel_rfl) (Or.inl ⟨by rfl, ?hy34⟩) hS0 ?rest34
             case hy34 => (intro W hSw; go_simp; try (with_reducible rfl))
             try simp only [Act.put, List.setIfInBounds_toArray, List.set_cons_zero, List.set_cons_succ]
             refine' wpAnyD_take (i := 13) (oi := {dst := some 98, op := .indexAddr 49 (.tmp 96) (.tmp 97), type := 0, pos := "law.go:346", after := #[{on := 11, ground := .data}, {on := 12, ground := .data}, {on := 9, ground := .guard}], guard := some (9, true)}) (v := _) rfl (by kernel_rfl) (by kernel_rfl) (by kernel_rfl) (fun _ _ _ h => h) (by kernel_rfl) (Or.inl ⟨by rfl, ?hy35⟩) hS0 ?rest35
             case hy35 => (intro W hSw; obtain ⟨⟨t0, t1, t2, t3⟩, ⟨x0, x1, x2, x3⟩, hl⟩ := hSw; go_simp; try (with_reducible rfl))
             try simp only [Act.put, List.setIfInBounds_toArray, List.set_cons_zero, List.set_cons_succ]
             refine' wpAnyD_take (i := 14) (oi := {dst := some 99, op := .load 52 (.tmp 98), type := 52, pos := "law.go:346", after := #[{on := 13, ground := .data}, {on := 9, ground := .guard}], guard := some (9, true)}) (v := _) rfl (by kernel_rfl) (by kernel_rfl) (by kernel_rfl) (fun _ _ _ h => h) (by kernel_rfl) (Or.inl ⟨by rfl, ?hy36⟩) hS0 ?rest36
             case hy36 => (intro W hSw; obtain ⟨⟨t0, t1, t2, t3⟩, ⟨x0, x1, x2, x3⟩, hl⟩ := hSw; go_simp; try (with_reducible rfl))
             try simp only [Act.put, List.setIfInBounds_toArray, List.set_cons_zero, List.set_cons_succ]
             refine' wpAnyD_take (i := 15) (oi := {dst := some 100, op := .move (.tmp 2), type := 49, pos := "law.go:346", after := #[{on := 9, ground := .guard}], guard := some (9, true)}) (v := _) rfl (by kernel_rfl) (by kernel_rfl) (by kernel_rfl) (fun _ _ _ h => h) (by kernel_rfl) (Or.inl ⟨by rfl, ?hy37⟩) hS0 ?rest37
             case hy37 => (intro W hSw; go_simp; try (with_reducible rfl))
             try simp only [Act.put, List.setIfInBounds_toArray, List.set_cons_zero, List.set_cons_succ]
             refine' wpAnyD_take (i := 16) (oi := {dst := some 101, op := .move (.tmp 16), type := 3, pos := "law.go:346", after := #[{on := 9, ground := .guard}], guard := some (9, true)}) (v := _) rfl (by kernel_rfl) (by kernel_rfl) (by kernel_rfl) (fun _ _ _ h => h) (by kernel_rfl) (Or.inl ⟨by rfl, ?hy38⟩) hS0 ?rest38
             case hy38 => (intro W hSw; go_simp; try (with_reducible rfl))
             try simp only [Act.put, List.setIfInBounds_toArray, List.set_cons_zero, List.set_cons_succ]
             refine' wpAnyD_take (i := 17) (oi := {dst := some 102, op := .indexAddr 49 (.tmp 100) (.tmp 101), type := 0, pos := "law.go:346", after := #[{on := 15, ground := .data}, {on := 16, ground := .data}, {on := 9, ground := .guard}], guard := some (9, true)}) (v := _) rfl (by kernel_rfl) (by kernel_rfl) (by kernel_rfl) (fun _ _ _ h => h) (by kernel_rfl) (Or.inl ⟨by rfl, ?hy39⟩) hS0 ?rest39
             case hy39 => (intro W hSw; obtain ⟨⟨t0, t1, t2, t3⟩, ⟨x0, x1, x2, x3⟩, hl⟩ := hSw; go_simp; try (with_reducible rfl))
             try simp only [Act.put, List.setIfInBounds_toArray, List.set_cons_zero, List.set_cons_succ]
             refine' wpAnyD_take (i := 18) (oi := {dst := some 103, op := .load 52 (.tmp 102), type := 52, pos := "law.go:346", after := #[{on := 17, ground := .data}, {on := 9, ground := .guard}], guard := some (9, true)}) (v := _) rfl (by kernel_rfl) (by kernel_rfl) (by kernel_rfl) (fun _ _ _ h => h) (by kernel_rfl) (Or.inl ⟨by rfl, ?hy40⟩) hS0 ?rest40
             case hy40 => (intro W hSw; obtain ⟨⟨t0, t1, t2, t3⟩, ⟨x0, x1, x2, x3⟩, hl⟩ := hSw; go_simp; try (with_reducible rfl))
             try simp only [Act.put, List.setIfInBounds_toArray, List.set_cons_zero, List.set_cons_succ]
             refine wpAnyD_one (i := 19) (o := {dst := some 104, op := .call {callee := .value (.func 17), args := #[.tmp 95, .tmp 99, .tmp 103], argTypes := #[26, 52, 52]}, type := 4, pos := "law.go:346", after := #[{on := 10, ground := .data}, {on := 14, ground := .data}, {on := 18, ground := .data}, {on := 9, ground := .chain}, {on := 9, ground := .guard}], guard := some (9, true)}) (by kernel_rfl) rfl (fun K hK => ?_)
             rw [if_pos (by kernel_rfl)]
             go_simp
             refine (hcd _ hB0).mono ?_
             rintro r w3 ⟨rfl, hb3⟩
             have B3 : Below wr.heap.size wr w3 := hB0.trans (hb3.mono hB0.size)
             go_wp2_with fail
             refine hK.out _ _ (fun hD => (HSE.out _ B3)) ?_
             clear hK K
             try simp only [Act.put, List.setIfInBounds_toArray, List.set_cons_zero, List.set_cons_succ]
             refine' wpAnyD_take (i := 20) (oi := {dst := some 105, op := .pick (.tmp 94) (.tmp 104) (.const (.bool false)), type := 4, pos := "law.go:346", after := #[{on := 9, ground := .data}, {on := 19, ground := .data}], guard := none}) (v := _) rfl (by kernel_rfl) (by kernel_rfl) (by kernel_rfl) (fun _ _ _ h => h) (by kernel_rfl) (Or.inl ⟨by rfl, ?hy42⟩) (HSE.out _ B3) ?rest42
             case hy42 => (intro W hSw; go_simp; try (with_reducible rfl))
             try simp only [Act.put, List.setIfInBounds_toArray, List.set_cons_zero, List.set_cons_succ]
             refine wpAnyD_done (by kernel_rfl) ?_ _
             go_wp2_with fail
             go_meet
             exact ⟨by rw [HCC.out], B3⟩
           case rest =>
            obtain ⟨rfl, HY⟩ := hcut
            have HMC : Hid (wc.ownsRow B 52 4 (.slice (some ⟨gm, 0, none⟩) (l4.length + 1) cap) (l4.length + 1) (fl EF (mor n R s l4 j)) ∧ Below w8.heap.size w8 wc) := ⟨owns_below HM.out.1 HY.out, HM.out.2.trans (HY.out.mono HM.out.2.size)⟩
            have HSC := hid (HSE.out _ HY.out)
            clear HM HY HSE hcd
            cases hcb : (decide (u ≠ s) && cldB n R s u) with
            | true =>
             have HN : Hid (((((wc.setCell ⟨gm, j * 4, none⟩ (.int .i64 s.1)).setCell ⟨gm, j * 4 + 1, none⟩ (.int .u64 s.2.1.1)).setCell ⟨gm, j * 4 + 2, none⟩ (.int .u64 s.2.1.2.1)).setCell ⟨gm, j * 4 + 3, none⟩ (.int .u64 s.2.1.2.2)).ownsRow B 52 4 (.slice (some ⟨gm, 0, none⟩) (l4.length + 1) cap) (l4.length + 1) (fl EF (mor n R s l4 (j + 1))) ∧ Below w8.heap.size w8 ((((wc.setCell ⟨gm, j * 4, none⟩ (.int .i64 s.1)).setCell ⟨gm, j * 4 + 1, none⟩ (.int .u64 s.2.1.1)).setCell ⟨gm, j * 4 + 2, none⟩ (.int .u64 s.2.1.2.1)).setCell ⟨gm, j * 4 + 3, none⟩ (.int .u64 s.2.1.2.2))) := by
              obtain ⟨h1, h2⟩ := owns_th (i := j) s HMC.out.1
              rw [HYH.out hcb] at h1
              exact ⟨h1, HMC.out.2.trans (h2.below HMC.out.2.size (fun k e => by rw [e]; exact Nat.le_trans HBB.out (owns_free HMC.out.1).2.2))⟩
             obtain ⟨⟨t0, t1, t2, t3⟩, -, hl⟩ := HSC.out
             obtain ⟨f1, f2, -⟩ := owns_free HMC.out.1
             obtain ⟨⟨y0, x0⟩, ⟨y1, x1⟩, ⟨y2, x2⟩, y3, x3⟩ := owns_four HMC.out.1 (mor_len hj) (show j < l4.length + 1 by omega)
             have hjz1 : (j : Int) < (l4.length : Int) + 1 := by omega
             clear hcb HMC HSC
             go_wp2
             go_roundw
             case rel => exact ⟨j + 1, by omega, by first | rfl | go_num, HN.out⟩
             case measure => simp [RowKit.intOf]; omega
            | false =>
             have HN : Hid (wc.ownsRow B 52 4 (.slice (some ⟨gm, 0, none⟩) (l4.length + 1) cap) (l4.length + 1) (fl EF (mor n R s l4 (j + 1))) ∧ Below w8.heap.size w8 wc) := by
              rw [HNH.out hcb]
              exact HMC.out
             clear hcb HMC HSC
             go_wp2
             go_roundw
             case rel => exact ⟨j + 1, by omega, by first | rfl | go_num, HN.out⟩
             case measure => simp [RowKit.intOf]; omega
          ·have hjlz : ¬ (j : Int) < (l4.length : Int) := by omega
           have hje : j = l4.length := by omega
           subst hje
           have hlz : Df.Lz EF wr.heap.size wr (.slice (some ⟨gm, 0, none⟩) (l4.length + 1) cap) (mor n R s l4 l4.length) := Or.inl ⟨owns_lsl HM.out.1 (mor_len (Nat.le_refl _)), fun k hk => (HM.out.1.lt k hk).2⟩
           have hfr := HF.out _ _ _ _ (HB8.out.trans (HM.out.2.mono HB8.out.size)) hlz (by rw [mor_len (Nat.le_refl _)]; omega)
           rw [HFM.out s _ (fun u hu => mor_in HSI.out hu) mor_self (fun u hu => mor_or hu)] at hfr
           clear hlz
           go_wp2_with fail
           refine hfr.mono ?_
           clear hfr
           rintro r w9 ⟨p9, c9, rfl, H9⟩
           have HB9 : Hid (Below w8.heap.size w8 w9) := HM.out.2.trans (H9.out.2.mono HM.out.2.size)
           go_wp2_with fail
           refine (sameT_eq w9 H9.out.1 (HS6.out _ HB9.out) (by have := HFL.out; omega)).mono ?_
           rintro r w10 ⟨rfl, g10⟩
           have HB10 : Hid (Below w8.heap.size w8 w10) := HB9.out.trans (g10.below.mono HB9.out.size)
           clear g10 HB9 H9 HM
           go_wp2
           go_roundw
           case rel => exact ⟨i + 1, by omega, by first | rfl | go_num, HB10.out⟩
           case measure => simp [RowKit.intOf]; omega
       ·have hilz : ¬ (i : Int) < (l4.length : Int) := by omega
        go_wp2
        go_ret
        exact ⟨rfl, HBk.out.trans ((HB8.out.trans (HX.out.mono HB8.out.size)).mono HBk.out.size)⟩
    ·skip
     go_upto_if 52 with fail
     go_cut [2] (fun s2 wx => ∃ p c, s2 = .slice p (l.take 40).length c ∧ Hid (∀ W, Below Wk.heap.size Wk W → Df.Lz EF M2 W (.slice p (l.take 40).length c) (l.take 40)) ∧ wx = wr)
     case first =>
      by_cases h40 : 40 < l.length
      ·have z1 : (40 : Int) < (l.length : Int) := by omega
       have z2 : 40 ≤ cs := by omega
       have z3 : (40 : Int) ≤ (cs : Int) := by omega
       go_wp2_with fail
       go_meet
       exact ⟨ps, cs, by rw [List.length_take, Nat.min_eq_left (by omega)], fun W hb => by rw [List.length_take, Nat.min_eq_left (by omega)]; exact (HZ.out W hb).front 40 (by omega) cs, rfl⟩
      ·have z1 : ¬ (40 : Int) < (l.length : Int) := by omega
       have z2 : l.take 40 = l := List.take_of_length_le (by omega)
       go_wp2_with fail
       all_goals go_meet
       all_goals exact ⟨ps, cs, by rw [z2], fun W hb => by rw [z2]; exact HZ.out W hb, rfl⟩
     case rest =>
      obtain ⟨p4, c4, rfl, HZ4, rfl⟩ := hcut
      clear HZ hcs
      have HL4 : Hid ((l.take 40).length ≤ 40) := by show _ ≤ _; rw [List.length_take]; omega
      generalize l.take 40 = l4 at *
      have hfr := HF.out _ _ l4 M2 HA.out.2 (HZ4.out _ HA.out.2) (by have := HL4.out; omega)
      have HFL : Hid ((frt (allT n R q l4)).length ≤ 2560) := by have := fr1_len HR.out q l4; have := HL4.out; show _ ≤ _; omega
      have HEL : Hid ((fe n R q l4).length ≤ 2560) := by have := fe_len HR.out q l4; have := HL4.out; show _ ≤ _; omega
      have HFE : Hid (frt (allT n R q l4) = frt (fe n R q l4)) := frt_each q l4
      have HFM : Hid (∀ (s : Hf.Th) (mo : List Hf.Th), (∀ u ∈ mo, u ∈ l4) → s ∈ mo → (∀ u ∈ l4, u ∈ mo ∨ cldB n R s u = true) → frt (allT n R q mo) = frt (allT n R q l4)) := fun s mo h1 hm h2 => frt_more HRS.out q h1 hm h2
      generalize frt (allT n R q l4) = fr at *
      generalize fe n R q l4 = al at *
      go_wp2_with fail
      refine hfr.mono ?_
      clear hfr
      rintro r w6 ⟨p6, c6, rfl, H6⟩
      have HO6 := hid (owns_below HA.out.1 H6.out.2)
      have HB6 : Hid (Below Wk.heap.size Wk w6) := HA.out.2.trans (H6.out.2.mono HA.out.2.size)
      clear HA
      go_wp2_with fail
      refine (rfront_any _ al w6 (owns_ls (E := Pc.ET) HO6.out) (by have := HEL.out; omega)).mono ?_
      rintro r w7 ⟨v7, r7, rfl, o7, s7, m7, b7⟩
      have hr7 : r7 = fr := (frt_of s7 m7).trans HFE.out.symm
      subst hr7
      have HV7 : Hid (Ls Pc.ET w7 v7 r7) := out_ls o7
      have H67 : Hid (Ls Pc.ET w7 (.slice p6 r7.length c6) r7) := H6.out.1.below b7
      have HB7 : Hid (Below Wk.heap.size Wk w7) := HB6.out.trans (b7.mono HB6.out.size)
      clear o7 s7 m7 b7 H6 HO6 HB6 HFE HEL
      go_wp2_with fail
      refine (sameT_eq w7 H67.out HV7.out (by have := HFL.out; omega)).mono ?_
      rintro r w8 ⟨rfl, g8⟩
      have H68 : Hid (Ls Pc.ET w8 (.slice p6 r7.length c6) r7) := H67.out.below g8.below
      have HB8 : Hid (Below Wk.heap.size Wk w8) := HB7.out.trans (g8.below.mono HB7.out.size)
      clear g8 H67 HV7 HB7
      have HS6 : Hid (∀ W, Below w8.heap.size w8 W → Ls Pc.ET W (.slice p6 r7.length c6) r7) := fun W hb => H68.out.below hb
      clear H68
      go_wp2_with fail
      go_loopw [14, 15, 16] (fun s14 _ _ wx => ∃ i : Nat, i ≤ l4.length ∧ s14 = .int .i64 i ∧ Hid (Below w8.heap.size w8 wx)) (fun s14 _ _ _ => 40 - (RowKit.intOf s14).toNat)
      case atStart => exact ⟨0, by omega, rfl, Below.refl _ _⟩
      case round =>
       obtain ⟨i, hi, rfl, HX⟩ := hrel
       have hL4 := HL4.out
       by_cases hil : i < l4.length
       ·have hilz : (i : Int) < (l4.length : Int) := by omega
        obtain ⟨s, hs⟩ : ∃ s, l4[i]? = some s := ⟨l4[i]'hil, by simp⟩
        have HBX : Hid (Below Wk.heap.size Wk wr) := HB8.out.trans (HX.out.mono HB8.out.size)
        obtain ⟨b1, o1, c1, hv1, hb1, s0, s1, s2, s3⟩ := EF_at ((HZ4.out _ HBX.out).ls hs) hs
        cases hv1
        obtain ⟨B, hB⟩ : ∃ B, B = wr.heap.size := ⟨_, rfl⟩
        have HZW : Hid (∀ W, Below wr.heap.size wr W → Df.Lz EF M2 W (.slice (some ⟨b1, o1, none⟩) l4.length c4) l4) := fun W hb => HZ4.out _ (HBX.out.trans (hb.mono HBX.out.size))
        have HE : Hid (∀ W, Below wr.heap.size wr W → (W.cell? ⟨b1, o1 + i * 4, none⟩ = some (.int .i64 s.1) ∧ W.cell? ⟨b1, o1 + i * 4 + 1, none⟩ = some (.int .u64 s.2.1.1) ∧ W.cell? ⟨b1, o1 + i * 4 + 2, none⟩ = some (.int .u64 s.2.1.2.1) ∧ W.cell? ⟨b1, o1 + i * 4 + 3, none⟩ = some (.int .u64 s.2.1.2.2)) ∧ b1 < W.heap.size) := fun W hb => ⟨⟨(hb.cell (p := ⟨b1, o1 + i * 4, none⟩) hb1).trans s0, (hb.cell (p := ⟨b1, o1 + i * 4 + 1, none⟩) hb1).trans s1, (hb.cell (p := ⟨b1, o1 + i * 4 + 2, none⟩) hb1).trans s2, (hb.cell (p := ⟨b1, o1 + i * 4 + 3, none⟩) hb1).trans s3⟩, Nat.lt_of_lt_of_le hb1 hb.size⟩
        have HSI : Hid (s ∈ l4) := List.mem_of_getElem? hs
        have HS := hid hs
        clear s0 s1 s2 s3 hb1 hs
        go_upto_region 19 with fail
        go_cut [15] from 64 to 119 (fun s15 wc => ∃ g cap, s15 = .slice (some ⟨g, 0, none⟩) (l4.length + 1) cap ∧ Hid (wc.ownsRow wr.heap.size 52 4 s15 (l4.length + 1) (fl EF (l4 ++ [s])) ∧ Below wr.heap.size wr wc))
        case first =>
         have BD : Hid (Below wr.heap.size wr wr.drew) := (Gr.refl wr).drew.below
         have hi0 : (0 : Int) ≤ (i : Int) := by omega
         refine wp_regionD (S := fun W => Below wr.heap.size wr W) (D := []) hmx ?_
         generalize wr.drew = Wd at BD ⊢
         refine' wpAnyD_take (i := 1) (oi := {dst := some 71, op := .move (.tmp 2), type := 49, pos := "law.go:344", after := #[], guard := none}) (v := _) rfl (by kernel_rfl) (by kernel_rfl) (by kernel_rfl) (fun _ _ _ h => h) (by kernel_rfl) (Or.inl ⟨by rfl, ?hy5006⟩) BD.out ?rest5006
         case hy5006 => (intro W hSw; go_simp; try (with_reducible rfl))
         try simp only [Act.put, List.setIfInBounds_toArray, List.set_cons_zero, List.set_cons_succ]
         refine' wpAnyD_take (i := 3) (oi := {dst := some 73, op := .move (.tmp 2), type := 49, pos := "law.go:344", after := #[], guard := none}) (v := _) rfl (by kernel_rfl) (by kernel_rfl) (by kernel_rfl) (fun _ _ _ h => h) (by kernel_rfl) (Or.inl ⟨by rfl, ?hy5007⟩) BD.out ?rest5007
         case hy5007 => (intro W hSw; go_simp; try (with_reducible rfl))
         try simp only [Act.put, List.setIfInBounds_toArray, List.set_cons_zero, List.set_cons_succ]
         refine' wpAnyD_take (i := 4) (oi := {dst := some 74, op := .move (.tmp 14), type := 3, pos := "law.go:344", after := #[], guard := none}) (v := _) rfl (by kernel_rfl) (by kernel_rfl) (by kernel_rfl) (fun _ _ _ h => h) (by kernel_rfl) (Or.inl ⟨by rfl, ?hy5008⟩) BD.out ?rest5008
         case hy5008 => (intro W hSw; go_simp; try (with_reducible rfl))
         try simp only [Act.put, List.setIfInBounds_toArray, List.set_cons_zero, List.set_cons_succ]
         refine' wpAnyD_take (i := 5) (oi := {dst := some 75, op := .indexAddr 49 (.tmp 73) (.tmp 74), type := 0, pos := "law.go:344", after := #[{on := 3, ground := .data}, {on := 4, ground := .data}], guard := none}) (v := _) rfl (by kernel_rfl) (by kernel_rfl) (by kernel_rfl) (fun _ _ _ h => h) (by kernel_rfl) (Or.inl ⟨by rfl, ?hy5009⟩) BD.out ?rest5009
         case hy5009 => (intro W hSw; obtain ⟨⟨t0, t1, t2, t3⟩, hl⟩ := HE.out W hSw; go_simp; try (with_reducible rfl))
         try simp only [Act.put, List.setIfInBounds_toArray, List.set_cons_zero, List.set_cons_succ]
         refine' wpAnyD_take (i := 6) (oi := {dst := some 76, op := .load 52 (.tmp 75), type := 52, pos := "law.go:344", after := #[{on := 5, ground := .data}], guard := none}) (v := _) rfl (by kernel_rfl) (by kernel_rfl) (by kernel_rfl) (fun _ _ _ h => h) (by kernel_rfl) (Or.inl ⟨by rfl, ?hy5010⟩) BD.out ?rest5010
         case hy5010 => (intro W hSw; obtain ⟨⟨t0, t1, t2, t3⟩, hl⟩ := HE.out W hSw; go_simp; try (with_reducible rfl))
         try simp only [Act.put, List.setIfInBounds_toArray, List.set_cons_zero, List.set_cons_succ]
         refine wpAnyD_two (i := 0) (j := 7) (oi := {dst := some 70, op := .buildSlice 49 0 #[], type := 49, pos := "law.go:344", after := #[], guard := none}) (oj := {dst := some 77, op := .buildSlice 49 1 #[(0, .tmp 76)], type := 49, pos := "law.go:344", after := #[{on := 6, ground := .data}], guard := none}) (by kernel_rfl) rfl rfl (fun K hK => ?_) (fun K hK => ?_)
         ·skip
          go_simp
          have g7 := (Gr.refl Wd).alloc (.cells #[] 52)
          obtain ⟨b7, hb7⟩ : ∃ b, b = Wd.heap.size := ⟨_, rfl⟩
          obtain ⟨V7, hV7⟩ : ∃ V, V = Wd.alloc (.cells #[] 52) := ⟨_, rfl⟩
          rw [← hV7, ← hb7]
          rw [← hV7] at g7
          have B7 := hid (BD.out.trans (g7.below.mono BD.out.size))
          have O7 : Hid (V7.ownsRow wr.heap.size 52 4 (.slice (some ⟨b7, 0, none⟩) 0 0) 0 []) := by
           rw [hV7, hb7]
           exact World.ownsRow_made Wd #[] 0 BD.out.size (Nat.zero_le _) rfl
          clear g7 hV7 hb7
          refine hK.out _ _ (fun hD => B7.out) ?_
          clear hK K
          try simp only [Act.put, List.setIfInBounds_toArray, List.set_cons_zero, List.set_cons_succ]
          refine wpAnyD_two (i := 2) (j := 7) (oi := {dst := some 72, op := .call {callee := .builtin .append, args := #[.tmp 70, .tmp 71], argTypes := #[49, 49]}, type := 49, pos := "law.go:344", after := #[{on := 0, ground := .data}, {on := 1, ground := .data}], guard := none}) (oj := {dst := some 77, op := .buildSlice 49 1 #[(0, .tmp 76)], type := 49, pos := "law.go:344", after := #[{on := 6, ground := .data}], guard := none}) (by kernel_rfl) rfl rfl (fun K hK => ?_) (fun K hK => ?_)
          ·skip
           refine Df.step_appZ EF Tryz.underlying49 infoSt rfl (by decide) rfl _ _ rfl wr.heap.size (.slice (some ⟨b7, 0, none⟩) 0 0) 0 [] rfl O7.out B7.out.size M2 (.slice (some ⟨b1, o1, none⟩) l4.length c4) l4 rfl (HZW.out _ B7.out) (by have := HL4.out; omega) (by have := HL4.out; unfold maxLen; omega) ?_
           intro v8 w8 h8 k8
           have K8 := hid (Kp.grownBy (S := fun k => ((.slice (some ⟨b7, 0, none⟩) 0 0) : Value).ownBlock = some k) k8.out (fun _ h => h))
           have B8 := hid (B7.out.trans (K8.out.below B7.out.size (fun k hk => (O7.out.lt k hk).1)))
           have O8 : Hid (w8.ownsRow wr.heap.size 52 4 v8 l4.length (fl EF l4)) := owns_re h8.out (by simp) (by simp)
           clear h8 k8
           refine hK.out _ _ (fun hD => B8.out) ?_
           clear hK K
           try simp only [Act.put, List.setIfInBounds_toArray, List.set_cons_zero, List.set_cons_succ]
           refine wpAnyD_one (i := 7) (o := {dst := some 77, op := .buildSlice 49 1 #[(0, .tmp 76)], type := 49, pos := "law.go:344", after := #[{on := 6, ground := .data}], guard := none}) (by kernel_rfl) rfl (fun K hK => ?_)
           go_simp
           have g9 := (Gr.refl w8).alloc (.cells #[.int .i64 s.1, .int .u64 s.2.1.1, .int .u64 s.2.1.2.1, .int .u64 s.2.1.2.2] 52)
           have a9 := heap_new' w8 (.cells #[.int .i64 s.1, .int .u64 s.2.1.1, .int .u64 s.2.1.2.1, .int .u64 s.2.1.2.2] 52)
           obtain ⟨b9, hb9⟩ : ∃ b, b = w8.heap.size := ⟨_, rfl⟩
           obtain ⟨V9, hV9⟩ : ∃ V, V = w8.alloc (.cells #[.int .i64 s.1, .int .u64 s.2.1.1, .int .u64 s.2.1.2.1, .int .u64 s.2.1.2.2] 52) := ⟨_, rfl⟩
           rw [← hV9, ← hb9]
           rw [← hV9] at g9 a9
           have B9 := hid (B8.out.trans (g9.below.mono B8.out.size))
           have M9 : Hid (V9.heap[b9]? = some (.cells #[.int .i64 s.1, .int .u64 s.2.1.1, .int .u64 s.2.1.2.1, .int .u64 s.2.1.2.2] 52 (0, 0))) := by
            show _ = _
            rw [hb9]
            exact a9
           have O9 := hid (owns_below O8.out g9.below)
           have N9 : Hid (∀ k, (v8 : Value).ownBlock = some k → k ≠ b9) := fun k hk e => by
            have h1 := (O8.out.lt k hk).2
            omega
           clear g9 a9 hV9 hb9
           refine hK.out _ _ (fun hD => B9.out) ?_
           clear hK K
           try simp only [Act.put, List.setIfInBounds_toArray, List.set_cons_zero, List.set_cons_succ]
           refine wpAnyD_one (i := 8) (o := {dst := some 78, op := .call {callee := .builtin .append, args := #[.tmp 72, .tmp 77], argTypes := #[49, 49]}, type := 49, pos := "law.go:344", after := #[{on := 2, ground := .data}, {on := 7, ground := .data}, {on := 2, ground := .chain}], guard := none}) (by kernel_rfl) rfl (fun K hK => ?_)
           refine step_appL EF Tryz.underlying49 infoSt rfl (by decide) rfl _ _ rfl wr.heap.size v8 l4.length (fl EF l4) rfl O9.out B9.out.size (.slice (some ⟨b9, 0, none⟩) 1 1) [s] rfl (Df.one_ls M9.out rfl) (by have := HL4.out; simp; omega) (by have := HL4.out; unfold maxLen; simp; omega) ?_
           intro v10 w10 h10 k10
           have K10 := hid (Kp.grownBy (S := fun k => (v8 : Value).ownBlock = some k) k10.out (fun _ h => h))
           have B10 := hid (B9.out.trans (K10.out.below B9.out.size (fun k hk => (O9.out.lt k hk).1)))
           have O10 : Hid (w10.ownsRow wr.heap.size 52 4 v10 (l4.length + 1) (fl EF (l4 ++ [s]))) := owns_re h10.out (by simp) (by rw [fl_append])
           clear h10 k10
           refine hK.out _ _ (fun hD => B10.out) ?_
           clear hK K
           try simp only [Act.put, List.setIfInBounds_toArray, List.set_cons_zero, List.set_cons_succ]
           refine wpAnyD_one (i := 9) (o := {dst := some 15, op := .assign (.tmp 78), type := 49, pos := "law.go:344", after := #[{on := 8, ground := .data}, {on := 8, ground := .chain}, {on := 0, ground := .phase}, {on := 1, ground := .phase}, {on := 2, ground := .phase}, {on := 3, ground := .phase}, {on := 4, ground := .phase}, {on := 5, ground := .phase}, {on := 6, ground := .phase}, {on := 7, ground := .phase}, {on := 8, ground := .phase}], guard := none}) (by kernel_rfl) rfl (fun K hK => ?_)
           go_simp
           refine hK.out _ _ (fun hD => B10.out) ?_
           clear hK K
           try simp only [Act.put, List.setIfInBounds_toArray, List.set_cons_zero, List.set_cons_succ]
           refine wpAnyD_done (by kernel_rfl) ?_ _
           go_wp2_with fail
           go_meet
           obtain ⟨gg, cg, hg⟩ := own_form O10.out
           exact ⟨gg, cg, hg, O10.out, B10.out⟩
          ·skip
           go_simp
           have g13 := (Gr.refl V7).alloc (.cells #[.int .i64 s.1, .int .u64 s.2.1.1, .int .u64 s.2.1.2.1, .int .u64 s.2.1.2.2] 52)
           have a13 := heap_new' V7 (.cells #[.int .i64 s.1, .int .u64 s.2.1.1, .int .u64 s.2.1.2.1, .int .u64 s.2.1.2.2] 52)
           obtain ⟨b13, hb13⟩ : ∃ b, b = V7.heap.size := ⟨_, rfl⟩
           obtain ⟨V13, hV13⟩ : ∃ V, V = V7.alloc (.cells #[.int .i64 s.1, .int .u64 s.2.1.1, .int .u64 s.2.1.2.1, .int .u64 s.2.1.2.2] 52) := ⟨_, rfl⟩
           rw [← hV13, ← hb13]
           rw [← hV13] at g13 a13
           have B13 := hid (B7.out.trans (g13.below.mono B7.out.size))
           have M13 : Hid (V13.heap[b13]? = some (.cells #[.int .i64 s.1, .int .u64 s.2.1.1, .int .u64 s.2.1.2.1, .int .u64 s.2.1.2.2] 52 (0, 0))) := by
            show _ = _
            rw [hb13]
            exact a13
           have O13 := hid (owns_below O7.out g13.below)
           have N13 : Hid (∀ k, ((.slice (some ⟨b7, 0, none⟩) 0 0) : Value).ownBlock = some k → k ≠ b13) := fun k hk e => by
            have h1 := (O7.out.lt k hk).2
            omega
           clear g13 a13 hV13 hb13
           refine hK.out _ _ (fun hD => B13.out) ?_
           clear hK K
           try simp only [Act.put, List.setIfInBounds_toArray, List.set_cons_zero, List.set_cons_succ]
           refine wpAnyD_one (i := 2) (o := {dst := some 72, op := .call {callee := .builtin .append, args := #[.tmp 70, .tmp 71], argTypes := #[49, 49]}, type := 49, pos := "law.go:344", after := #[{on := 0, ground := .data}, {on := 1, ground := .data}], guard := none}) (by kernel_rfl) rfl (fun K hK => ?_)
           refine Df.step_appZ EF Tryz.underlying49 infoSt rfl (by decide) rfl _ _ rfl wr.heap.size (.slice (some ⟨b7, 0, none⟩) 0 0) 0 [] rfl O13.out B13.out.size M2 (.slice (some ⟨b1, o1, none⟩) l4.length c4) l4 rfl (HZW.out _ B13.out) (by have := HL4.out; omega) (by have := HL4.out; unfold maxLen; omega) ?_
           intro v14 w14 h14 k14
           have K14 := hid (Kp.grownBy (S := fun k => ((.slice (some ⟨b7, 0, none⟩) 0 0) : Value).ownBlock = some k) k14.out (fun _ h => h))
           have B14 := hid (B13.out.trans (K14.out.below B13.out.size (fun k hk => (O13.out.lt k hk).1)))
           have O14 : Hid (w14.ownsRow wr.heap.size 52 4 v14 l4.length (fl EF l4)) := owns_re h14.out (by simp) (by simp)
           have M14 := hid ((K14.out.block _ (tk_lt M13.out) (fun e => N13.out _ e rfl)).trans M13.out)
           clear h14 k14
           refine hK.out _ _ (fun hD => B14.out) ?_
           clear hK K
           try simp only [Act.put, List.setIfInBounds_toArray, List.set_cons_zero, List.set_cons_succ]
           refine wpAnyD_one (i := 8) (o := {dst := some 78, op := .call {callee := .builtin .append, args := #[.tmp 72, .tmp 77], argTypes := #[49, 49]}, type := 49, pos := "law.go:344", after := #[{on := 2, ground := .data}, {on := 7, ground := .data}, {on := 2, ground := .chain}], guard := none}) (by kernel_rfl) rfl (fun K hK => ?_)
           refine step_appL EF Tryz.underlying49 infoSt rfl (by decide) rfl _ _ rfl wr.heap.size v14 l4.length (fl EF l4) rfl O14.out B14.out.size (.slice (some ⟨b13, 0, none⟩) 1 1) [s] rfl (Df.one_ls M14.out rfl) (by have := HL4.out; simp; omega) (by have := HL4.out; unfold maxLen; simp; omega) ?_
           intro v15 w15 h15 k15
           have K15 := hid (Kp.grownBy (S := fun k => (v14 : Value).ownBlock = some k) k15.out (fun _ h => h))
           have B15 := hid (B14.out.trans (K15.out.below B14.out.size (fun k hk => (O14.out.lt k hk).1)))
           have O15 : Hid (w15.ownsRow wr.heap.size 52 4 v15 (l4.length + 1) (fl EF (l4 ++ [s]))) := owns_re h15.out (by simp) (by rw [fl_append])
           clear h15 k15
           refine hK.out _ _ (fun hD => B15.out) ?_
           clear hK K
           try simp only [Act.put, List.setIfInBounds_toArray, List.set_cons_zero, List.set_cons_succ]
           refine wpAnyD_one (i := 9) (o := {dst := some 15, op := .assign (.tmp 78), type := 49, pos := "law.go:344", after := #[{on := 8, ground := .data}, {on := 8, ground := .chain}, {on := 0, ground := .phase}, {on := 1, ground := .phase}, {on := 2, ground := .phase}, {on := 3, ground := .phase}, {on := 4, ground := .phase}, {on := 5, ground := .phase}, {on := 6, ground := .phase}, {on := 7, ground := .phase}, {on := 8, ground := .phase}], guard := none}) (by kernel_rfl) rfl (fun K hK => ?_)
           go_simp
           refine hK.out _ _ (fun hD => B15.out) ?_
           clear hK K
           try simp only [Act.put, List.setIfInBounds_toArray, List.set_cons_zero, List.set_cons_succ]
           refine wpAnyD_done (by kernel_rfl) ?_ _
           go_wp2_with fail
           go_meet
           obtain ⟨gg, cg, hg⟩ := own_form O15.out
           exact ⟨gg, cg, hg, O15.out, B15.out⟩
         ·skip
          go_simp
          have g17 := (Gr.refl Wd).alloc (.cells #[.int .i64 s.1, .int .u64 s.2.1.1, .int .u64 s.2.1.2.1, .int .u64 s.2.1.2.2] 52)
          have a17 := heap_new' Wd (.cells #[.int .i64 s.1, .int .u64 s.2.1.1, .int .u64 s.2.1.2.1, .int .u64 s.2.1.2.2] 52)
          obtain ⟨b17, hb17⟩ : ∃ b, b = Wd.heap.size := ⟨_, rfl⟩
          obtain ⟨V17, hV17⟩ : ∃ V, V = Wd.alloc (.cells #[.int .i64 s.1, .int .u64 s.2.1.1, .int .u64 s.2.1.2.1, .int .u64 s.2.1.2.2] 52) := ⟨_, rfl⟩
          rw [← hV17, ← hb17]
          rw [← hV17] at g17 a17
          have B17 := hid (BD.out.trans (g17.below.mono BD.out.size))
          have M17 : Hid (V17.heap[b17]? = some (.cells #[.int .i64 s.1, .int .u64 s.2.1.1, .int .u64 s.2.1.2.1, .int .u64 s.2.1.2.2] 52 (0, 0))) := by
           show _ = _
           rw [hb17]
           exact a17
          clear g17 a17 hV17 hb17
          refine hK.out _ _ (fun hD => B17.out) ?_
          clear hK K
          try simp only [Act.put, List.setIfInBounds_toArray, List.set_cons_zero, List.set_cons_succ]
          refine wpAnyD_one (i := 0) (o := {dst := some 70, op := .buildSlice 49 0 #[], type := 49, pos := "law.go:344", after := #[], guard := none}) (by kernel_rfl) rfl (fun K hK => ?_)
          go_simp
          have g18 := (Gr.refl V17).alloc (.cells #[] 52)
          obtain ⟨b18, hb18⟩ : ∃ b, b = V17.heap.size := ⟨_, rfl⟩
          obtain ⟨V18, hV18⟩ : ∃ V, V = V17.alloc (.cells #[] 52) := ⟨_, rfl⟩
          rw [← hV18, ← hb18]
          rw [← hV18] at g18
          have B18 := hid (B17.out.trans (g18.below.mono B17.out.size))
          have O18 : Hid (V18.ownsRow wr.heap.size 52 4 (.slice (some ⟨b18, 0, none⟩) 0 0) 0 []) := by
           rw [hV18, hb18]
           exact World.ownsRow_made V17 #[] 0 B17.out.size (Nat.zero_le _) rfl
          have M18 := hid ((g18.below.block _ (tk_lt M17.out)).trans M17.out)
          have N18 : Hid (∀ k, ((.slice (some ⟨b18, 0, none⟩) 0 0) : Value).ownBlock = some k → k ≠ b17) := fun k hk e => by
           have h1 := tk_lt M17.out
           simp [Value.ownBlock] at hk
           omega
          clear g18 hV18 hb18
          refine hK.out _ _ (fun hD => B18.out) ?_
          clear hK K
          try simp only [Act.put, List.setIfInBounds_toArray, List.set_cons_zero, List.set_cons_succ]
          refine wpAnyD_one (i := 2) (o := {dst := some 72, op := .call {callee := .builtin .append, args := #[.tmp 70, .tmp 71], argTypes := #[49, 49]}, type := 49, pos := "law.go:344", after := #[{on := 0, ground := .data}, {on := 1, ground := .data}], guard := none}) (by kernel_rfl) rfl (fun K hK => ?_)
          have M17' := M18
          refine Df.step_appZ EF Tryz.underlying49 infoSt rfl (by decide) rfl _ _ rfl wr.heap.size (.slice (some ⟨b18, 0, none⟩) 0 0) 0 [] rfl O18.out B18.out.size M2 (.slice (some ⟨b1, o1, none⟩) l4.length c4) l4 rfl (HZW.out _ B18.out) (by have := HL4.out; omega) (by have := HL4.out; unfold maxLen; omega) ?_
          intro v19 w19 h19 k19
          have K19 := hid (Kp.grownBy (S := fun k => ((.slice (some ⟨b18, 0, none⟩) 0 0) : Value).ownBlock = some k) k19.out (fun _ h => h))
          have B19 := hid (B18.out.trans (K19.out.below B18.out.size (fun k hk => (O18.out.lt k hk).1)))
          have O19 : Hid (w19.ownsRow wr.heap.size 52 4 v19 l4.length (fl EF l4)) := owns_re h19.out (by simp) (by simp)
          have M19 := hid ((K19.out.block _ (tk_lt M18.out) (fun e => N18.out _ e rfl)).trans M18.out)
          clear h19 k19 M17'
          refine hK.out _ _ (fun hD => B19.out) ?_
          clear hK K
          try simp only [Act.put, List.setIfInBounds_toArray, List.set_cons_zero, List.set_cons_succ]
          refine wpAnyD_one (i := 8) (o := {dst := some 78, op := .call {callee := .builtin .append, args := #[.tmp 72, .tmp 77], argTypes := #[49, 49]}, type := 49, pos := "law.go:344", after := #[{on := 2, ground := .data}, {on := 7, ground := .data}, {on := 2, ground := .chain}], guard := none}) (by kernel_rfl) rfl (fun K hK => ?_)
          refine step_appL EF Tryz.underlying49 infoSt rfl (by decide) rfl _ _ rfl wr.heap.size v19 l4.length (fl EF l4) rfl O19.out B19.out.size (.slice (some ⟨b17, 0, none⟩) 1 1) [s] rfl (Df.one_ls M19.out rfl) (by have := HL4.out; simp; omega) (by have := HL4.out; unfold maxLen; simp; omega) ?_
          intro v20 w20 h20 k20
          have K20 := hid (Kp.grownBy (S := fun k => (v19 : Value).ownBlock = some k) k20.out (fun _ h => h))
          have B20 := hid (B19.out.trans (K20.out.below B19.out.size (fun k hk => (O19.out.lt k hk).1)))
          have O20 : Hid (w20.ownsRow wr.heap.size 52 4 v20 (l4.length + 1) (fl EF (l4 ++ [s]))) := owns_re h20.out (by simp) (by rw [fl_append])
          clear h20 k20
          refine hK.out _ _ (fun hD => B20.out) ?_
          clear hK K
          try simp only [Act.put, List.setIfInBounds_toArray, List.set_cons_zero, List.set_cons_succ]
          refine wpAnyD_one (i := 9) (o := {dst := some 15, op := .assign (.tmp 78), type := 49, pos := "law.go:344", after := #[{on := 8, ground := .data}, {on := 8, ground := .chain}, {on := 0, ground := .phase}, {on := 1, ground := .phase}, {on := 2, ground := .phase}, {on := 3, ground := .phase}, {on := 4, ground := .phase}, {on := 5, ground := .phase}, {on := 6, ground := .phase}, {on := 7, ground := .phase}, {on := 8, ground := .phase}], guard := none}) (by kernel_rfl) rfl (fun K hK => ?_)
          go_simp
          refine hK.out _ _ (fun hD => B20.out) ?_
          clear hK K
          try simp only [Act.put, List.setIfInBounds_toArray, List.set_cons_zero, List.set_cons_succ]
          refine wpAnyD_done (by kernel_rfl) ?_ _
          go_wp2_with fail
          go_meet
          obtain ⟨gg, cg, hg⟩ := own_form O20.out
          exact ⟨gg, cg, hg, O20.out, B20.out⟩
        case rest =>
         obtain ⟨gm, cap, rfl, HC⟩ := hcut
         have HM : Hid (wc.ownsRow B 52 4 (.slice (some ⟨gm, 0, none⟩) (l4.length + 1) cap) (l4.length + 1) (fl EF (mor n R s l4 0)) ∧ Below w8.heap.size w8 wc) := by
          rw [mor_zero, hB]
          exact ⟨HC.out.1, HX.out.trans (HC.out.2.mono HX.out.size)⟩
         have HBB : Hid (w8.heap.size ≤ B) := by
          show _ ≤ _
          rw [hB]
          exact HX.out.size
         have HEW : Hid (∀ W, Below w8.heap.size w8 W → ∀ (j : Nat) (u : Hf.Th), l4[j]? = some u → (W.cell? ⟨b1, o1 + j * 4, none⟩ = some (.int .i64 u.1) ∧ W.cell? ⟨b1, o1 + j * 4 + 1, none⟩ = some (.int .u64 u.2.1.1) ∧ W.cell? ⟨b1, o1 + j * 4 + 2, none⟩ = some (.int .u64 u.2.1.2.1) ∧ W.cell? ⟨b1, o1 + j * 4 + 3, none⟩ = some (.int .u64 u.2.1.2.2)) ∧ b1 < W.heap.size) := fun W hb j u hu => by
          obtain ⟨b2, o2, c2, hv2, hb2, u0, u1, u2, u3⟩ := EF_at ((HZ4.out _ (HB8.out.trans (hb.mono HB8.out.size))).ls hu) hu
          cases hv2
          exact ⟨⟨u0, u1, u2, u3⟩, hb2⟩
         clear HX HBX HE HZW HC hB hilz hil hi
         go_wp2_with fail
         go_loopw [16] (fun s16 wx => ∃ j : Nat, j ≤ l4.length ∧ s16 = .int .i64 j ∧ Hid (wx.ownsRow B 52 4 (.slice (some ⟨gm, 0, none⟩) (l4.length + 1) cap) (l4.length + 1) (fl EF (mor n R s l4 j)) ∧ Below w8.heap.size w8 wx)) (fun s16 _ => 40 - (RowKit.intOf s16).toNat)
         case atStart => exact ⟨0, by omega, rfl, HM.out⟩
         case round =>
          clear HM
          obtain ⟨j, hj, rfl, HM⟩ := hrel
          have hiL : (i : Int) < (l4.length : Int) := by
           have := (List.getElem?_eq_some_iff.1 HS.out).1
           omega
          by_cases hjl : j < l4.length
          ·have hjlz : (j : Int) < (l4.length : Int) := by omega
           obtain ⟨u, hu⟩ : ∃ u, l4[j]? = some u := ⟨l4[j]'hjl, by simp⟩
           have hi0 : (0 : Int) ≤ (i : Int) := by omega
           have hj0 : (0 : Int) ≤ (j : Int) := by omega
           have HSE : Hid (∀ W, Below wr.heap.size wr W → ((W.cell? ⟨b1, o1 + i * 4, none⟩ = some (.int .i64 s.1) ∧ W.cell? ⟨b1, o1 + i * 4 + 1, none⟩ = some (.int .u64 s.2.1.1) ∧ W.cell? ⟨b1, o1 + i * 4 + 2, none⟩ = some (.int .u64 s.2.1.2.1) ∧ W.cell? ⟨b1, o1 + i * 4 + 3, none⟩ = some (.int .u64 s.2.1.2.2)) ∧ (W.cell? ⟨b1, o1 + j * 4, none⟩ = some (.int .i64 u.1) ∧ W.cell? ⟨b1, o1 + j * 4 + 1, none⟩ = some (.int .u64 u.2.1.1) ∧ W.cell? ⟨b1, o1 + j * 4 + 2, none⟩ = some (.int .u64 u.2.1.2.1) ∧ W.cell? ⟨b1, o1 + j * 4 + 3, none⟩ = some (.int .u64 u.2.1.2.2)) ∧ b1 < W.heap.size)) := fun W hb => by
            have hw := HM.out.2.trans (hb.mono HM.out.2.size)
            exact ⟨(HEW.out W hw i s HS.out).1, HEW.out W hw j u hu⟩
           have hcd := fun W (hb : Below wr.heap.size wr W) => HCD.out W s u (HB8.out.trans ((HM.out.2.trans (hb.mono HM.out.2.size)).mono HB8.out.size))
           have HU := hid hu
           have HMY := fun h => (mor_yes (n := n) (R := R) (s := s) hu h)
           have HMN := fun h => (mor_no (n := n) (R := R) (s := s) hu h)
           have HYH := hid HMY
           have HNH := hid HMN
           clear hu HMY HMN
           go_upto_region 23 with fail
           go_cut [105] from 79 to 112 (fun s105 wy => s105 = .bool (decide (u ≠ s) && cldB n R s u) ∧ Hid (Below wr.heap.size wr wy))
           case first =>
            have hB0 : Below wr.heap.size wr wr.drew := (Gr.refl wr).drew.below
            have hS0 := HSE.out _ hB0
            by_cases hus : u = s
            ·have heq := run_neqTh (decide_eq_true hus)
             have HCC : Hid ((decide (u ≠ s) && cldB n R s u) = false) := by
              show _ = _
              simp [hus]
             clear hus hcd
             refine wp_regionD (S := fun W => ((W.cell? ⟨b1, o1 + i * 4, none⟩ = some (.int .i64 s.1) ∧ W.cell? ⟨b1, o1 + i * 4 + 1, none⟩ = some (.int .u64 s.2.1.1) ∧ W.cell? ⟨b1, o1 + i * 4 + 2, none⟩ = some (.int .u64 s.2.1.2.1) ∧ W.cell? ⟨b1, o1 + i * 4 + 3, none⟩ = some (.int .u64 s.2.1.2.2)) ∧ (W.cell? ⟨b1, o1 + j * 4, none⟩ = some (.int .i64 u.1) ∧ W.cell? ⟨b1, o1 + j * 4 + 1, none⟩ = some (.int .u64 u.2.1.1) ∧ W.cell? ⟨b1, o1 + j * 4 + 2, none⟩ = some (.int .u64 u.2.1.2.1) ∧ W.cell? ⟨b1, o1 + j * 4 + 3, none⟩ = some (.int .u64 u.2.1.2.2)) ∧ b1 < W.heap.size)) (D := []) hmx ?_
             refine' wpAnyD_take (i := 0) (oi := {dst := some 85, op := .move (.tmp 2), type := 49, pos := "law.go:346", after := #[], guard := none}) (v := _) rfl (by kernel_rfl) (by kernel_rfl) (by kernel_rfl) (fun _ _ _ h => h) (by kernel_rfl) (Or.inl ⟨by rfl, ?hy43⟩) hS0 ?rest43
             case hy43 => (intro W hSw; go_simp; try (with_reducible rfl))
             try simp only [Act.put, List.setIfInBounds_toArray, List.set_cons_zero, List.set_cons_succ]
             refine' wpAnyD_take (i := 1) (oi := {dst := some 86, op := .move (.tmp 16), type := 3, pos := "law.go:346", after := #[], guard := none}) (v := _) rfl (by kernel_rfl) (by kernel_rfl) (by kernel_rfl) (fun _ _ _ h => h) (by kernel_rfl) (Or.inl ⟨by rfl, ?hy44⟩) hS0 ?rest44
             case hy44 => (intro W hSw; go_simp; try (with_reducible rfl))
             try simp only [Act.put, List.setIfInBounds_toArray, List.set_cons_zero, List.set_cons_succ]
             refine' wpAnyD_take (i := 2) (oi := {dst := some 87, op := .indexAddr 49 (.tmp 85) (.tmp 86), type := 0, pos := "law.go:346", after := #[{on := 0, ground := .data}, {on := 1, ground := .data}], guard := none}) (v := _) rfl (by kernel_rfl) (by kernel_rfl) (by kernel_rfl) (fun _ _ _ h => h) (by kernel_rfl) (Or.inl ⟨by rfl, ?hy45⟩) hS0 ?rest45
             case hy45 => (intro W hSw; obtain ⟨⟨t0, t1, t2, t3⟩, ⟨x0, x1, x2, x3⟩, hl⟩ := hSw; go_simp; try (with_reducible rfl))
             try simp only [Act.put, List.setIfInBounds_toArray, List.set_cons_zero, List.set_cons_succ]
             refine' wpAnyD_take (i := 3) (oi := {dst := some 88, op := .load 52 (.tmp 87), type := 52, pos := "law.go:346", after := #[{on := 2, ground := .data}], guard := none}) (v := _) rfl (by kernel_rfl) (by kernel_rfl) (by kernel_rfl) (fun _ _ _ h => h) (by kernel_rfl) (Or.inl ⟨by rfl, ?hy46⟩) hS0 ?rest46
             case hy46 => (intro W hSw; obtain ⟨⟨t0, t1, t2, t3⟩, ⟨x0, x1, x2, x3⟩, hl⟩ := hSw; go_simp; try (with_reducible rfl))
             try simp only [Act.put, List.setIfInBounds_toArray, List.set_cons_zero, List.set_cons_succ]
             refine' wpAnyD_take (i := 4) (oi := {dst := some 89, op := .move (.tmp 2), type := 49, pos := "law.go:346", after := #[], guard := none}) (v := _) rfl (by kernel_rfl) (by kernel_rfl) (by kernel_rfl) (fun _ _ _ h => h) (by kernel_rfl) (Or.inl ⟨by rfl, ?hy47⟩) hS0 ?rest47
             case hy47 => (intro W hSw; go_simp; try (with_reducible rfl))
             try simp only [Act.put, List.setIfInBounds_toArray, List.set_cons_zero, List.set_cons_succ]
             refine' wpAnyD_take (i := 5) (oi := {dst := some 90, op := .move (.tmp 14), type := 3, pos := "law.go:346", after := #[], guard := none}) (v := _) rfl (by kernel_rfl) (by kernel_rfl) (by kernel_rfl) (fun _ _ _ h => h) (by kernel_rfl) (Or.inl ⟨by rfl, ?hy48⟩) hS0 ?rest48
             case hy48 => (intro W hSw; go_simp; try (with_reducible rfl))
             try simp only [Act.put, List.setIfInBounds_toArray, List.set_cons_zero, List.set_cons_succ]
             refine' wpAnyD_take (i := 6) (oi := {dst := some 91, op := .indexAddr 49 (.tmp 89) (.tmp 90), type := 0, pos := "law.go:346", after := #[{on := 4, ground := .data}, {on := 5, ground := .data}], guard := none}) (v := _) rfl (by kernel_rfl) (by kernel_rfl) (by kernel_rfl) (fun _ _ _ h => h) (by kernel_rfl) (Or.inl ⟨by rfl, ?hy49⟩) hS0 ?rest49
             case hy49 => (intro W hSw; obtain ⟨⟨t0, t1, t2, t3⟩, ⟨x0, x1, x2, x3⟩, hl⟩ := hSw; go_simp; try (with_reducible rfl))
             try simp only [Act.put, List.setIfInBounds_toArray, List.set_cons_zero, List.set_cons_succ]
             refine' wpAnyD_take (i := 7) (oi := {dst := some 92, op := .load 52 (.tmp 91), type := 52, pos := "law.go:346", after := #[{on := 6, ground := .data}], guard := none}) (v := _) rfl (by kernel_rfl) (by kernel_rfl) (by kernel_rfl) (fun _ _ _ h => h) (by kernel_rfl) (Or.inl ⟨by rfl, ?hy50⟩) hS0 ?rest50
             case hy50 => (intro W hSw; obtain ⟨⟨t0, t1, t2, t3⟩, ⟨x0, x1, x2, x3⟩, hl⟩ := hSw; go_simp; try (with_reducible rfl))
             try simp only [Act.put, List.setIfInBounds_toArray, List.set_cons_zero, List.set_cons_succ]
             refine' wpAnyD_take (i := 8) (oi := {dst := some 93, op := .binOp .neq 52 (.tmp 88) (.tmp 92) 52, type := 4, pos := "law.go:346", after := #[{on := 3, ground := .data}, {on := 7, ground := .data}], guard := none}) (v := _) rfl (by kernel_rfl) (by kernel_rfl) (by kernel_rfl) (fun _ _ _ h => h) (by kernel_rfl) (Or.inl ⟨by rfl, ?hy51⟩) hS0 ?rest51
             case hy51 => (intro W hSw; go_simp; try (with_reducible rfl))
             try simp only [Act.put, List.setIfInBounds_toArray, List.set_cons_zero, List.set_cons_succ]
             refine' wpAnyD_take (i := 9) (oi := {dst := some 94, op := .move (.tmp 93), type := 4, pos := "law.go:346", after := #[{on := 8, ground := .data}], guard := none}) (v := _) rfl (by kernel_rfl) (by kernel_rfl) (by kernel_rfl) (fun _ _ _ h => h) (by kernel_rfl) (Or.inl ⟨by rfl, ?hy52⟩) hS0 ?rest52
             case hy52 => (intro W hSw; go_simp; try (with_reducible rfl))
             try simp only [Act.put, List.setIfInBounds_toArray, List.set_cons_zero, List.set_cons_succ]
             refine' wpAnyD_take (i := 10) (oi := {dst := some 95, op := .move (.tmp 7), type := 26, pos := "law.go:346", after := #[{on := 9, ground := .guard}], guard := some (9, true)}) (v := undef) rfl (by kernel_rfl) (by kernel_rfl) (by kernel_rfl) (fun _ _ _ h => h) (by kernel_rfl) (Or.inr ⟨by rfl, rfl⟩) hS0 ?rest53
             try simp only [Act.put, List.setIfInBounds_toArray, List.set_cons_zero, List.set_cons_succ]
             refine' wpAnyD_take (i := 11) (oi := {dst := some 96, op := .move (.tmp 2), type := 49, pos := "law.go:346", after := #[{on := 9, ground := .guard}], guard := some (9, true)}) (v := undef) rfl (by kernel_rfl) (by kernel_rfl) (by kernel_rfl) (fun _ _ _ h => h) (by kernel_rfl) (Or.inr ⟨by rfl, rfl⟩) hS0 ?rest54
             try simp only [Act.put, List.setIfInBounds_toArray, List.set_cons_zero, List.set_cons_succ]
             refine' wpAnyD_take (i := 12) (oi := {dst := some 97, op := .move (.tmp 14), type := 3, pos := "law.go:346", after := #[{on := 9, ground := .guard}], guard := some (9, true)}) (v := undef) rfl (by kernel_rfl) (by kernel_rfl) (by kernel_rfl) (fun _ _ _ h => h) (by kernel_rfl) (Or.inr ⟨by rfl, rfl⟩) hS0 ?rest55
             try simp only [Act.put, List.setIfInBounds_toArray, List.set_cons_zero, List.set_cons_succ]
             refine' wpAnyD_take (i := 13) (oi := {dst := some 98, op := .indexAddr 49 (.tmp 96) (.tmp 97), type := 0, pos := "law.go:346", after := #[{on := 11, ground := .data}, {on := 12, ground := .data}, {on := 9, ground := .guard}], guard := some (9, true)}) (v := undef) rfl (by kernel_rfl) (by kernel_rfl) (by kernel_rfl) (fun _ _ _ h => h) (by kernel_rfl) (Or.inr ⟨by rfl, rfl⟩) hS0 ?rest56
             try simp only [Act.put, List.setIfInBounds_toArray, List.set_cons_zero, List.set_cons_succ]
             refine' wpAnyD_take (i := 14) (oi := {dst := some 99, op := .load 52 (.tmp 98), type := 52, pos := "law.go:346", after := #[{on := 13, ground := .data}, {on := 9, ground := .guard}], guard := some (9, true)}) (v := undef) rfl (by kernel_rfl) (by kernel_rfl) (by kernel_rfl) (fun _ _ _ h => h) (by kernel_rfl) (Or.inr ⟨by rfl, rfl⟩) hS0 ?rest57
             try simp only [Act.put, List.setIfInBounds_toArray, List.set_cons_zero, List.set_cons_succ]
             refine' wpAnyD_take (i := 15) (oi := {dst := some 100, op := .move (.tmp 2), type := 49, pos := "law.go:346", after := #[{on := 9, ground := .guard}], guard := some (9, true)}) (v := undef) rfl (by kernel_rfl) (by kernel_rfl) (by kernel_rfl) (fun _ _ _ h => h) (by kernel_rfl) (Or.inr ⟨by rfl, rfl⟩) hS0 ?rest58
             try simp only [Act.put, List.setIfInBounds_toArray, List.set_cons_zero, List.set_cons_succ]
             refine' wpAnyD_take (i := 16) (oi := {dst := some 101, op := .move (.tmp 16), type := 3, pos := "law.go:346", after := #[{on := 9, ground := .guard}], guard := some (9, true)}) (v := undef) rfl (by kernel_rfl) (by kernel_rfl) (by kernel_rfl) (fun _ _ _ h => h) (by kernel_rfl) (Or.inr ⟨by rfl, rfl⟩) hS0 ?rest59
             try simp only [Act.put, List.setIfInBounds_toArray, List.set_cons_zero, List.set_cons_succ]
             refine' wpAnyD_take (i := 17) (oi := {dst := some 102, op := .indexAddr 49 (.tmp 100) (.tmp 101), type := 0, pos := "law.go:346", after := #[{on := 15, ground := .data}, {on := 16, ground := .data}, {on := 9, ground := .guard}], guard := some (9, true)}) (v := undef) rfl (by kernel_rfl) (by kernel_rfl) (by kernel_rfl) (fun _ _ _ h => h) (by kernel_rfl) (Or.inr ⟨by rfl, rfl⟩) hS0 ?rest60
             try simp only [Act.put, List.setIfInBounds_toArray, List.set_cons_zero, List.set_cons_succ]
             refine' wpAnyD_take (i := 18) (oi := {dst := some 103, op := .load 52 (.tmp 102), type := 52, pos := "law.go:346", after := #[{on := 17, ground := .data}, {on := 9, ground := .guard}], guard := some (9, true)}) (v := undef) rfl (by kernel_rfl) (by kernel_rfl) (by kernel_rfl) (fun _ _ _ h => h) (by kernel_rfl) (Or.inr ⟨by rfl, rfl⟩) hS0 ?rest61
             try simp only [Act.put, List.setIfInBounds_toArray, List.set_cons_zero, List.set_cons_succ]
             refine wpAnyD_one (i := 19) (o := {dst := some 104, op := .call {callee := .value (.func 17), args := #[.tmp 95, .tmp 99, .tmp 103], argTypes := #[26, 52, 52]}, type := 4, pos := "law.go:346", after := #[{on := 10, ground := .data}, {on := 14, ground := .data}, {on := 18, ground := .data}, {on := 9, ground := .chain}, {on := 9, ground := .guard}], guard := some (9, true)}) (by kernel_rfl) rfl (fun K hK => ?_)
             rw [if_neg (Bool.eq_false_iff.1 (by kernel_rfl))]
             refine hK.out _ _ (fun hD => hS0) ?_
             clear hK K
             try simp only [Act.put, List.setIfInBounds_toArray, List.set_cons_zero, List.set_cons_succ]
             refine' wpAnyD_take (i := 20) (oi := {dst := some 105, op := .pick (.tmp 94) (.tmp 104) (.const (.bool false)), type := 4, pos := "law.go:346", after := #[{on := 9, ground := .data}, {on := 19, ground := .data}], guard := none}) (v := _) rfl (by kernel_rfl) (by kernel_rfl) (by kernel_rfl) (fun _ _ _ h => h) (by kernel_rfl) (Or.inl ⟨by rfl, ?hy63⟩) hS0 ?rest63
             case hy63 => (intro W hSw; go_simp; try (with_reducible rfl))
             try simp only [Act.put, List.setIfInBounds_toArray, List.set_cons_zero, List.set_cons_succ]
             refine wpAnyD_done (by kernel_rfl) ?_ _
             go_wp2_with fail
             go_meet
             exact ⟨by rw [HCC.out], hB0⟩
            ·have heq := run_neqTh (decide_eq_false hus)
             have HCC : Hid ((decide (u ≠ s) && cldB n R s u) = cldB n R s u) := by
              show _ = _
              simp [hus]
             clear hus
             refine wp_regionD (S := fun W => ((W.cell? ⟨b1, o1 + i * 4, none⟩ = some (.int .i64 s.1) ∧ W.cell? ⟨b1, o1 + i * 4 + 1, none⟩ = some (.int .u64 s.2.1.1) ∧ W.cell? ⟨b1, o1 + i * 4 + 2, none⟩ = some (.int .u64 s.2.1.2.1) ∧ W.cell? ⟨b1, o1 + i * 4 + 3, none⟩ = some (.int .u64 s.2.1.2.2)) ∧ (W.cell? ⟨b1, o1 + j * 4, none⟩ = some (.int .i64 u.1) ∧ W.cell? ⟨b1, o1 + j * 4 + 1, none⟩ = some (.int .u64 u.2.1.1) ∧ W.cell? ⟨b1, o1 + j * 4 + 2, none⟩ = some (.int .u64 u.2.1.2.1) ∧ W.cell? ⟨b1, o1 + j * 4 + 3, none⟩ = some (.int .u64 u.2.1.2.2)) ∧ b1 < W.heap.size)) (D := []) hmx ?_
             refine' wpAnyD_take (i := 0) (oi := {dst := some 85, op := .move (.tmp 2), type := 49, pos := "law.go:346", after := #[], guard := none}) (v := _) rfl (by kernel_rfl) (by kernel_rfl) (by kernel_rfl) (fun _ _ _ h => h) (by kernel_rfl) (Or.inl ⟨by rfl, ?hy64⟩) hS0 ?rest64
             case hy64 => (intro W hSw; go_simp; try (with_reducible rfl))
             try simp only [Act.put, List.setIfInBounds_toArray, List.set_cons_zero, List.set_cons_succ]
             refine' wpAnyD_take (i := 1) (oi := {dst := some 86, op := .move (.tmp 16), type := 3, pos := "law.go:346", after := #[], guard := none}) (v := _) rfl (by kernel_rfl) (by kernel_rfl) (by kernel_rfl) (fun _ _ _ h => h) (by kernel_rfl) (Or.inl ⟨by rfl, ?hy65⟩) hS0 ?rest65
             case hy65 => (intro W hSw; go_simp; try (with_reducible rfl))
             try simp only [Act.put, List.setIfInBounds_toArray, List.set_cons_zero, List.set_cons_succ]
             refine' wpAnyD_take (i := 2) (oi := {dst := some 87, op := .indexAddr 49 (.tmp 85) (.tmp 86), type := 0, pos := "law.go:346", after := #[{on := 0, ground := .data}, {on := 1, ground := .data}], guard := none}) (v := _) rfl (by kernel_rfl) (by kernel_rfl) (by kernel_rfl) (fun _ _ _ h => h) (by kernel_rfl) (Or.inl ⟨by rfl, ?hy66⟩) hS0 ?rest66
             case hy66 => (intro W hSw; obtain ⟨⟨t0, t1, t2, t3⟩, ⟨x0, x1, x2, x3⟩, hl⟩ := hSw; go_simp; try (with_reducible rfl))
             try simp only [Act.put, List.setIfInBounds_toArray, List.set_cons_zero, List.set_cons_succ]
             refine' wpAnyD_take (i := 3) (oi := {dst := some 88, op := .load 52 (.tmp 87), type := 52, pos := "law.go:346", after := #[{on := 2, ground := .data}], guard := none}) (v := _) rfl (by kernel_rfl) (by kernel_rfl) (by kernel_rfl) (fun _ _ _ h => h) (by kernel_rfl) (Or.inl ⟨by rfl, ?hy67⟩) hS0 ?rest67
             case hy67 => (intro W hSw; obtain ⟨⟨t0, t1, t2, t3⟩, ⟨x0, x1, x2, x3⟩, hl⟩ := hSw; go_simp; try (with_reducible rfl))
             try simp only [Act.put, List.setIfInBounds_toArray, List.set_cons_zero, List.set_cons_succ]
             refine' wpAnyD_take (i := 4) (oi := {dst := some 89, op := .move (.tmp 2), type := 49, pos := "law.go:346", after := #[], guard := none}) (v := _) rfl (by kernel_rfl) (by kernel_rfl) (by kernel_rfl) (fun _ _ _ h => h) (by kernel_rfl) (Or.inl ⟨by rfl, ?hy68⟩) hS0 ?rest68
             case hy68 => (intro W hSw; go_simp; try (with_reducible rfl))
             try simp only [Act.put, List.setIfInBounds_toArray, List.set_cons_zero, List.set_cons_succ]
             refine' wpAnyD_take (i := 5) (oi := {dst := some 90, op := .move (.tmp 14), type := 3, pos := "law.go:346", after := #[], guard := none}) (v := _) rfl (by kernel_rfl) (by kernel_rfl) (by kernel_rfl) (fun _ _ _ h => h) (by kernel_rfl) (Or.inl ⟨by rfl, ?hy69⟩) hS0 ?rest69
             case hy69 => (intro W hSw; go_simp; try (with_reducible rfl))
             try simp only [Act.put, List.setIfInBounds_toArray, List.set_cons_zero, List.set_cons_succ]
             refine' wpAnyD_take (i := 6) (oi := {dst := some 91, op := .indexAddr 49 (.tmp 89) (.tmp 90), type := 0, pos := "law.go:346", after := #[{on := 4, ground := .data}, {on := 5, ground := .data}], guard := none}) (v := _) rfl (by kernel_rfl) (by kernel_rfl) (by kernel_rfl) (fun _ _ _ h => h) (by kernel_rfl) (Or.inl ⟨by rfl, ?hy70⟩) hS0 ?rest70
             case hy70 => (intro W hSw; obtain ⟨⟨t0, t1, t2, t3⟩, ⟨x0, x1, x2, x3⟩, hl⟩ := hSw; go_simp; try (with_reducible rfl))
             try simp only [Act.put, List.setIfInBounds_toArray, List.set_cons_zero, List.set_cons_succ]
             refine' wpAnyD_take (i := 7) (oi := {dst := some 92, op := .load 52 (.tmp 91), type := 52, pos := "law.go:346", after := #[{on := 6, ground := .data}], guard := none}) (v := _) rfl (by kernel_rfl) (by kernel_rfl) (by kernel_rfl) (fun _ _ _ h => h) (by kernel_rfl) (Or.inl ⟨by rfl, ?hy71⟩) hS0 ?rest71
             case hy71 => (intro W hSw; obtain ⟨⟨t0, t1, t2, t3⟩, ⟨x0, x1, x2, x3⟩, hl⟩ := hSw; go_simp; try (with_reducible rfl))
             try simp only [Act.put, List.setIfInBounds_toArray, List.set_cons_zero, List.set_cons_succ]
             refine' wpAnyD_take (i := 8) (oi := {dst := some 93, op := .binOp .neq 52 (.tmp 88) (.tmp 92) 52, type := 4, pos := "law.go:346", after := #[{on := 3, ground := .data}, {on := 7, ground := .data}], guard := none}) (v := _) rfl (by kernel_rfl) (by kernel_rfl) (by kernel_rfl) (fun _ _ _ h => h) (by kernel_rfl) (Or.inl ⟨by rfl, ?hy72⟩) hS0 ?rest72
             case hy72 => (intro W hSw; go_simp; try (with_reducible rfl))
             try simp only [Act.put, List.setIfInBounds_toArray, List.set_cons_zero, List.set_cons_succ]
             refine' wpAnyD_take (i := 9) (oi := {dst := some 94, op := .move (.tmp 93), type := 4, pos := "law.go:346", after := #[{on := 8, ground := .data}], guard := none}) (v := _) rfl (by kernel_rfl) (by kernel_rfl) (by kernel_rfl) (fun _ _ _ h => h) (by kernel_rfl) (Or.inl ⟨by rfl, ?hy73⟩) hS0 ?rest73
             case hy73 => (intro W hSw; go_simp; try (with_reducible rfl))
             try simp only [Act.put, List.setIfInBounds_toArray, List.set_cons_zero, List.set_cons_succ]
             refine' wpAnyD_take (i := 10) (oi := {dst := some 95, op := .move (.tmp 7), type := 26, pos := "law.go:346", after := #[{on := 9, ground := .guard}], guard := some (9, true)}) (v := _) rfl (by kernel_rfl) (by kernel_rfl) (by kernel_rfl) (fun _ _ _ h => h) (by kernel_rfl) (Or.inl ⟨by rfl, ?hy74⟩) hS0 ?rest74
             case hy74 => (intro W hSw; go_simp; try (with_reducible rfl))
             try simp only [Act.put, List.setIfInBounds_toArray, List.set_cons_zero, List.set_cons_succ]
             refine' wpAnyD_take (i := 11) (oi := {dst := some 96, op := .move (.tmp 2), type := 49, pos := "law.go:346", after := #[{on := 9, ground := .guard}], guard := some (9, true)}) (v := _) rfl (by kernel_rfl) (by kernel_rfl) (by kernel_rfl) (fun _ _ _ h => h) (by kernel_rfl) (Or.inl ⟨by rfl, ?hy75⟩) hS0 ?rest75
             case hy75 => (intro W hSw; go_simp; try (with_reducible rfl))
             try simp only [Act.put, List.setIfInBounds_toArray, List.set_cons_zero, List.set_cons_succ]
             refine' wpAnyD_take (i := 12) (oi := {dst := some 97, op := .move (.tmp 14), type := 3, pos := "law.go:346", after := #[{on := 9, ground := .guard}], guard := some (9, true)}) (v := _) rfl (by kernel_rfl) (by kernel_rfl) (by kernel_rfl) (fun _ _ _ h => h) (by kernel_rfl) (Or.inl ⟨by rfl, ?hy76⟩) hS0 ?rest76
             case hy76 => (intro W hSw; go_simp; try (with_reducible rfl))
             try simp only [Act.put, List.setIfInBounds_toArray, List.set_cons_zero, List.set_cons_succ]
             refine' wpAnyD_take (i := 13) (oi := {dst := some 98, op := .indexAddr 49 (.tmp 96) (.tmp 97), type := 0, pos := "law.go:346", after := #[{on := 11, ground := .data}, {on := 12, ground := .data}, {on := 9, ground := .guard}], guard := some (9, true)}) (v := _) rfl (by kernel_rfl) (by kernel_rfl) (by kernel_rfl) (fun _ _ _ h => h) (by kernel_rfl) (Or.inl ⟨by rfl, ?hy77⟩) hS0 ?rest77
             case hy77 => (intro W hSw; obtain ⟨⟨t0, t1, t2, t3⟩, ⟨x0, x1, x2, x3⟩, hl⟩ := hSw; go_simp; try (with_reducible rfl))
             try simp only [Act.put, List.setIfInBounds_toArray, List.set_cons_zero, List.set_cons_succ]
             refine' wpAnyD_take (i := 14) (oi := {dst := some 99, op := .load 52 (.tmp 98), type := 52, pos := "law.go:346", after := #[{on := 13, ground := .data}, {on := 9, ground := .guard}], guard := some (9, true)}) (v := _) rfl (by kernel_rfl) (by kernel_rfl) (by kernel_rfl) (fun _ _ _ h => h) (by kernel_rfl) (Or.inl ⟨by rfl, ?hy78⟩) hS0 ?rest78
             case hy78 => (intro W hSw; obtain ⟨⟨t0, t1, t2, t3⟩, ⟨x0, x1, x2, x3⟩, hl⟩ := hSw; go_simp; try (with_reducible rfl))
             try simp only [Act.put, List.setIfInBounds_toArray, List.set_cons_zero, List.set_cons_succ]
             refine' wpAnyD_take (i := 15) (oi := {dst := some 100, op := .move (.tmp 2), type := 49, pos := "law.go:346", after := #[{on := 9, ground := .guard}], guard := some (9, true)}) (v := _) rfl (by kernel_rfl) (by kernel_rfl) (by kernel_rfl) (fun _ _ _ h => h) (by kernel_rfl) (Or.inl ⟨by rfl, ?hy79⟩) hS0 ?rest79
             case hy79 => (intro W hSw; go_simp; try (with_reducible rfl))
             try simp only [Act.put, List.setIfInBounds_toArray, List.set_cons_zero, List.set_cons_succ]
             refine' wpAnyD_take (i := 16) (oi := {dst := some 101, op := .move (.tmp 16), type := 3, pos := "law.go:346", after := #[{on := 9, ground := .guard}], guard := some (9, true)}) (v := _) rfl (by kernel_rfl) (by kernel_rfl) (by kernel_rfl) (fun _ _ _ h => h) (by kernel_rfl) (Or.inl ⟨by rfl, ?hy80⟩) hS0 ?rest80
             case hy80 => (intro W hSw; go_simp; try (with_reducible rfl))
             try simp only [Act.put, List.setIfInBounds_toArray, List.set_cons_zero, List.set_cons_succ]
             refine' wpAnyD_take (i := 17) (oi := {dst := some 102, op := .indexAddr 49 (.tmp 100) (.tmp 101), type := 0, pos := "law.go:346", after := #[{on := 15, ground := .data}, {on := 16, ground := .data}, {on := 9, ground := .guard}], guard := some (9, true)}) (v := _) rfl (by kernel_rfl) (by kernel_rfl) (by kernel_rfl) (fun _ _ _ h => h) (by kernel_rfl) (Or.inl ⟨by rfl, ?hy81⟩) hS0 ?rest81
             case hy81 => (intro W hSw; obtain ⟨⟨t0, t1, t2, t3⟩, ⟨x0, x1, x2, x3⟩, hl⟩ := hSw; go_simp; try (with_reducible rfl))
             try simp only [Act.put, List.setIfInBounds_toArray, List.set_cons_zero, List.set_cons_succ]
             refine' wpAnyD_take (i := 18) (oi := {dst := some 103, op := .load 52 (.tmp 102), type := 52, pos := "law.go:346", after := #[{on := 17, ground := .data}, {on := 9, ground := .guard}], guard := some (9, true)}) (v := _) rfl (by kernel_rfl) (by kernel_rfl) (by kernel_rfl) (fun _ _ _ h => h) (by kernel_rfl) (Or.inl ⟨by rfl, ?hy82⟩) hS0 ?rest82
             case hy82 => (intro W hSw; obtain ⟨⟨t0, t1, t2, t3⟩, ⟨x0, x1, x2, x3⟩, hl⟩ := hSw; go_simp; try (with_reducible rfl))
             try simp only [Act.put, List.setIfInBounds_toArray, List.set_cons_zero, List.set_cons_succ]
             refine wpAnyD_one (i := 19) (o := {dst := some 104, op := .call {callee := .value (.func 17), args := #[.tmp 95, .tmp 99, .tmp 103], argTypes := #[26, 52, 52]}, type := 4, pos := "law.go:346", after := #[{on := 10, ground := .data}, {on := 14, ground := .data}, {on := 18, ground := .data}, {on := 9, ground := .chain}, {on := 9, ground := .guard}], guard := some (9, true)}) (by kernel_rfl) rfl (fun K hK => ?_)
             rw [if_pos (by kernel_rfl)]
             go_simp
             refine (hcd _ hB0).mono ?_
             rintro r w3 ⟨rfl, hb3⟩
             have B3 : Below wr.heap.size wr w3 := hB0.trans (hb3.mono hB0.size)
             go_wp2_with fail
             refine hK.out _ _ (fun hD => (HSE.out _ B3)) ?_
             clear hK K
             try simp only [Act.put, List.setIfInBounds_toArray, List.set_cons_zero, List.set_cons_succ]
             refine' wpAnyD_take (i := 20) (oi := {dst := some 105, op := .pick (.tmp 94) (.tmp 104) (.const (.bool false)), type := 4, pos := "law.go:346", after := #[{on := 9, ground := .data}, {on := 19, ground := .data}], guard := none}) (v := _) rfl (by kernel_rfl) (by kernel_rfl) (by kernel_rfl) (fun _ _ _ h => h) (by kernel_rfl) (Or.inl ⟨by rfl, ?hy84⟩) (HSE.out _ B3) ?rest84
             case hy84 => (intro W hSw; go_simp; try (with_reducible rfl))
             try simp only [Act.put, List.setIfInBounds_toArray, List.set_cons_zero, List.set_cons_succ]
             refine wpAnyD_done (by kernel_rfl) ?_ _
             go_wp2_with fail
             go_meet
             exact ⟨by rw [HCC.out], B3⟩
           case rest =>
            obtain ⟨rfl, HY⟩ := hcut
            have HMC : Hid (wc.ownsRow B 52 4 (.slice (some ⟨gm, 0, none⟩) (l4.length + 1) cap) (l4.length + 1) (fl EF (mor n R s l4 j)) ∧ Below w8.heap.size w8 wc) := ⟨owns_below HM.out.1 HY.out, HM.out.2.trans (HY.out.mono HM.out.2.size)⟩
            have HSC := hid (HSE.out _ HY.out)
            clear HM HY HSE hcd
            cases hcb : (decide (u ≠ s) && cldB n R s u) with
            | true =>
             have HN : Hid (((((wc.setCell ⟨gm, j * 4, none⟩ (.int .i64 s.1)).setCell ⟨gm, j * 4 + 1, none⟩ (.int .u64 s.2.1.1)).setCell ⟨gm, j * 4 + 2, none⟩ (.int .u64 s.2.1.2.1)).setCell ⟨gm, j * 4 + 3, none⟩ (.int .u64 s.2.1.2.2)).ownsRow B 52 4 (.slice (some ⟨gm, 0, none⟩) (l4.length + 1) cap) (l4.length + 1) (fl EF (mor n R s l4 (j + 1))) ∧ Below w8.heap.size w8 ((((wc.setCell ⟨gm, j * 4, none⟩ (.int .i64 s.1)).setCell ⟨gm, j * 4 + 1, none⟩ (.int .u64 s.2.1.1)).setCell ⟨gm, j * 4 + 2, none⟩ (.int .u64 s.2.1.2.1)).setCell ⟨gm, j * 4 + 3, none⟩ (.int .u64 s.2.1.2.2))) := by
              obtain ⟨h1, h2⟩ := owns_th (i := j) s HMC.out.1
              rw [HYH.out hcb] at h1
              exact ⟨h1, HMC.out.2.trans (h2.below HMC.out.2.size (fun k e => by rw [e]; exact Nat.le_trans HBB.out (owns_free HMC.out.1).2.2))⟩
             obtain ⟨⟨t0, t1, t2, t3⟩, -, hl⟩ := HSC.out
             obtain ⟨f1, f2, -⟩ := owns_free HMC.out.1
             obtain ⟨⟨y0, x0⟩, ⟨y1, x1⟩, ⟨y2, x2⟩, y3, x3⟩ := owns_four HMC.out.1 (mor_len hj) (show j < l4.length + 1 by omega)
             have hjz1 : (j : Int) < (l4.length : Int) + 1 := by omega
             clear hcb HMC HSC
             go_wp2
             go_roundw
             case rel => exact ⟨j + 1, by omega, by first | rfl | go_num, HN.out⟩
             case measure => simp [RowKit.intOf]; omega
            | false =>
             have HN : Hid (wc.ownsRow B 52 4 (.slice (some ⟨gm, 0, none⟩) (l4.length + 1) cap) (l4.length + 1) (fl EF (mor n R s l4 (j + 1))) ∧ Below w8.heap.size w8 wc) := by
              rw [HNH.out hcb]
              exact HMC.out
             clear hcb HMC HSC
             go_wp2
             go_roundw
             case rel => exact ⟨j + 1, by omega, by first | rfl | go_num, HN.out⟩
             case measure => simp [RowKit.intOf]; omega
          ·have hjlz : ¬ (j : Int) < (l4.length : Int) := by omega
           have hje : j = l4.length := by omega
           subst hje
           have hlz : Df.Lz EF wr.heap.size wr (.slice (some ⟨gm, 0, none⟩) (l4.length + 1) cap) (mor n R s l4 l4.length) := Or.inl ⟨owns_lsl HM.out.1 (mor_len (Nat.le_refl _)), fun k hk => (HM.out.1.lt k hk).2⟩
           have hfr := HF.out _ _ _ _ (HB8.out.trans (HM.out.2.mono HB8.out.size)) hlz (by rw [mor_len (Nat.le_refl _)]; omega)
           rw [HFM.out s _ (fun u hu => mor_in HSI.out hu) mor_self (fun u hu => mor_or hu)] at hfr
           clear hlz
           go_wp2_with fail
           refine hfr.mono ?_
           clear hfr
           rintro r w9 ⟨p9, c9, rfl, H9⟩
           have HB9 : Hid (Below w8.heap.size w8 w9) := HM.out.2.trans (H9.out.2.mono HM.out.2.size)
           go_wp2_with fail
           refine (sameT_eq w9 H9.out.1 (HS6.out _ HB9.out) (by have := HFL.out; omega)).mono ?_
           rintro r w10 ⟨rfl, g10⟩
           have HB10 : Hid (Below w8.heap.size w8 w10) := HB9.out.trans (g10.below.mono HB9.out.size)
           clear g10 HB9 H9 HM
           go_wp2
           go_roundw
           case rel => exact ⟨i + 1, by omega, by first | rfl | go_num, HB10.out⟩
           case measure => simp [RowKit.intOf]; omega
       ·have hilz : ¬ (i : Int) < (l4.length : Int) := by omega
        go_wp2
        go_ret
        exact ⟨rfl, HBk.out.trans ((HB8.out.trans (HX.out.mono HB8.out.size)).mono HBk.out.size)⟩
end Go.Proofs.YtjppkehnjnmbnaaGreat.Lf

namespace Go.Proofs.YtjppkehnjnmbnaaGreat
open Go.ChangeShapes Go.WideShapes Go.ChangeAt Go.RowKit Go.Joins
def laidL : List (String × DataW Unit) := []
theorem own : ownKnob Tryz.prog.godebug = none := by kernel_rfl
theorem laidOut : laidOutB Tryz.prog = true := by kernel_rfl
theorem witness {H : Type} {enc : TypeId × Value → H} {os : Os} {f : FuncId} {fn : Func} {s : OpenSpec} {conds : List PathCond} {apart : Bool} (args : Array Value)
    (hsh : ((World.laidAll Tryz.prog os laidL).forCall (fun _ _ => 0) ⟨#[], args, []⟩).Shaped Tryz.prog)
    (hok : Input.okWideB Tryz.prog ((World.laidAll Tryz.prog os laidL).forCall (fun _ _ => 0) ⟨#[], args, []⟩) f ⟨#[], args, []⟩ = true)
    (hrow : s.preRow enc Tryz.prog fn conds apart laidL ((World.laidAll Tryz.prog os laidL).forCall (fun _ _ => 0) ⟨#[], args, []⟩).memory args) :
    ∃ (w : World) (tape : Tape) (i : Input), w.os = os ∧ (w.forCall tape i).Shaped Tryz.prog ∧ i.vars = [] ∧ Input.okWide Tryz.prog (w.forCall tape i) .any w.heap.size f i ∧
     s.preRow enc Tryz.prog fn conds apart laidL (w.forCall tape i).memory i.args ∧ ({} : Assume).holds Tryz.prog (lone (Frame.enter Tryz.prog f i.args .normal) [] (w.forCall tape i)) :=
 ⟨World.laidAll Tryz.prog os laidL, fun _ _ => 0, ⟨#[], args, []⟩, World.laidAll_os _ _ _, hsh, (Input.okWide_of_okWideB (base := 0) hok).1, (Input.okWide_of_okWideB hok).2, hrow, by
  simp only [Assume.holds]
  exact ⟨by simp, by simp, by simp, by simp, by simp⟩⟩
theorem laid_met (os : Os) (args : Array Value) : laidMetH Tryz.prog laidL ((World.laidAll Tryz.prog os laidL).forCall (fun _ _ => 0) ⟨#[], args, []⟩).memory := by
 rw [MakeChecks.laidMetH_plain _ _ _ (by kernel_rfl)]
 exact laidMet_laidAll _ (by kernel_rfl) (by kernel_rfl)
theorem i64_bd {x : Int} (h : (Lit.int .i64 x).wf = true) : -9223372036854775808 ≤ x ∧ x ≤ 9223372036854775807 := by
 simpa [Lit.wf, IntKind.min, IntKind.max, IntKind.signed, IntKind.bits] using h
theorem has_lt {P : Program} {W : World} {r : Reach} {b0 : Nat} {t e : TypeId} {a : Addr} {len cap : Nat} (ht : P.underlying t = some (.slice e)) (hv : Value.okWide P W r b0 t (.slice (some a) len cap)) : a.spot = none ∧ a.block < W.heap.size := by
 simp only [Value.okWide, ht, Cell.okWide, Cell.ok] at hv
 obtain ⟨_, _, _, hs, row, cells, hsh, _⟩ := hv
 refine ⟨hs, ?_⟩
 unfold World.shape? at hsh
 split at hsh
 ·rename_i h
  exact (Array.getElem?_eq_some_iff.1 h).1
 ·cases hsh
theorem open_list {P : Program} {α : Type} [Inhabited α] (E : El α) {sT eT : TypeId} (hu : P.underlying sT = some (.slice eT)) (hc : P.cellsOf eT = E.k) (hk : 0 < E.k)
    {H : Type} {enc : TypeId × Value → H} {W : World} {r : Reach} {b0 base : Nat} {sp : Nat → Bool} {held : Bool} {v : Value} {d : DataW H} {p : List MemPlace}
    (hel : ∀ fuel cs y, cs.length = E.k → DataW.trod enc P W base sp held fuel eT cs = some y → ∃ x, cs = E.enc x)
    (hv : Value.okWide P W r b0 sT v) (h : DataW.Trod enc P W base sp held sT v d p) :
    (∀ x ∈ p, x.block < W.heap.size) ∧ ∃ ts : List α, Ls E W v ts ∧ ((d = .nil ∧ ts = []) ∨ ∃ elems spare, d = .slice elems spare ∧ elems.length = ts.length) := by
 obtain ⟨a0, len, cap, rfl⟩ := okWide_slice hu hv
 obtain ⟨fuel, hf⟩ := h
 refine ⟨DataW.trod_lt fuel _ _ _ hf, ?_⟩
 rcases Deep.open_slice hu hf with ⟨hcs, hx⟩ | ⟨a, len', cap', m, n, D, Pl, hcs, hb, hl, hm, hmm, hx, hall⟩
 ·simp [Value.cells] at hcs
  obtain ⟨rfl, rfl, rfl⟩ := hcs
  exact ⟨[], Or.inl ⟨rfl, rfl⟩, Or.inl ⟨congrArg Prod.fst hx, rfl⟩⟩
 ·simp [Value.cells] at hcs
  obtain ⟨rfl, rfl, rfl⟩ := hcs
  obtain ⟨hsp, hlt⟩ := has_lt hu hv
  obtain ⟨b, off, spot⟩ := a
  simp only at hsp hlt
  subst hsp
  have hlm : len ≤ m := by rw [hmm]; split <;> omega
  obtain ⟨V, hV⟩ := Deep.choose_lt (α := α) (p := fun i t => ∀ j u, j < E.k → (E.enc t)[j]? = some u → W.cell? ⟨b, off + i * E.k + j, none⟩ = some u) (n := len) (fun i hi => by
   obtain ⟨cs', h1, h2⟩ := hall i (by omega)
   rw [hc] at h1
   obtain ⟨_, hl3, hc'⟩ := World.cells?_some h1
   obtain ⟨x, rfl⟩ := hel _ _ _ hl3 h2
   refine ⟨x, fun j u hj hu' => ?_⟩
   have g0 := hc' j hj
   rw [Deep.add_add, addA] at g0
   rw [← Nat.add_assoc] at g0
   rw [g0]
   exact hu')
  refine ⟨(List.range len).map V, Or.inr ⟨b, off, cap, by simp, hlt, fun j u hj => ?_⟩, Or.inr ⟨_, _, congrArg Prod.fst hx, by simp⟩⟩
  have hjl : j < len * E.k := by
   have := (List.getElem?_eq_some_iff.1 hj).1
   rw [fl_length] at this
   simpa using this
  have hi : j / E.k < len := (Nat.div_lt_iff_lt_mul hk).2 hjl
  have hg := fl_get E ((List.range len).map V) (j / E.k) (j % E.k) (V (j / E.k)) (by simp [hi]) (Nat.mod_lt _ hk)
  rw [Nat.div_add_mod', hj] at hg
  have := hV (j / E.k) hi (j % E.k) u (Nat.mod_lt _ hk) hg.symm
  rwa [Nat.add_assoc, Nat.div_add_mod'] at this
theorem has_cap {P : Program} {W : World} {r : Reach} {b0 : Nat} {t e : TypeId} {v : Value} (ht : P.underlying t = some (.slice e)) (hv : Value.okWide P W r b0 t v) : ∀ p n c, v = .slice p n c → n ≤ c := by
 intro p n c h
 subst h
 cases p with
 | none =>
  cases n with
  | zero => exact Nat.zero_le _
  | succ n => simp [Value.okWide, ht, Cell.okWide, Cell.ok] at hv
 | some a =>
  simp only [Value.okWide, ht, Cell.okWide, Cell.ok] at hv
  obtain ⟨h1, h2, h3, _⟩ := hv
  omega
theorem u64_bd {x : Int} (h : (Lit.int .u64 x).wf = true) : 0 ≤ x ∧ x ≤ 18446744073709551615 := by
 simpa [Lit.wf, IntKind.min, IntKind.max, IntKind.signed, IntKind.bits] using h
end Go.Proofs.YtjppkehnjnmbnaaGreat
namespace Go.Proofs.YtjppkehnjnmbnaaGreat.Df
open Go.ChangeShapes Go.WideShapes Go.ChangeAt Go.RowKit Go.Joins
theorem cell_in {W : World} {a : Addr} {u : Value} (h : W.cell? a = some u) : a.spot = none ∧ a.block < W.heap.size := by
 unfold World.cell? at h
 split at h
 ·rename_i hh
  refine ⟨?_, (Array.getElem?_eq_some_iff.1 hh).1⟩
  split at h
  ·cases h
  ·rename_i hs
   simpa using hs
 ·cases h
theorem weights_all {H : Type} {P : Program} {e : TypeId} {l : List (DataW H)} {d : DataW H} (hd : d ∈ l) {n : Nat} (hn : n ∈ d.weights P e) : n ∈ DataW.weightsAll P e l := by
 induction l with
 | nil => cases hd
 | cons x l ih =>
  simp only [DataW.weightsAll, List.mem_append]
  rcases List.mem_cons.1 hd with rfl | hd
  ·exact Or.inl hn
  ·exact Or.inr (ih hd)
def Wgt {H : Type} (P : Program) (t : TypeId) (d : DataW H) : Prop := ∀ n ∈ d.weights P t, n ≤ reachBytes
theorem trod_list {P : Program} {α : Type} [Inhabited α] (E : El α) (Pr : α → Prop) {sT eT : TypeId} (hu : P.underlying sT = some (.slice eT)) (hc : P.cellsOf eT = E.k) (hk : 0 < E.k)
    {H : Type} {enc : TypeId × Value → H} {W : World} {base : Nat} {sp : Nat → Bool} {held : Bool}
    (hel : ∀ fuel cs y, cs.length = E.k → DataW.trod enc P W base sp held fuel eT cs = some y → Wgt P eT y.1 → ∃ x, cs = E.enc x ∧ Pr x)
    (fuel : Nat) (cs : List Value) (y : DataW H × List MemPlace) (h : DataW.trod enc P W base sp held fuel sT cs = some y) (hw : Wgt P sT y.1) :
    ∃ (q : Option Addr) (c : Nat) (ts : List α), cs = [.slice q ts.length c] ∧ Lz E W.heap.size W (.slice q ts.length c) ts ∧ (∀ x ∈ ts, Pr x) ∧ ts.length * P.bytesOf eT ≤ reachBytes ∧ ts.length ≤ c := by
 rcases Deep.open_slice hu h with ⟨hcs, hx⟩ | ⟨a, len, cap, m, n, D, Pl, hcs, hb, hl, hm, hmm, hx, hall⟩
 ·exact ⟨none, 0, [], hcs, Lz.nil _ _ _, fun _ h => (by cases h), by simp, Nat.le_refl _⟩
 ·have hlm : len ≤ m := by rw [hmm]; split <;> omega
  have hws : Wgt P sT (.slice ((List.range len).map D) ((List.range (m - len)).map fun j => D (len + j))) := by rw [hx] at hw; exact hw
  have hsz : len * P.bytesOf eT ≤ reachBytes := by
   have h1 := hws (((List.range len).map D).length * P.bytesOf eT + ((List.range (m - len)).map fun j => D (len + j)).length * P.bytesOf eT) (by simp [DataW.weights, hu, Nat.add_mul])
   simp only [List.length_map, List.length_range] at h1
   omega
  by_cases h0 : len = 0
  ·subst h0
   exact ⟨some a, cap, [], hcs, Or.inr ⟨rfl, _, _, rfl⟩, fun _ h => (by cases h), by simp, Nat.zero_le _⟩
  ·obtain ⟨cs0, g1, _⟩ := hall 0 (by omega)
   rw [hc] at g1
   obtain ⟨_, hl0, hc0⟩ := World.cells?_some g1
   have g0 := hc0 0 hk
   rw [show (a.add (0 * E.k)).add 0 = a by simp [Addr.add]] at g0
   obtain ⟨u0, hu0⟩ : ∃ u, cs0[0]? = some u := ⟨cs0[0]'(by omega), by simp⟩
   obtain ⟨hsp, hlt⟩ := cell_in (g0.trans hu0)
   clear g0 hc0 hl0 g1 hu0
   obtain ⟨b, off, spot⟩ := a
   simp only at hsp hlt
   subst hsp
   obtain ⟨V, hV⟩ := Deep.choose_lt (α := α) (p := fun i t => (∀ j u, j < E.k → (E.enc t)[j]? = some u → W.cell? ⟨b, off + i * E.k + j, none⟩ = some u) ∧ Pr t) (n := len) (fun i hi => by
    obtain ⟨cs', h1, h2⟩ := hall i (by omega)
    rw [hc] at h1
    obtain ⟨_, hl3, hc'⟩ := World.cells?_some h1
    have hwi : Wgt P eT (D i) := fun n hn => hws n (by
     simp only [DataW.weights, hu, List.mem_cons, List.mem_append]
     exact Or.inr (Or.inl (weights_all (List.mem_map.2 ⟨i, List.mem_range.2 hi, rfl⟩) hn)))
    obtain ⟨x, rfl, hPr⟩ := hel _ _ _ hl3 h2 hwi
    refine ⟨x, fun j u hj hu' => ?_, hPr⟩
    have g0 := hc' j hj
    rw [Deep.add_add, addA] at g0
    rw [← Nat.add_assoc] at g0
    rw [g0]
    exact hu')
   refine ⟨some ⟨b, off, none⟩, cap, (List.range len).map V, by simpa using hcs, Or.inl ⟨Or.inr ⟨b, off, cap, rfl, hlt, fun j u hj => ?_⟩, fun k hk => ?_⟩, fun x hx => ?_, by simpa using hsz, by simpa using hl⟩
   ·have hjl : j < len * E.k := by
      have := (List.getElem?_eq_some_iff.1 hj).1
      rw [fl_length] at this
      simpa using this
    have hi : j / E.k < len := (Nat.div_lt_iff_lt_mul hk).2 hjl
    have hg := fl_get E ((List.range len).map V) (j / E.k) (j % E.k) (V (j / E.k)) (by simp [hi]) (Nat.mod_lt _ hk)
    rw [Nat.div_add_mod', hj] at hg
    have := (hV (j / E.k) hi).1 (j % E.k) u (Nat.mod_lt _ hk) hg.symm
    rwa [Nat.add_assoc, Nat.div_add_mod'] at this
   ·simp [Value.ownBlock] at hk
    omega
   ·obtain ⟨i, hi, rfl⟩ := List.mem_map.1 hx
    exact (hV i (List.mem_range.1 hi)).2
theorem c1i : Tryz.prog.cellsOf 3 = 1 := by kernel_rfl
theorem c1b : Tryz.prog.cellsOf 4 = 1 := by kernel_rfl
theorem c1u : Tryz.prog.cellsOf 37 = 1 := by kernel_rfl
theorem c3p : Tryz.prog.cellsOf 39 = 3 := by kernel_rfl
theorem c1o : Tryz.prog.cellsOf 87 = 1 := by kernel_rfl
theorem c1c : Tryz.prog.cellsOf 85 = 1 := by kernel_rfl
instance : Inhabited Opd := ⟨⟨0, 0⟩⟩
instance : Inhabited Con := ⟨⟨0, 0, (0, 0, 0)⟩⟩
instance : Inhabited Edg := ⟨⟨0, 0, 0, 0, false⟩⟩
instance : Inhabited NV := ⟨⟨⟨0, 0, 0, [], (0, 0, 0), 0, [], false⟩, none, 0, 0, none, 0, 0⟩⟩
section
variable {H : Type} {enc : TypeId × Value → H} {W : World} {base : Nat} {sp : Nat → Bool} {held : Bool}
theorem trod_i {fuel : Nat} {c : Value} {y : DataW H × List MemPlace} (h : DataW.trod enc Tryz.prog W base sp held fuel 3 [c] = some y) : ∃ n : Int, c = .int .i64 n ∧ I64 n := by
 obtain ⟨u, e, _, w⟩ := DataW.trod_int Tryz.underlying3 h
 simp at e
 exact ⟨u, e, i64_bd w⟩
theorem trod_u {fuel : Nat} {c : Value} {y : DataW H × List MemPlace} (h : DataW.trod enc Tryz.prog W base sp held fuel 37 [c] = some y) : ∃ n : Nat, c = .int .u64 (n : Nat) ∧ U64 n := by
 obtain ⟨u, e, _, w⟩ := DataW.trod_int Tryz.underlying37 h
 have b := u64_bd w
 simp at e
 exact ⟨u.toNat, by rw [e, Int.toNat_of_nonneg b.1], by unfold U64; omega⟩
set_option maxRecDepth 100000 in
theorem trod_pth (fuel : Nat) (c0 c1 c2 : Value) (y : DataW H × List MemPlace) (h : DataW.trod enc Tryz.prog W base sp held fuel 39 [c0, c1, c2] = some y) : ∃ p : Pth, c0 = .int .u64 (p.1 : Nat) ∧ c1 = .int .u64 (p.2.1 : Nat) ∧ c2 = .int .u64 (p.2.2 : Nat) ∧ PthT p := by
 obtain ⟨xs, k, _, _, _, hxl, hff⟩ := DataW.trod_struct Tryz.underlying39 h
 match xs, hxl with
 | [y0, y1, y2], _ =>
  have k0 : DataW.trod enc Tryz.prog W base sp held k 37 (([c0, c1, c2].drop 0).take (Tryz.prog.cellsOf 37)) = some y0 := hff 0 _ rfl
  have k1 : DataW.trod enc Tryz.prog W base sp held k 37 (([c0, c1, c2].drop 1).take (Tryz.prog.cellsOf 37)) = some y1 := hff 1 _ rfl
  have k2 : DataW.trod enc Tryz.prog W base sp held k 37 (([c0, c1, c2].drop 2).take (Tryz.prog.cellsOf 37)) = some y2 := hff 2 _ rfl
  rw [c1u] at k0 k1 k2
  obtain ⟨a, ea, ta⟩ := trod_u k0
  obtain ⟨b, eb, tb⟩ := trod_u k1
  obtain ⟨c, ec, tc⟩ := trod_u k2
  exact ⟨(a, b, c), ea, eb, ec, ta, tb, tc⟩
set_option maxRecDepth 100000 in
theorem trod_opd (fuel : Nat) (cs : List Value) (y : DataW H × List MemPlace) (hl : cs.length = 2) (h : DataW.trod enc Tryz.prog W base sp held fuel 138 cs = some y) : ∃ o : Opd, cs = EO.enc o ∧ OpdT o := by
 obtain ⟨xs, k, _, _, _, hxl, hff⟩ := DataW.trod_struct Tryz.underlying138 h
 match cs, hl, xs, hxl with
 | [c0, c1], _, [y0, y1], _ =>
  have k0 : DataW.trod enc Tryz.prog W base sp held k 3 (([c0, c1].drop 0).take (Tryz.prog.cellsOf 3)) = some y0 := hff 0 _ rfl
  have k1 : DataW.trod enc Tryz.prog W base sp held k 37 (([c0, c1].drop 1).take (Tryz.prog.cellsOf 37)) = some y1 := hff 1 _ rfl
  rw [c1i] at k0
  rw [c1u] at k1
  obtain ⟨a, rfl, ta⟩ := trod_i k0
  obtain ⟨b, rfl, tb⟩ := trod_u k1
  exact ⟨⟨a, b⟩, rfl, ta, tb⟩
set_option maxRecDepth 100000 in
theorem trod_con (fuel : Nat) (cs : List Value) (y : DataW H × List MemPlace) (hl : cs.length = 5) (h : DataW.trod enc Tryz.prog W base sp held fuel 92 cs = some y) : ∃ o : Con, cs = EC.enc o ∧ ConT o := by
 obtain ⟨xs, k, _, _, _, hxl, hff⟩ := DataW.trod_struct Tryz.underlying92 h
 match cs, hl, xs, hxl with
 | [c0, c1, c2, c3, c4], _, [y0, y1, y2], _ =>
  have k0 : DataW.trod enc Tryz.prog W base sp held k 3 (([c0, c1, c2, c3, c4].drop 0).take (Tryz.prog.cellsOf 3)) = some y0 := hff 0 _ rfl
  have k1 : DataW.trod enc Tryz.prog W base sp held k 3 (([c0, c1, c2, c3, c4].drop 1).take (Tryz.prog.cellsOf 3)) = some y1 := hff 1 _ rfl
  have k2 : DataW.trod enc Tryz.prog W base sp held k 39 (([c0, c1, c2, c3, c4].drop 2).take (Tryz.prog.cellsOf 39)) = some y2 := hff 2 _ rfl
  rw [c1i] at k0 k1
  rw [c3p] at k2
  obtain ⟨a, rfl, ta⟩ := trod_i k0
  obtain ⟨b, rfl, tb⟩ := trod_i k1
  obtain ⟨p, rfl, rfl, rfl, tp⟩ := trod_pth _ _ _ _ _ k2
  exact ⟨⟨a, b, p⟩, rfl, ta, tb, tp⟩
set_option maxRecDepth 100000 in
theorem trod_edg (fuel : Nat) (cs : List Value) (y : DataW H × List MemPlace) (hl : cs.length = 5) (h : DataW.trod enc Tryz.prog W base sp held fuel 94 cs = some y) : ∃ o : Edg, cs = ED.enc o ∧ EdgT o := by
 obtain ⟨xs, k, _, _, _, hxl, hff⟩ := DataW.trod_struct Tryz.underlying94 h
 match cs, hl, xs, hxl with
 | [c0, c1, c2, c3, c4], _, [y0, y1, y2, y3, y4], _ =>
  have k0 : DataW.trod enc Tryz.prog W base sp held k 3 (([c0, c1, c2, c3, c4].drop 0).take (Tryz.prog.cellsOf 3)) = some y0 := hff 0 _ rfl
  have k1 : DataW.trod enc Tryz.prog W base sp held k 3 (([c0, c1, c2, c3, c4].drop 1).take (Tryz.prog.cellsOf 3)) = some y1 := hff 1 _ rfl
  have k2 : DataW.trod enc Tryz.prog W base sp held k 3 (([c0, c1, c2, c3, c4].drop 2).take (Tryz.prog.cellsOf 3)) = some y2 := hff 2 _ rfl
  have k3 : DataW.trod enc Tryz.prog W base sp held k 3 (([c0, c1, c2, c3, c4].drop 3).take (Tryz.prog.cellsOf 3)) = some y3 := hff 3 _ rfl
  have k4 : DataW.trod enc Tryz.prog W base sp held k 4 (([c0, c1, c2, c3, c4].drop 4).take (Tryz.prog.cellsOf 4)) = some y4 := hff 4 _ rfl
  rw [c1i] at k0 k1 k2 k3
  rw [c1b] at k4
  obtain ⟨a, rfl, ta⟩ := trod_i k0
  obtain ⟨b, rfl, tb⟩ := trod_i k1
  obtain ⟨c, rfl, tc⟩ := trod_i k2
  obtain ⟨d, rfl, td⟩ := trod_i k3
  obtain ⟨e, he, _⟩ := DataW.trod_bool Tryz.underlying4 k4
  simp at he
  subst he
  exact ⟨⟨a, b, c, d, e⟩, rfl, ta, tb, tc, td⟩
end
end Go.Proofs.YtjppkehnjnmbnaaGreat.Df
namespace Go.Proofs.YtjppkehnjnmbnaaGreat.Df
open Go.ChangeShapes Go.WideShapes Go.ChangeAt Go.RowKit Go.Joins
section
variable {H : Type} {enc : TypeId × Value → H} {W : World} {base : Nat} {sp : Nat → Bool} {held : Bool}
def NodK2 (W : World) (x : NV) : Prop := NodT x.n ∧ NR W.heap.size W x ∧ x.n.code.length * 16 ≤ 140737488351232 ∧ x.n.conns.length * 40 ≤ 140737488351232 ∧ x.n.conns.length ≤ x.dc
def Sz (xs : List NV) (es : List Edg) : Prop := xs.length * 112 ≤ 140737488351232 ∧ es.length * 40 ≤ 140737488351232 ∧ ∀ x ∈ xs, x.n.code.length * 16 ≤ 140737488351232 ∧ x.n.conns.length * 40 ≤ 140737488351232
set_option maxRecDepth 100000 in
theorem trod_nod2 (fuel : Nat) (cs : List Value) (y : DataW H × List MemPlace) (hl : cs.length = 10) (h : DataW.trod enc Tryz.prog W base sp held fuel 89 cs = some y) (hw : Wgt Tryz.prog 89 y.1) : ∃ x : NV, cs = EV.enc x ∧ NodK2 W x := by
 obtain ⟨xs, k, _, hxy, _, hxl, hff⟩ := DataW.trod_struct Tryz.underlying89 h
 match cs, hl, xs, hxl with
 | [c0, c1, c2, c3, c4, c5, c6, c7, c8, c9], _, [y0, y1, y2, y3, y4, y5, y6, y7], _ =>
  have hwe : ∀ n ∈ DataW.weightsEach Tryz.prog [3, 3, 3, 87, 39, 37, 85, 4] [y0.1, y1.1, y2.1, y3.1, y4.1, y5.1, y6.1, y7.1], n ≤ reachBytes := fun n hn => hw n (by
   rw [hxy]
   simp only [DataW.weights, Tryz.underlying89]
   exact hn)
  have k0 : DataW.trod enc Tryz.prog W base sp held k 3 (([c0, c1, c2, c3, c4, c5, c6, c7, c8, c9].drop 0).take (Tryz.prog.cellsOf 3)) = some y0 := hff 0 _ rfl
  have k1 : DataW.trod enc Tryz.prog W base sp held k 3 (([c0, c1, c2, c3, c4, c5, c6, c7, c8, c9].drop 1).take (Tryz.prog.cellsOf 3)) = some y1 := hff 1 _ rfl
  have k2 : DataW.trod enc Tryz.prog W base sp held k 3 (([c0, c1, c2, c3, c4, c5, c6, c7, c8, c9].drop 2).take (Tryz.prog.cellsOf 3)) = some y2 := hff 2 _ rfl
  have k3 : DataW.trod enc Tryz.prog W base sp held k 87 (([c0, c1, c2, c3, c4, c5, c6, c7, c8, c9].drop 3).take (Tryz.prog.cellsOf 87)) = some y3 := hff 3 _ rfl
  have k4 : DataW.trod enc Tryz.prog W base sp held k 39 (([c0, c1, c2, c3, c4, c5, c6, c7, c8, c9].drop 4).take (Tryz.prog.cellsOf 39)) = some y4 := hff 4 _ rfl
  have k5 : DataW.trod enc Tryz.prog W base sp held k 37 (([c0, c1, c2, c3, c4, c5, c6, c7, c8, c9].drop 7).take (Tryz.prog.cellsOf 37)) = some y5 := hff 5 _ rfl
  have k6 : DataW.trod enc Tryz.prog W base sp held k 85 (([c0, c1, c2, c3, c4, c5, c6, c7, c8, c9].drop 8).take (Tryz.prog.cellsOf 85)) = some y6 := hff 6 _ rfl
  have k7 : DataW.trod enc Tryz.prog W base sp held k 4 (([c0, c1, c2, c3, c4, c5, c6, c7, c8, c9].drop 9).take (Tryz.prog.cellsOf 4)) = some y7 := hff 7 _ rfl
  rw [c1i] at k0 k1 k2
  rw [c1o] at k3
  rw [c3p] at k4
  rw [c1u] at k5
  rw [c1c] at k6
  rw [c1b] at k7
  obtain ⟨a, rfl, ta⟩ := trod_i k0
  obtain ⟨b, rfl, tb⟩ := trod_i k1
  obtain ⟨c, rfl, tc⟩ := trod_i k2
  obtain ⟨q3, d3, l3, e3, z3, p3, s3, _⟩ := trod_list EO OpdT Tryz.underlying87 (by kernel_rfl) (by decide) (fun fuel cs y hl h _ => trod_opd fuel cs y hl h) _ _ _ k3 (fun n hn => hwe n (DataW.weights_mem_each (j := 3) rfl rfl n hn))
  obtain ⟨p, rfl, rfl, rfl, tp⟩ := trod_pth _ _ _ _ _ k4
  obtain ⟨u, rfl, tu⟩ := trod_u k5
  obtain ⟨q6, d6, l6, e6, z6, p6, s6, t6⟩ := trod_list EC ConT Tryz.underlying85 (by kernel_rfl) (by decide) (fun fuel cs y hl h _ => trod_con fuel cs y hl h) _ _ _ k6 (fun n hn => hwe n (DataW.weights_mem_each (j := 6) rfl rfl n hn))
  obtain ⟨e, he, _⟩ := DataW.trod_bool Tryz.underlying4 k7
  simp at he e3 e6
  subst he e3 e6
  rw [show Tryz.prog.bytesOf 138 = 16 by kernel_rfl] at s3
  rw [show Tryz.prog.bytesOf 92 = 40 by kernel_rfl] at s6
  have hrb : reachBytes ≤ 140737488351232 := by decide
  exact ⟨⟨⟨a, b, c, l3, p, u, l6, e⟩, q3, l3.length, d3, q6, l6.length, d6⟩, rfl, ⟨ta, tb, tc, p3, tp, tu, p6⟩, ⟨z3, z6⟩, by simp only; omega, by simp only; omega, t6⟩
end
set_option maxRecDepth 100000 in
theorem open_graph2 {H : Type} {enc : TypeId × Value → H} {W : World} {r : Reach} {b0 base : Nat} {sp : Nat → Bool} {held : Bool} {v : Value} {d : DataW H} {p : List MemPlace} (hv : Value.okWide Tryz.prog W r b0 25 v) (h : DataW.Trod enc Tryz.prog W base sp held 25 v d p) (hw : Wgt Tryz.prog 25 d) :
    (∀ x ∈ p, x.block < W.heap.size) ∧ ∃ (a : Int) (nv ev : Value) (xs : List NV) (es : List Edg), v = .agg (gvc a nv ev) ∧ GphT (gof a xs es) ∧ GR W.heap.size W nv ev xs es ∧ Sz xs es ∧ Gcap ev xs := by
 have hlt : ∀ x ∈ p, x.block < W.heap.size := by
  obtain ⟨fuel, hf⟩ := h
  exact DataW.trod_lt fuel _ _ _ hf
 refine ⟨hlt, ?_⟩
 obtain ⟨c0, c1, c2, y0, y1, y2, m, rfl, rfl, rfl, h0, h1, h2⟩ := open_agg3 Tryz.underlying25 (by kernel_rfl) (by kernel_rfl) hv h
 have hwe : ∀ n ∈ DataW.weightsEach Tryz.prog [3, 22, 23] [y0.1, y1.1, y2.1], n ≤ reachBytes := fun n hn => hw n (by
  simp only [DataW.weights, Tryz.underlying25]
  exact hn)
 obtain ⟨a, rfl, ta⟩ := trod_i h0
 obtain ⟨q1, d1, l1, e1, z1, p1, s1, _⟩ := trod_list EV (NodK2 W) Tryz.underlying22 (by kernel_rfl) (by decide) (fun fuel cs y hl h hw => trod_nod2 fuel cs y hl h hw) _ _ _ h1 (fun n hn => hwe n (DataW.weights_mem_each (j := 1) rfl rfl n hn))
 obtain ⟨q2, d2, l2, e2, z2, p2, s2, t2⟩ := trod_list ED EdgT Tryz.underlying23 (by kernel_rfl) (by decide) (fun fuel cs y hl h _ => trod_edg fuel cs y hl h) _ _ _ h2 (fun n hn => hwe n (DataW.weights_mem_each (j := 2) rfl rfl n hn))
 simp at e1 e2
 subst e1 e2
 rw [show Tryz.prog.bytesOf 89 = 112 by kernel_rfl] at s1
 rw [show Tryz.prog.bytesOf 94 = 40 by kernel_rfl] at s2
 have hrb : reachBytes ≤ 140737488351232 := by decide
 refine ⟨a, _, _, l1, l2, rfl, ⟨ta, fun n hn => ?_, p2⟩, ⟨z1, z2, fun x hx => (p1 x hx).2.1, fun x hx => by have := (p1 x hx).2.2; omega, by omega, by omega⟩, ⟨by omega, by omega, fun x hx => ⟨(p1 x hx).2.2.1, (p1 x hx).2.2.2.1⟩⟩, ⟨fun p n c e => by simp only [Value.slice.injEq] at e; omega, fun x hx => ⟨(p1 x hx).2.2.2.2, by have := (p1 x hx).2.2.2.1; omega⟩⟩⟩
 obtain ⟨x, hx, rfl⟩ := List.mem_map.1 hn
 exact (p1 x hx).1
end Go.Proofs.YtjppkehnjnmbnaaGreat.Df

namespace Go.Proofs.YtjppkehnjnmbnaaGreat.Lf
open Go.ChangeShapes Go.WideShapes Go.ChangeAt Go.RowKit Go.Joins Go.Sort Pt
open Df (Gph gof GR Gcap NV Edg GphT EdgT)
section
variable {H : Type} {enc : TypeId × Value → H} {W : World} {base : Nat} {sp : Nat → Bool} {held : Bool}
theorem trod_w {fuel : Nat} {c : Value} {y : DataW H × List MemPlace} (h : DataW.trod enc Tryz.prog W base sp held fuel 37 [c] = some y) : ∃ n : Int, c = .int .u64 n ∧ (Lit.int .u64 n).wf = true := by
 obtain ⟨u, e, _, w⟩ := DataW.trod_int Tryz.underlying37 h
 simp at e
 exact ⟨u, e, w⟩
set_option maxRecDepth 100000 in
theorem trod_stamp (fuel : Nat) (cs : List Value) (y : DataW H × List MemPlace) (hl : cs.length = 4) (h : DataW.trod enc Tryz.prog W base sp held fuel 52 cs = some y) : ∃ x : Hf.Th, cs = EF.enc x ∧ True := by
 have hthree : Tryz.prog.cellsOf 50 = 3 := by kernel_rfl
 match cs, hl with
 | [c3, c4, c5, c6], _ =>
  obtain ⟨zs, k', _, _, _, hzl, hgg⟩ := DataW.trod_struct Tryz.underlying52 h
  match zs, hzl with
  | [z0, z1], _ =>
   have j0 : DataW.trod enc Tryz.prog W base sp held k' 3 (([c3, c4, c5, c6].drop 0).take (Tryz.prog.cellsOf 3)) = some z0 := hgg 0 _ rfl
   have j1 : DataW.trod enc Tryz.prog W base sp held k' 50 (([c3, c4, c5, c6].drop 1).take (Tryz.prog.cellsOf 50)) = some z1 := hgg 1 _ rfl
   rw [Df.c1i] at j0
   rw [hthree] at j1
   obtain ⟨u3, rfl, _⟩ := Df.trod_i j0
   simp only [List.drop_succ_cons, List.drop_zero, List.take_succ_cons, List.take_zero] at j1
   obtain ⟨ts, k2', _, _, _, htl, hhh⟩ := DataW.trod_struct Tryz.underlying50 j1
   match ts, htl with
   | [t0, t1, t2], _ =>
    have i0 : DataW.trod enc Tryz.prog W base sp held k2' 37 (([c4, c5, c6].drop 0).take (Tryz.prog.cellsOf 37)) = some t0 := hhh 0 _ rfl
    have i1 : DataW.trod enc Tryz.prog W base sp held k2' 37 (([c4, c5, c6].drop 1).take (Tryz.prog.cellsOf 37)) = some t1 := hhh 1 _ rfl
    have i2 : DataW.trod enc Tryz.prog W base sp held k2' 37 (([c4, c5, c6].drop 2).take (Tryz.prog.cellsOf 37)) = some t2 := hhh 2 _ rfl
    rw [Df.c1u] at i0 i1 i2
    obtain ⟨u4, rfl, w4⟩ := trod_w i0
    obtain ⟨u5, rfl, w5⟩ := trod_w i1
    obtain ⟨u6, rfl, w6⟩ := trod_w i2
    exact ⟨(u3, ⟨(u4, u5, u6), w4, w5, w6⟩), rfl, trivial⟩
end
theorem GphT.gpt {g : Gph} (h : GphT g) : Gpt g := fun n hn => ⟨(h.2.1 n hn).2.2.2.2.1, fun c hc => ((h.2.1 n hn).2.2.2.2.2.2 c hc).2.2⟩
end Go.Proofs.YtjppkehnjnmbnaaGreat.Lf

namespace Go.Proofs.YtjppkehnjnmbnaaGreat
open Go.ChangeShapes Go.WideShapes Go.ChangeAt Go.RowKit
set_option maxRecDepth 100000 in
theorem pathsFronts_contract (H : Type) (enc : TypeId × Value → H) (W : World) (base : Nat) (args : Array Value) (ds gs : List (DataW H)) (before : List MemPlace)
    (hval : ∀ (j : Nat) t v, Tryz.f6.params[j]? = some t → args[j]? = some v → Value.okWide Tryz.prog W .any base t v)
    (hW : DataW.Whole enc Tryz.prog Tryz.f6.params.toList Rows.pathsFrontsSpec.vars false W args.toList ds gs before) (hR : (DataW.weightsEach Tryz.prog (Tryz.f6.params.toList ++ (OpenSpec.ofChange Rows.pathsFrontsSpec).bare.plain.varTypes Tryz.prog) (ds ++ gs)).all (· ≤ reachBytes) = true) :
    Calls Tryz.prog 6 args W fun e W' => ∃ v, e = .returned v ∧ Rows.pathsFrontsSpec.post enc Tryz.prog Tryz.f6 false true false false W args v W' := by
 have hW' := hW
 obtain ⟨p, q, hA0, hV, rfl, hfz, hnd⟩ := hW
 have hA : DataW.TrodAll enc Tryz.prog W 0 (fun _ => true) true Tryz.f6.params.toList args.toList ds p := hA0
 rw [Tryz.params6] at hA hval
 obtain ⟨v0, v1, v2, d0, d1, d2, p0, p1, p2, rfl, rfl, rfl, h0, h1, h2⟩ := trodAll_three hA
 obtain ⟨rfl, rfl⟩ := trodVars_none hV
 obtain ⟨hlt0, a0, nv0, ev0, xs0, es0, rfl, hT0, hG0, _, hC0⟩ := Df.open_graph2 (hval 0 25 v0 rfl rfl) h0 (fun n hn => by simpa using List.all_eq_true.1 hR n (DataW.weights_mem_each (j := 0) (by kernel_rfl) rfl n hn))
 obtain ⟨n1, rfl, rfl, rfl, wn1⟩ := open_int Tryz.underlying3 (hval 1 3 v1 rfl rfl) h1
 obtain ⟨hlt2, ts2, hts2, _⟩ := open_list Lf.EF Tryz.underlying49 (by kernel_rfl) (by decide) (fun fuel cs y hl h => (Lf.trod_stamp fuel cs y hl h).imp fun _ h => h.1) (hval 2 49 v2 rfl rfl) h2
 have hcp := has_cap Tryz.underlying49 (hval 2 49 v2 rfl rfl)
 simp only [List.append_nil] at hW'
 refine (Lf.pathsFronts_any n1 W hG0 (Nat.le_refl _) hC0 (Lf.GphT.gpt hT0) (M2 := W.heap.size) (Or.inl ⟨hts2, hts2.blk⟩) hcp).mono fun e W' ⟨he, hB⟩ => ?_
 subst he
 exact ⟨_, rfl, _, _, _, [], _, [], hW', trodAll_mk1 (shut_bool Tryz.underlying4 _), trodAll_mk3 (Below.trod laidOut (by kernel_rfl) (of_decide_eq_true (by kernel_rfl)) h0 hB hlt0) (shut_int Tryz.underlying3 wn1) (Below.trod laidOut (by kernel_rfl) (of_decide_eq_true (by kernel_rfl)) h2 hB hlt2), rfl, hB.frame _, fun h => by cases h⟩
set_option maxRecDepth 100000 in
theorem pathsFronts_lifted (os : Os) (started : os.Started) (H : Type) (enc : TypeId × Value → H) (F : Stop.Interp) :
    ReturnsInHanded {} Tryz.checked os 6 .any ((OpenSpec.ofChange Rows.pathsFrontsSpec).preRow enc Tryz.prog Tryz.f6 Rows.pathsFrontsRow.domain false Rows.pathsFrontsRow.laid) (((OpenSpec.ofChange Rows.pathsFrontsSpec).at F).post enc Tryz.prog Tryz.f6 false true false false) := by
 refine returnsInHanded_of_row (C := Tryz.checked) (s := OpenSpec.ofChange Rows.pathsFrontsSpec) own started (by kernel_rfl) Tryz.func6
  (witness (enc := enc) #[.agg #[.int .i64 0, .slice none 0 0, .slice none 0 0], .int .i64 0, .slice none 0 0] (World.shaped_of_ZipB (by kernel_rfl) (by kernel_rfl)) (by kernel_rfl)
   (OpenSpec.preRow_of_cond 8 (x := ([.agg [.lit (.int .i64 0), .nil, .nil], .lit (.int .i64 0), .nil], [], [])) (by kernel_rfl) (by kernel_rfl) (fun k hk => by cases hk) (by kernel_rfl) (laid_met os _))) ?_
 intro W base args ds gs before hval hW _ _ hR _ _ _
 exact pathsFronts_contract H enc W base args ds gs before hval hW hR
theorem pathsFronts_said : Rows.PathsFrontsSaid :=
 OpenClaim.holds_of_cond 6 Tryz.f6 rfl rfl rfl rfl rfl rfl rfl ⟨rfl, rfl, rfl, rfl, rfl⟩ rfl rfl rfl rfl rfl (by kernel_rfl) Tryz.func6 (by kernel_rfl)
  (of_decide_eq_true (by kernel_rfl)) (by unfold Func.isWrapper; first | (rw [if_pos (by decide +kernel)]; kernel_rfl) | (rw [if_neg (by decide +kernel)]; exact ⟨rfl, rfl⟩))
  (fun os started H enc _ F => by rw [OpenClaim.pre_eq_preRow]; exact pathsFronts_lifted os started H enc F)
end Go.Proofs.YtjppkehnjnmbnaaGreat
