import Derived.Test.YtdnnfgabdkkdjaaGreatJ14
import Derived.Test.YtdnnfgabdkkdjaaGreatGTy
import Derived.Test.YtdnnfgabdkkdjaaGreatJ9
import Derived.Test.YtdnnfgabdkkdjaaGreatJ13
import Derived.BigQuiet
import Derived.Deep.CutBlock
namespace Go.Proofs.YtdnnfgabdkkdjaaGreat.Lf
open Go.RowKit Go.Sort Pt
section
variable {w0 w w' : World} {tag tag' : Nat → Nat} {hb g n np B : Nat} {cs : List Nat} {rows : Nat → List Tm} {L R : List Hf.It}
theorem Lf.next (h : Lf w0 tag hb g n cs rows L np w) (hl : L.length ≤ 140737488355328) :
    Calls Tryz.prog 94 #[.pointer (some ⟨hb, 0, none⟩)] w fun e w' => ∃ (b : Bool) (t : Hf.Th) (k : Nat) (R : List Hf.It) (tag' : Nat → Nat), e = .returned (Hf.ans t b) ∧ Lf w0 tag' hb g n cs rows R np w' ∧ Nx 1 tag tag' w w' ∧
     (b = true → ((t, k) :: R).Perm L ∧ ∀ x ∈ R, Hf.kf t < Hf.kf x.1 ∨ (Hf.kf t = Hf.kf x.1 ∧ k < x.2)) ∧ (b = false → L = [] ∧ R = []) := by
 cases L with
 | nil =>
  refine h.hm.pop0.mono ?_
  rintro e w' ⟨rfl, hB⟩
  exact ⟨false, Hf.zt, 0, [], tag, rfl, h.below hB, Nx.below 1 tag hB, (fun e => by cases e), fun _ => ⟨rfl, rfl⟩⟩
 | cons t L1 =>
  refine (h.hm.pop (t := t) rfl hl).mono ?_
  rintro e w' ⟨R, rfl, q1, q2, q3, q4⟩
  exact ⟨true, t.1, t.2, R, _, rfl, h.heap q1 q4, q4, (fun _ => ⟨q2, q3⟩), (fun e => by cases e)⟩
structure Bx (w0 : World) (tag : Nat → Nat) (B : Nat) (t : Hf.Th) (w : World) : Prop where
 blk : w.heap[B]? = some (.cells #[.int .i64 t.1, .int .u64 t.2.1.1, .int .u64 t.2.1.2.1, .int .u64 t.2.1.2.2] 149 (0, 0))
 tg : tag B = 0
 nw : w0.heap.size ≤ B
theorem Bx.lt {t : Hf.Th} (h : Bx w0 tag B t w) : B < w.heap.size := (Array.getElem?_eq_some_iff.1 h.blk).1
theorem Bx.nx {j : Nat} {t : Hf.Th} (h : Bx w0 tag B t w) (hn : Nx j tag tag' w w') (hj : j ≠ 0) : Bx w0 tag' B t w' :=
 ⟨(hn.kp.block B h.lt (fun e => hj (e.symm.trans h.tg))).trans h.blk, (hn.old B h.lt).trans h.tg, h.nw⟩
theorem Bx.below {t : Hf.Th} (h : Bx w0 tag B t w) (hB : Below w.heap.size w w') : Bx w0 tag B t w' := h.nx (Nx.below 1 tag hB) (by decide)
theorem Bx.cells {t : Hf.Th} (h : Bx w0 tag B t w) : w.cell? ⟨B, 0, none⟩ = some (.int .i64 t.1) ∧ w.cell? ⟨B, 1, none⟩ = some (.int .u64 t.2.1.1) ∧ w.cell? ⟨B, 2, none⟩ = some (.int .u64 t.2.1.2.1) ∧ w.cell? ⟨B, 3, none⟩ = some (.int .u64 t.2.1.2.2) := by
 simp [World.cell?, h.blk]
theorem Bx.fz {t : Hf.Th} (h : Bx w0 tag B t w) : w.frozen? ⟨B, 0, none⟩ = false ∧ w.frozen? ⟨B, 1, none⟩ = false ∧ w.frozen? ⟨B, 2, none⟩ = false ∧ w.frozen? ⟨B, 3, none⟩ = false := by
 simp [World.frozen?, h.blk]
theorem Lf.box (h : Lf w0 tag hb g n cs rows R np w) (t : Hf.Th) : Lf w0 (tg tag w 0) hb g n cs rows R np (w.alloc (.cells #[.int .i64 t.1, .int .u64 t.2.1.1, .int .u64 t.2.1.2.1, .int .u64 t.2.1.2.2] 149)) ∧ Bx w0 (tg tag w 0) w.heap.size t (w.alloc (.cells #[.int .i64 t.1, .int .u64 t.2.1.1, .int .u64 t.2.1.2.1, .int .u64 t.2.1.2.2] 149)) := by
 have hB : Below w.heap.size w (w.alloc (.cells #[.int .i64 t.1, .int .u64 t.2.1.1, .int .u64 t.2.1.2.1, .int .u64 t.2.1.2.2] 149)) := ((Gr.refl w).alloc _).below
 have hn : Nx 1 tag (tg tag w 0) w (w.alloc (.cells #[.int .i64 t.1, .int .u64 t.2.1.1, .int .u64 t.2.1.2.1, .int .u64 t.2.1.2.2] 149)) := ⟨Kp.of_below hB, fun _ hk => tg_old hk⟩
 have hn9 : Nx 0 tag (tg tag w 0) w (w.alloc (.cells #[.int .i64 t.1, .int .u64 t.2.1.1, .int .u64 t.2.1.2.1, .int .u64 t.2.1.2.2] 149)) := ⟨Kp.of_below hB, fun _ hk => tg_old hk⟩
 exact ⟨h.heap (h.hm.nx hn9 (by decide)) hn, ⟨heap_new' _ _, tg_new (Nat.le_refl _), h.bl.size⟩⟩
theorem Lf.set {t : Hf.Th} (h : Lf w0 tag hb g n cs rows R np w) (hx : Bx w0 tag B t w) (u : Hf.Th) : Lf w0 tag hb g n cs rows R np ((((w.setCell ⟨B, 0, none⟩ (.int .i64 u.1)).setCell ⟨B, 1, none⟩ (.int .u64 u.2.1.1)).setCell ⟨B, 2, none⟩ (.int .u64 u.2.1.2.1)).setCell ⟨B, 3, none⟩ (.int .u64 u.2.1.2.2)) ∧
    Bx w0 tag B u ((((w.setCell ⟨B, 0, none⟩ (.int .i64 u.1)).setCell ⟨B, 1, none⟩ (.int .u64 u.2.1.1)).setCell ⟨B, 2, none⟩ (.int .u64 u.2.1.2.1)).setCell ⟨B, 3, none⟩ (.int .u64 u.2.1.2.2)) := by
 obtain ⟨h1, h2⟩ := Hf.two_set (c0 := .int .i64 u.1) (c1 := .int .u64 u.2.1.1) (c2 := .int .u64 u.2.1.2.1) (c3 := .int .u64 u.2.1.2.2) hx.blk
 generalize (((w.setCell ⟨B, 0, none⟩ (.int .i64 u.1)).setCell ⟨B, 1, none⟩ (.int .u64 u.2.1.1)).setCell ⟨B, 2, none⟩ (.int .u64 u.2.1.2.1)).setCell ⟨B, 3, none⟩ (.int .u64 u.2.1.2.2) = w' at h1 h2 ⊢
 have hn : Nx 0 tag tag w w' := ⟨h2.mono (fun k hk => by rw [hk]; exact hx.tg), fun _ _ => rfl⟩
 obtain ⟨r1, r2⟩ := h.row hn (by decide)
 exact ⟨⟨h.bl.trans (h2.below h.bl.size (fun k hk => by rw [hk]; exact hx.nw)), h.nw, h.len, r1, r2, h.hm.nx hn (by decide), fun i c hc => (h.ch i c hc).nx hn (by omega)⟩, ⟨h1, hx.tg, hx.nw⟩⟩
end
end Go.Proofs.YtdnnfgabdkkdjaaGreat.Lf

namespace Go.Proofs.YtdnnfgabdkkdjaaGreat.Lf
open Go.RowKit Go.Sort Pt
attribute [local go_sem ↓] Go.wp_at_zero Go.wp_at_succ
def LfA (w : World) (ss : List (List Hf.Th)) (p : Nat) (e : Ending) (w' : World) : Prop := Below w.heap.size w w' ∧ ∃ r, Res PX (Sts ss) p r ∧ ((r = none ∧ e = .returned (.tuple #[.slice none 0 0, .int .i64 28])) ∨ ∃ rows v vs, r = some rows ∧ e = .returned (.tuple #[v, .int .i64 0]) ∧ Tb w.heap.size w' v vs ((List.range ss.length).map rows))
theorem Tb.base {b b' : Nat} {w : World} {v : Value} {vs : List Vw} {ts : List (List Tm)} (h : Tb b w v vs ts) (hb : b' ≤ b) : Tb b' w v vs ts := ⟨owns_base h.row hb, h.len, fun i u t hu ht => ⟨owns_base (h.each i u t hu ht).1 hb, (h.each i u t hu ht).2⟩⟩
theorem Pu.bd2 {ss : List (List Hf.Th)} {p d q0 np : Nat} {t2 : Tri} {rows : Nat → List Tri} {L : List Hf.It} (h : Pu ss p d rows L np) (hq : q0 < ss.length) (h64 : (rows q0).length + 1 ≤ 64) : np + d ≤ 64 * ss.length * (d + 1) + 1 := by
 have h1 := tot_le (n := ss.length) (m := 64) (rows := put1 rows q0 t2) (fun q _ => by
  unfold put1
  split
  ·rename_i e
   subst e
   simpa using h64
  ·exact h.sm q)
 rw [tot_put1, if_pos hq] at h1
 have h2 : (tot ss.length rows + 1) * d ≤ 64 * ss.length * (d + 1) := Nat.mul_le_mul h1 (Nat.le_succ d)
 rw [Nat.add_mul, Nat.one_mul] at h2
 have h3 := h.nb
 omega
set_option maxHeartbeats 4000000 in
set_option maxRecDepth 100000 in
theorem leastFrom_any (p n d : Nat) (su : Value) (ss : List (List Hf.Th)) (w : World) (hS : Sp w su ss) (hn : ss.length = n) (hp : p < n) (hr : ∀ s ∈ ss, ∀ x ∈ s, ∃ q : Nat, q < n ∧ x.1 = (q : Int)) (hd : ∀ s ∈ ss, s.length ≤ d) (hM : (64 * n * (d + 1) + 2) * 40 ≤ 140737488355328) :
    Calls Tryz.prog 59 #[.int .i64 p, su] w (LfA w ss p) := by
 have hmx : Tryz.prog.follows .mixedOrders = true := by kernel_rfl
 obtain ⟨ps, cs0, rfl⟩ := hS.form
 subst hn
 have hnb : ss.length * 2560 ≤ 140737488355328 := by
  have h1 : 64 * ss.length * 1 ≤ 64 * ss.length * (d + 1) := Nat.mul_le_mul (Nat.le_refl _) (by omega)
  omega
 obtain ⟨iB, hiB, hb0, hb1, hb2⟩ := info_parts infoCp
 obtain ⟨w1, hmk, ho1, hg1⟩ := run_make_full (P := Tryz.prog) w 0 151 98 iB _ 1 Tryz.underlying151 hiB hb0 hb1 .i64 .i64 ss.length (by rw [hb2]; omega) (by unfold maxLen; omega) (Nat.zero_le _)
 rw [madeP] at ho1
 obtain ⟨g, hg⟩ : ∃ g, g = w.heap.size := ⟨_, rfl⟩
 rw [← hg] at hmk ho1
 have HF1 : Hid (Fil w (fun k => if k = g then 2 else 0) g ss.length [] w1) := by
  refine ⟨(Kp.grownBy (S := fun _ => False) hg1 (fun _ h => by cases h)).below (Nat.le_refl _) (fun _ h => h.elim), fun k hk => if_neg (by omega), Nat.zero_le _, ho1, if_pos rfl, fun i c hc => by simp at hc⟩
 have HS : Hid (Sp w (.slice ps ss.length cs0) ss) := hS
 have HR : Hid (∀ s ∈ ss, ∀ x ∈ s, ∃ q : Nat, q < ss.length ∧ x.1 = (q : Int)) := hr
 have HD : Hid (∀ s ∈ ss, s.length ≤ d) := hd
 have HM : Hid ((64 * ss.length * (d + 1) + 2) * 40 ≤ 140737488355328) := hM
 have HPl : Hid (p < ss.length) := hp
 clear hS hr hd hM hp hiB hb0 hb1 hb2 ho1 hg1 hg
 go_enter Tryz.func59, Tryz.ntmps59
 go_wp2_with fail
 clear hmk
 go_loopw [7, 20] (fun _ s20 wr => ∃ (i : Nat) (tag : Nat → Nat) (cs : List Nat), i ≤ ss.length ∧ s20 = .int .i64 i ∧ Hid (cs.length = i ∧ Fil w tag g ss.length cs wr)) (fun _ s20 _ => ss.length - (RowKit.intOf s20).toNat)
 case atStart => exact ⟨0, _, [], Nat.zero_le _, rfl, rfl, HF1.out⟩
 case round =>
  clear HF1
  obtain ⟨i, tag, cs, hi, rfl, HI⟩ := hrel
  by_cases hlt : i < ss.length
  ·have hltz : (i : Int) < (ss.length : Int) := by omega
   have hi0 : (0 : Int) ≤ (i : Int) := by omega
   have hgl := HI.out.2.gl
   have hny := Pc.Cn.noneYet_any wr
   have hfz : ∀ W, Gr wr W → W.frozen? ⟨g, i, none⟩ = false := fun W h => Hf.owns_fz (owns_below HI.out.2.ro h.below) i
   go_wp2_with fail
   refine hny.mono ?_
   rintro e w5 ⟨rfl, hC5, hg5⟩
   have hgl5 := Nat.lt_of_lt_of_le hgl hg5.size
   have hfz5 := hfz _ hg5
   have hce5 : w5.cell? ⟨g, i, none⟩ = some (.pointer none) := by
    have := HI.out.2.cell (by rw [HI.out.1]; exact hlt) hg5
    rw [HI.out.1] at this
    exact this
   have HF5 := Hf.hid (HI.out.2.step (by rw [HI.out.1]; exact hlt) hC5 hg5)
   rw [HI.out.1] at HF5
   clear hC5 hg5 hfz hny
   go_wp2_with fail
   go_roundw
   case rel => exact ⟨i + 1, _, _, by omega, by first | rfl | go_num, by rw [List.length_append, HI.out.1]; rfl, HF5.out⟩
   case measure => simp [RowKit.intOf]; omega
  ·have hltz : ¬ (i : Int) < (ss.length : Int) := by omega
   have hce : cs.length = ss.length := by rw [HI.out.1]; omega
   go_wp2_with fail
   refine (hnew wr tag 1).mono ?_
   rintro e w8 ⟨hb, rfl, hbw, hm8, hg8⟩
   have HL8 := Hf.hid (HI.out.2.done hce ⟨Kp.of_gr hg8, fun _ hk => tg_old hk⟩ hm8)
   clear hm8 hg8 hbw HI
   go_wp2_with fail
   refine ((HL8.out.hm).push ((p : Int), PX.z) (by simp) (by simp)).mono ?_
   rintro e w9 ⟨L9, rfl, hm9, hp9, hn9⟩
   have e9 : L9 = [(((p : Int), PX.z), 0)] := by simpa using hp9
   subst e9
   have HL9 := Hf.hid (HL8.out.heap hm9 hn9)
   clear hm9 hp9 hn9 HL8
   go_wp2_with fail
   refine (HL9.out.hm.pop rfl (by simp)).mono ?_
   rintro e w10 ⟨L10, rfl, hm10, hp10, hk10, hn10⟩
   have e10 : L10 = [] := by
    have := hp10.length_eq
    simpa using this
   subst e10
   have HLA := Hf.hid (HL9.out.heap hm10 hn10)
   clear hm10 hp10 hk10 hn10 HL9
   generalize tg (tg (tg tag wr 1) w8 1) w9 1 = tagA at HLA
   go_wp2_with fail
   obtain ⟨hl0, hx0⟩ := HLA.out.box ((p : Int), PX.z)
   have HM0 : Hid (Lf w (tg tagA w10 0) hb g ss.length cs (fun _ => []) [] 1 (w10.alloc (.cells #[.int .i64 (p : Int), .int .u64 PX.z.1.1, .int .u64 PX.z.1.2.1, .int .u64 PX.z.1.2.2] 149)) ∧ Bx w (tg tagA w10 0) w10.heap.size ((p : Int), PX.z) (w10.alloc (.cells #[.int .i64 (p : Int), .int .u64 PX.z.1.1, .int .u64 PX.z.1.2.1, .int .u64 PX.z.1.2.2] 149))) := ⟨hl0, hx0⟩
   clear hl0 hx0 HLA
   go_loopg [9, 10, 12, 13, 14] (64 * ss.length * (d + 1) + 1) (fun gk s9 s10 _ _ _ wx => ∃ (tag : Nat → Nat) (rows : Nat → List Tri) (R L0 : List Hf.It) (np B : Nat) (b : Bool) (t : Hf.Th) (k : Nat), s9 = .pointer (some ⟨B, 0, none⟩) ∧ s10 = .bool b ∧
    Hid (Lf w tag hb g ss.length cs rows R np wx ∧ Bx w tag B t wx ∧ Pu ss p d rows L0 np ∧ mes ss.length d rows L0.length ≤ gk) ∧ Hid ((b = true → ((t, k) :: R).Perm L0 ∧ ∀ x ∈ R, Hf.kf t < Hf.kf x.1 ∨ (Hf.kf t = Hf.kf x.1 ∧ k < x.2)) ∧ (b = false → L0 = [] ∧ R = [])))
   case atStart => exact ⟨_, fun _ => [], [], [(((p : Int), PX.z), 0)], 1, _, true, ((p : Int), PX.z), 0, rfl, rfl, ⟨HM0.out.1, HM0.out.2, Pu.init HPl.out, Nat.le_of_eq mes_init⟩, ⟨fun _ => ⟨List.Perm.refl _, fun x hx => by simp at hx⟩, fun e => by cases e⟩⟩
   case round =>
    clear HM0
    obtain ⟨tag, rows, R, L0, np, B, b, t, k, rfl, rfl, HS0, HO0⟩ := hrel
    cases b with
    | false =>
     have HE := HO0.out.2 rfl
     have hls := listsOf_any wr HS0.out.1.lr HS0.out.1.len HS0.out.1.ch HS0.out.2.2.1.sm hnb
     go_wp2_with fail
     refine hls.mono ?_
     rintro e w20 ⟨v20, vs20, rfl, HT20, hb20⟩
     obtain ⟨rfl, rfl⟩ := HE
     have HFI : Hid (LfA w ss p (.returned (.tuple #[v20, .int .i64 0])) w20) := ⟨HS0.out.1.bl.trans (hb20.mono HS0.out.1.bl.size), some rows, HS0.out.2.2.1.fin, Or.inr ⟨rows, v20, vs20, rfl, rfl, HT20.base HS0.out.1.bl.size⟩⟩
     clear HT20 hb20
     go_wp2
     refine bodyPost_ret (v := .tuple #[v20, .int .i64 0]) (by simp [results, Tryz.results59, go_sem]) rfl ?_
     exact HFI.out
    | true =>
     obtain ⟨hpm, hod⟩ := HO0.out.1 rfl
     obtain ⟨gk, rfl⟩ : ∃ g', gk = g' + 1 := ⟨gk - 1, by
      have h1 := HS0.out.2.2.2
      have h2 : R.length + 1 = L0.length := by simpa using hpm.length_eq
      have h3 := mes_ge (n := ss.length) (d := d) (k := L0.length) (rows := rows)
      omega⟩
     obtain ⟨q0, hq0, ht0⟩ := HS0.out.2.2.1.rg (t, k) (hpm.mem_iff.1 (List.mem_cons_self ..))
     obtain ⟨t1, t2⟩ := t
     simp only at ht0
     subst ht0
     obtain ⟨c0, hc0⟩ : ∃ c, cs[q0]? = some c := ⟨cs[q0]'(by rw [HS0.out.1.len]; exact hq0), by simp⟩
     have hqz : (q0 : Int) < (ss.length : Int) := by omega
     have hqz0 : (0 : Int) ≤ (q0 : Int) := by omega
     have hins : ∀ W : World, Gr wr W → Calls Tryz.prog 48 #[.pointer (some ⟨c0, 0, none⟩), .agg #[.int .u64 t2.1.1, .int .u64 t2.1.2.1, .int .u64 t2.1.2.2]] W fun e w' => e = .returned (.bool (!ccov Pc.bel (rows q0) t2)) ∧ Hid (∃ tag' : Nat → Nat, Lf w tag' hb g ss.length cs (fun i => if i = q0 then cins Pc.bel Pc.tol (rows q0) t2 else rows i) R np w' ∧ Bx w tag' B ((q0 : Int), t2) w') ∧ (w'.cell? ⟨g, q0, none⟩ = some (.pointer (some ⟨c0, 0, none⟩)) ∧ w'.cell? ⟨B, 0, none⟩ = some (.int .i64 (q0 : Int)) ∧ w'.cell? ⟨B, 1, none⟩ = some (.int .u64 t2.1.1) ∧ w'.cell? ⟨B, 2, none⟩ = some (.int .u64 t2.1.2.1) ∧ w'.cell? ⟨B, 3, none⟩ = some (.int .u64 t2.1.2.2) ∧ g < w'.heap.size ∧ B < w'.heap.size) := by
      intro W hW
      have hL := HS0.out.1.below hW.below
      have hX := HS0.out.2.1.below hW.below
      refine ((hL.ch q0 c0 hc0).insert t2 (by have := HS0.out.2.2.1.sm q0; omega)).mono ?_
      rintro e w' ⟨rfl, h1, h2⟩
      have h3 := hL.chain hc0 h1 h2
      have h4 := hX.nx h2 (by omega)
      obtain ⟨z0, z1⟩ := EP_at h3.lr hc0
      obtain ⟨z2, z3, z4, z5⟩ := h4.cells
      exact ⟨rfl, ⟨_, h3, h4⟩, z0, z2, z3, z4, z5, z1, h4.lt⟩
     have hcc : ∃ bb, ccov Pc.bel (rows q0) t2 = bb := ⟨_, rfl⟩
     obtain ⟨bb, hbb⟩ := hcc
     rw [hbb] at hins
     obtain ⟨x0, x1⟩ := EP_at HS0.out.1.lr hc0
     obtain ⟨y0, y1, y2, y3⟩ := HS0.out.2.1.cells
     have hBl := HS0.out.2.1.lt
     have S0 : (wr.drew.cell? ⟨g, q0, none⟩ = some (.pointer (some ⟨c0, 0, none⟩)) ∧ wr.drew.cell? ⟨B, 0, none⟩ = some (.int .i64 (q0 : Int)) ∧ wr.drew.cell? ⟨B, 1, none⟩ = some (.int .u64 t2.1.1) ∧ wr.drew.cell? ⟨B, 2, none⟩ = some (.int .u64 t2.1.2.1) ∧ wr.drew.cell? ⟨B, 3, none⟩ = some (.int .u64 t2.1.2.2) ∧ g < wr.drew.heap.size ∧ B < wr.drew.heap.size) := ⟨x0, y0, y1, y2, y3, x1, hBl⟩
     have hgd : Gr wr wr.drew := (Gr.refl _).drew
     have HBB : Hid (ccov Pc.bel (rows q0) t2 = bb) := hbb
     have HPM : Hid ((((q0 : Int), t2), k) :: R |>.Perm L0) := hpm
     have HOD : Hid (∀ x ∈ R, Hf.kf ((q0 : Int), t2) < Hf.kf x.1 ∨ (Hf.kf ((q0 : Int), t2) = Hf.kf x.1 ∧ k < x.2)) := hod
     clear x0 y0 y1 y2 y3 hbb hod hpm
     go_upto_region 12 with fail
     go_cut [52] (fun s52 wc => s52 = .bool bb ∧ Hid (∃ tag' : Nat → Nat, Lf w tag' hb g ss.length cs (fun i => if i = q0 then cins Pc.bel Pc.tol (rows q0) t2 else rows i) R np wc ∧ Bx w tag' B ((q0 : Int), t2) wc))
     case first =>
      go_region_held3 (fun W => W.cell? ⟨g, q0, none⟩ = some (.pointer (some ⟨c0, 0, none⟩)) ∧ W.cell? ⟨B, 0, none⟩ = some (.int .i64 (q0 : Int)) ∧ W.cell? ⟨B, 1, none⟩ = some (.int .u64 t2.1.1) ∧ W.cell? ⟨B, 2, none⟩ = some (.int .u64 t2.1.2.1) ∧ W.cell? ⟨B, 3, none⟩ = some (.int .u64 t2.1.2.2) ∧ g < W.heap.size ∧ B < W.heap.size)
       (first | exact S0 | assumption)
       (first | (go_at_call 48; refine (hins _ (by assumption)).mono ?_; rintro e w12 ⟨rfl, HI12, hS12⟩))
      go_wp2_with fail
      go_meet
      exact ⟨by simp, HI12⟩
     case rest =>
      obtain ⟨rfl, HC⟩ := hcut
      obtain ⟨tagC, LC, XC⟩ := HC.out
      clear S0 hins HC
      rw [HS0.out.2.2.1.ins HPM.out] at LC
      cases bb with
      | true =>
       have hrows : (fun i => if i = q0 then (if ccov Pc.bel (rows q0) t2 then rows q0 else rows q0 ++ [t2]) else rows i) = rows := by
        rw [if_pos HBB.out]
        funext i
        split
        ·rename_i e; rw [e]
        ·rfl
       rw [hrows] at LC
       obtain ⟨y0, y1, y2, y3⟩ := XC.cells
       have hBc := XC.lt
       obtain ⟨LD, XD⟩ := LC.box ((q0 : Int), t2)
       obtain ⟨hpu, hms⟩ := HS0.out.2.2.1.skip HPM.out ((ccov_iff Pc.bel_px _ _).1 HBB.out)
       have HPU : Hid (Pu ss p d rows R np ∧ mes ss.length d rows R.length ≤ gk) := ⟨hpu, by have := HS0.out.2.2.2; omega⟩
       have hnx := LD.next (by have := (hpu.bd HM.out).2.2.1; omega)
       have HXD := Hf.hid XD
       clear LC XC LD XD hpu hms hrows
       go_wp2_with fail
       refine hnx.mono ?_
       rintro e w30 ⟨b3, t3, k3, R3, tag3, rfl, L30, N30, p31, p32⟩
       have X30 := HXD.out.nx N30 (by decide)
       obtain ⟨z0, z1, z2, z3⟩ := X30.cells
       obtain ⟨f0, f1, f2, f3⟩ := X30.fz
       have hz30 := X30.lt
       have H31 := Hf.hid (L30.set X30 t3)
       have HP3 : Hid ((b3 = true → ((t3, k3) :: R3).Perm R ∧ ∀ x ∈ R3, Hf.kf t3 < Hf.kf x.1 ∨ (Hf.kf t3 = Hf.kf x.1 ∧ k3 < x.2)) ∧ (b3 = false → R = [] ∧ R3 = [])) := ⟨p31, p32⟩
       clear L30 N30 p31 p32 X30 hnx
       go_wp2_with fail
       go_roundg gk
       case measure => omega
       case rel => exact ⟨tag3, rows, R3, R, np, _, b3, t3, k3, rfl, rfl, ⟨H31.out.1, H31.out.2, HPU.out.1, HPU.out.2⟩, HP3.out⟩
      | false =>
       have hrows : (fun i => if i = q0 then (if ccov Pc.bel (rows q0) t2 then rows q0 else rows q0 ++ [t2]) else rows i) = put1 rows q0 t2 := by
        rw [HBB.out]
        funext i
        unfold put1
        split
        ·rename_i e; rw [e]; rfl
        ·rfl
       rw [hrows] at LC
       obtain ⟨y0, y1, y2, y3⟩ := XC.cells
       have hBc := XC.lt
       obtain ⟨x0, x1⟩ := EP_at LC.lr hc0
       have hln := (LC.ch q0 c0 hc0).len
       rw [show (put1 rows q0 t2 q0).length = (rows q0).length + 1 by unfold put1; rw [if_pos rfl]; simp] at hln
       obtain ⟨ln, hlne⟩ : ∃ ln, ln = (rows q0).length + 1 := ⟨_, rfl⟩
       rw [← hlne] at hln
       have HLN := Hf.hid hlne
       have HLC := Hf.hid LC
       have HXC := Hf.hid XC
       clear LC XC hrows hlne
       have hnc : ¬ Cov PX (rows q0) t2 := fun h => by
        have := (ccov_iff Pc.bel_px _ _).2 h
        rw [HBB.out] at this
        cases this
       have HNC := Hf.hid hnc
       clear hnc
       by_cases h64 : 64 < ln
       ·have h64z : (64 : Int) < (ln : Int) := by omega
        have HFI : Hid (LfA w ss p (.returned (.tuple #[.slice none 0 0, .int .i64 28])) wc) := ⟨HLC.out.bl, none, HS0.out.2.2.1.wide HPM.out HOD.out HNC.out (by rw [← HLN.out]; exact h64), Or.inl ⟨rfl, rfl⟩⟩
        go_wp2_with fail
        refine hln.mono ?_
        rintro e w13 ⟨rfl, hw13⟩
        rw [hw13]
        clear hw13
        go_wp2
        refine bodyPost_ret (v := .tuple #[.slice none 0 0, .int .i64 28]) (by simp [results, Tryz.results59, go_sem]) rfl ?_
        exact HFI.out
       ·have h64z : ¬ (64 : Int) < (ln : Int) := by omega
        go_wp2_with fail
        refine hln.mono ?_
        rintro e w13 ⟨rfl, hw13⟩
        rw [hw13]
        clear hw13 hln
        obtain ⟨s, hs⟩ : ∃ s, ss[q0]? = some s := ⟨ss[q0]'hq0, by simp⟩
        have HSS := Hf.hid hs
        obtain ⟨bs, os, qs, ms, hps, hbs0, sc0, sl⟩ := HS.out.at hs
        subst hps
        have sc := (HLC.out.bl.cell (p := ⟨bs, os + q0, none⟩) hbs0).trans sc0
        have hbs := Nat.lt_of_lt_of_le hbs0 HLC.out.bl.size
        clear sc0 hbs0
        have hsl : s.length ≤ 140737488355328 := by
         have h1 := HD.out s (List.mem_of_getElem? hs)
         have h2 := HM.out
         have h3 : 64 * ss.length * 1 ≤ 64 * ss.length * (d + 1) := Nat.mul_le_mul (Nat.le_refl _) (by omega)
         have h4 : d + 1 ≤ 64 * ss.length * (d + 1) := Nat.le_mul_of_pos_left _ (by omega)
         omega
        have HI0 : Hid (Lf w tagC hb g ss.length cs (put1 rows q0 t2) R np wc ∧ Bx w tagC B ((q0 : Int), t2) wc ∧ Inn s ss.length t2 (put1 rows q0 t2) R R 0 ∧ np ≤ np + 0 ∧ R.length ≤ np) := ⟨HLC.out, HXC.out, Inn.init (fun x hx => HS0.out.2.2.1.rg x (HPM.out.mem_iff.1 (List.mem_cons_of_mem _ hx))), Nat.le_refl _, by
         have h1 := HS0.out.2.2.1.ln
         have h2 : R.length + 1 = L0.length := by simpa using HPM.out.length_eq
         omega⟩
        have HSL : Hid (Ls EF w (.slice qs s.length ms) s) := sl
        clear sl hs HLC HXC
        go_wp2_with fail
        go_loopw [12, 13, 14, 66] (fun _ _ _ s66 wx => ∃ (j : Nat) (tagI : Nat → Nat) (LI : List Hf.It) (ni : Nat), j ≤ s.length ∧ s66 = .int .i64 j ∧ Hid (Lf w tagI hb g ss.length cs (put1 rows q0 t2) LI ni wx ∧ Bx w tagI B ((q0 : Int), t2) wx ∧ Inn s ss.length t2 (put1 rows q0 t2) R LI j ∧ ni ≤ np + j ∧ LI.length ≤ ni)) (fun _ _ _ s66 _ => s.length - (RowKit.intOf s66).toNat)
        case atStart => exact ⟨0, _, _, _, Nat.zero_le _, rfl, HI0.out⟩
        case round =>
         clear HI0 y0 y1 y2 y3 hBc x0 x1 sc hbs
         obtain ⟨j, tagI, LI, ni, hj, rfl, HI⟩ := hrel
         by_cases hjl : j < s.length
         ·have hjz : (j : Int) < (s.length : Int) := by omega
          have hj0 : (0 : Int) ≤ (j : Int) := by omega
          obtain ⟨⟨x1, x2⟩, hx⟩ : ∃ x, s[j]? = some x := ⟨s[j], by simp⟩
          obtain ⟨qx, hqx, e1⟩ := HR.out s (List.mem_of_getElem? HSS.out) _ (List.mem_of_getElem? hx)
          simp only at e1
          subst e1
          have HX : Hid (s[j]? = some ((qx : Int), x2)) := hx
          obtain ⟨cx, hcx⟩ : ∃ c, cs[qx]? = some c := ⟨cs[qx]'(by rw [HI.out.1.len]; exact hqx), by simp⟩
          have hqxz : (qx : Int) < (ss.length : Int) := by omega
          have hqx0 : (0 : Int) ≤ (qx : Int) := by omega
          obtain ⟨b1, o1, c1, hv1, hb1, u0, u1, u2, u3⟩ := EF_at (HSL.out.below HI.out.1.bl) hx
          simp only [Value.slice.injEq] at hv1
          obtain ⟨rfl, -, rfl⟩ := hv1
          clear hx
          have hbd2 := HS0.out.2.2.1.bd2 (t2 := t2) hq0 (by rw [← HLN.out]; omega)
          have HBD : Hid ((LI.length + 1) * 40 ≤ 140737488355328 ∧ ni + 1 < 18446744073709551616) := by
           have h1 := HD.out s (List.mem_of_getElem? HSS.out)
           have h2 := HI.out.2.2.2
           have h3 := HM.out
           generalize 64 * ss.length * (d + 1) = X at h3 hbd2
           exact ⟨by omega, by omega⟩
          clear hbd2
          obtain ⟨bx, hbx⟩ : ∃ b, b = wr.heap.size := ⟨_, rfl⟩
          obtain ⟨W17, hW17⟩ : ∃ W, W = wr.alloc (.cells #[.int .i64 (qx : Int), .int .u64 x2.1.1, .int .u64 x2.1.2.1, .int .u64 x2.1.2.2] 149) := ⟨_, rfl⟩
          have P17 : Hid (Lf w tagI hb g ss.length cs (put1 rows q0 t2) LI ni W17 ∧ Bx w tagI B ((q0 : Int), t2) W17 ∧ W17.heap[bx]? = some (.cells #[.int .i64 (qx : Int), .int .u64 x2.1.1, .int .u64 x2.1.2.1, .int .u64 x2.1.2.2] 149 (0, 0)) ∧ Inn s ss.length t2 (put1 rows q0 t2) R LI j ∧ ni ≤ np + j ∧ LI.length ≤ ni) := by
           have g5 := ((Gr.refl wr).alloc (.cells #[.int .i64 (qx : Int), .int .u64 x2.1.1, .int .u64 x2.1.2.1, .int .u64 x2.1.2.2] 149)).below
           rw [hW17, hbx]
           exact ⟨HI.out.1.below g5, HI.out.2.1.below g5, heap_new' _ _, HI.out.2.2⟩
          have HW17 : Hid (wr.alloc (.cells #[.int .i64 (qx : Int), .int .u64 x2.1.1, .int .u64 x2.1.2.1, .int .u64 x2.1.2.2] 149) = W17 ∧ wr.heap.size = bx) := ⟨hW17.symm, hbx.symm⟩
          clear hW17 hbx HI
          go_upto_region 18 with fail
          rw [HW17.out.1, HW17.out.2]
          clear HW17 u0 u1 u2 u3 hb1
          obtain ⟨y0, y1, y2, y3⟩ := P17.out.2.1.cells
          have hBc := P17.out.2.1.lt
          have cx17 := (Df.tk_store P17.out.2.2.1).1
          have lx17 := Df.tk_lt P17.out.2.2.1
          obtain ⟨cv, hcv⟩ : ∃ c, c = thv t2 x2 := ⟨_, rfl⟩
          obtain ⟨ok, hok⟩ : ∃ b, b = (thn3 t2 x2).isSome := ⟨_, rfl⟩
          have hth := then_any t2 x2 W17
          rw [← hcv, ← hok] at hth
          have HCV : Hid (cv = thv t2 x2 ∧ ok = (thn3 t2 x2).isSome) := ⟨hcv, hok⟩
          clear hcv hok
          unfold Pc.tv at hth
          go_wp2_with fail
          refine hth.mono ?_
          rintro e w18 ⟨rfl, hb18⟩
          clear hth y0 y1 y2 y3 hBc cx17 lx17
          obtain ⟨pb, hpb⟩ : ∃ b, b = w18.heap.size := ⟨_, rfl⟩
          obtain ⟨W19, hW19⟩ : ∃ W, W = w18.alloc (.cells #[.int .u64 cv.1.1, .int .u64 cv.1.2.1, .int .u64 cv.1.2.2] 39) := ⟨_, rfl⟩
          have P19 : Hid (Lf w tagI hb g ss.length cs (put1 rows q0 t2) LI ni W19 ∧ Bx w tagI B ((q0 : Int), t2) W19 ∧ W19.heap[bx]? = some (.cells #[.int .i64 (qx : Int), .int .u64 x2.1.1, .int .u64 x2.1.2.1, .int .u64 x2.1.2.2] 149 (0, 0)) ∧ W19.heap[pb]? = some (.cells #[.int .u64 cv.1.1, .int .u64 cv.1.2.1, .int .u64 cv.1.2.2] 39 (0, 0))) := by
           have g5 := ((Gr.refl w18).alloc (.cells #[.int .u64 cv.1.1, .int .u64 cv.1.2.1, .int .u64 cv.1.2.2] 39)).below
           have g6 := hb18.trans (g5.mono hb18.size)
           rw [hW19, hpb]
           exact ⟨P17.out.1.below g6, P17.out.2.1.below g6, (g6.block _ (Df.tk_lt P17.out.2.2.1)).trans P17.out.2.2.1, heap_new' _ _⟩
          have HW19 : Hid (w18.alloc (.cells #[.int .u64 cv.1.1, .int .u64 cv.1.2.1, .int .u64 cv.1.2.2] 39) = W19 ∧ w18.heap.size = pb) := ⟨hW19.symm, hpb.symm⟩
          have HIN := Hf.hid P17.out.2.2.2
          clear hW19 hpb P17 hb18
          go_upto_region 19 with fail
          rw [HW19.out.1, HW19.out.2]
          clear HW19
          obtain ⟨cq, hcq⟩ : ∃ b, b = ccov Pc.bel (put1 rows q0 t2 qx) cv := ⟨_, rfl⟩
          have hcovers : ∀ W : World, Below W19.heap.size W19 W → Calls Tryz.prog 68 #[.pointer (some ⟨cx, 0, none⟩), .agg #[.int .u64 cv.1.1, .int .u64 cv.1.2.1, .int .u64 cv.1.2.2]] W fun e w' => e = .returned (.bool cq) ∧ Below W.heap.size W w' := fun W hW => by
           refine (((P19.out.1.below hW).ch qx cx hcx).covers cv (by
            have h5 : (put1 rows q0 t2 qx).length ≤ 65 := by
             unfold put1
             have := HS0.out.2.2.1.sm qx
             split
             ·simp; omega
             ·omega
            omega)).mono ?_
           rintro e w' ⟨rfl, hg⟩
           exact ⟨by rw [hcq], hg.below⟩
          have HCQ := Hf.hid hcq
          clear hcq
          have HSB : Hid (∀ W, Below W19.heap.size W19 W → W.cell? ⟨g, qx, none⟩ = some (.pointer (some ⟨cx, 0, none⟩)) ∧ W.cell? ⟨bx, 0, none⟩ = some (.int .i64 (qx : Int)) ∧ W.cell? ⟨pb, 0, none⟩ = some (.int .u64 cv.1.1) ∧ W.cell? ⟨pb, 1, none⟩ = some (.int .u64 cv.1.2.1) ∧ W.cell? ⟨pb, 2, none⟩ = some (.int .u64 cv.1.2.2) ∧ g < W.heap.size ∧ bx < W.heap.size ∧ pb < W.heap.size) := fun W hb => by
           obtain ⟨a0, a1⟩ := EP_at (P19.out.1.below hb).lr hcx
           have h1 := (hb.block _ (Df.tk_lt P19.out.2.2.1)).trans P19.out.2.2.1
           have h2 := (hb.block _ (Df.tk_lt P19.out.2.2.2)).trans P19.out.2.2.2
           have h3 := (Df.tk_store h1).1
           have h4 := (Df.tk_store h2).1
           exact ⟨a0, h3 0, h4 0, h4 1, h4 2, a1, Df.tk_lt h1, Df.tk_lt h2⟩
          have hB0 : Below W19.heap.size W19 W19.drew := (Gr.refl W19).drew.below
          have S0 := HSB.out _ hB0
          have HB0 := Hf.hid hB0
          clear hB0
          go_cut [88] (fun s88 wq => s88 = .bool (ok && !cq) ∧ Hid (Below W19.heap.size W19 wq))
          case first =>
           cases ok with
           | true =>
            have hcv2 := fun W hW => hcovers W (HB0.out.trans hW)
            go_region_held3 (fun W => W.cell? ⟨g, qx, none⟩ = some (.pointer (some ⟨cx, 0, none⟩)) ∧ W.cell? ⟨bx, 0, none⟩ = some (.int .i64 (qx : Int)) ∧ W.cell? ⟨pb, 0, none⟩ = some (.int .u64 cv.1.1) ∧ W.cell? ⟨pb, 1, none⟩ = some (.int .u64 cv.1.2.1) ∧ W.cell? ⟨pb, 2, none⟩ = some (.int .u64 cv.1.2.2) ∧ g < W.heap.size ∧ bx < W.heap.size ∧ pb < W.heap.size)
             (first | exact S0 | assumption)
             (first | (go_at_call 68; refine (hcovers _ HB0.out).mono ?_; rintro e w20 ⟨rfl, hb20⟩; have hS20 := HSB.out _ (HB0.out.trans (hb20.mono HB0.out.size))))
            go_wp2_with fail
            go_meet
            exact ⟨by simp, HB0.out.trans (hb20.mono HB0.out.size)⟩
           | false =>
            go_quiet (fail)
            go_wp2_with fail
            go_meet
            exact ⟨by simp, ((Gr.refl W19).drewN _).below⟩
          case rest =>
           obtain ⟨rfl, HC⟩ := hcut
           obtain ⟨a0, a1, a2, a3, a4, a5, a6, a7⟩ := HSB.out _ HC.out
           have HLQ := Hf.hid (P19.out.1.below HC.out)
           have HXQ := Hf.hid (P19.out.2.1.below HC.out)
           have HTH : Hid (∀ c, thn3 t2 x2 = some c → c = cv ∧ ok = true) := fun c hc => ⟨by rw [HCV.out.1, thv_some hc], by rw [HCV.out.2, hc]; rfl⟩
           clear S0 hcovers HSB P19 HB0
           obtain ⟨bq, hbq⟩ : ∃ b, b = (ok && !cq) := ⟨_, rfl⟩
           rw [← hbq]
           have HBQ := Hf.hid hbq
           clear hbq
           cases bq with
           | true =>
            have hpush := (HLQ.out.hm).push ((qx : Int), cv) HBD.out.1 HBD.out.2
            go_wp2_with fail
            refine hpush.mono ?_
            rintro e w20 ⟨L20, rfl, hm20, hp20, hn20⟩
            have FIN : Hid (Lf w (tg tagI wc 1) hb g ss.length cs (put1 rows q0 t2) L20 (ni + 1) w20 ∧ Bx w (tg tagI wc 1) B ((q0 : Int), t2) w20 ∧ Inn s ss.length t2 (put1 rows q0 t2) R L20 (j + 1) ∧ ni + 1 ≤ np + (j + 1) ∧ L20.length ≤ ni + 1) := by
             have hb : (ok && !cq) = true := HBQ.out.symm
             rw [Bool.and_eq_true] at hb
             obtain ⟨c, hc⟩ : ∃ c, thn3 t2 x2 = some c := by
              have := HCV.out.2
              rw [hb.1] at this
              exact Option.isSome_iff_exists.1 this.symm
             have hc2 := (HTH.out c hc).1
             subst hc2
             refine ⟨HLQ.out.heap hm20 hn20, HXQ.out.nx hn20 (by decide), HIN.out.1.push HX.out hqx hc hp20, by have := HIN.out.2.1; omega, ?_⟩
             rw [hp20.length_eq, List.length_append, List.length_singleton]
             have := HIN.out.2.2
             omega
            clear hm20 hp20 hn20 hpush
            go_wp2_with fail
            go_roundw
            case rel => exact ⟨j + 1, _, L20, ni + 1, by omega, by first | rfl | go_num, FIN.out⟩
            case measure => simp [RowKit.intOf]; omega
           | false =>
            have FIN : Hid (Inn s ss.length t2 (put1 rows q0 t2) R LI (j + 1) ∧ ni ≤ np + (j + 1) ∧ LI.length ≤ ni) := by
             refine ⟨HIN.out.1.skip HX.out (fun c hc => ?_), by have := HIN.out.2.1; omega, HIN.out.2.2⟩
             obtain ⟨h1, h2⟩ := HTH.out c hc
             have hb := HBQ.out
             rw [h2, Bool.true_and] at hb
             have hb2 : cq = true := by simpa using hb.symm
             rw [h1]
             rw [HCQ.out] at hb2
             exact (ccov_iff Pc.bel_px _ _).1 hb2
            go_wp2_with fail
            go_roundw
            case rel => exact ⟨j + 1, _, LI, ni, by omega, by first | rfl | go_num, HLQ.out, HXQ.out, FIN.out⟩
            case measure => simp [RowKit.intOf]; omega
         ·have hjz : ¬ (j : Int) < (s.length : Int) := by omega
          have hje : j = s.length := by omega
          subst hje
          obtain ⟨hpu, hms⟩ := HS0.out.2.2.1.take HPM.out HOD.out HNC.out HSS.out (HD.out s (List.mem_of_getElem? HSS.out)) (by rw [← HLN.out]; omega) HI.out.2.2.1 HI.out.2.2.2.1 HI.out.2.2.2.2
          obtain ⟨y0, y1, y2, y3⟩ := HI.out.2.1.cells
          have hBc := HI.out.2.1.lt
          obtain ⟨LD, XD⟩ := HI.out.1.box ((q0 : Int), t2)
          have HPU : Hid (Pu ss p d (put1 rows q0 t2) LI ni ∧ mes ss.length d (put1 rows q0 t2) LI.length ≤ gk) := ⟨hpu, by have := HS0.out.2.2.2; omega⟩
          have hnx := LD.next (by have := (hpu.bd HM.out).2.2.1; omega)
          have HXD := Hf.hid XD
          clear LD XD hpu hms
          go_wp2_with fail
          refine hnx.mono ?_
          rintro e w30 ⟨b3, t3, k3, R3, tag3, rfl, L30, N30, p31, p32⟩
          have X30 := HXD.out.nx N30 (by decide)
          obtain ⟨z0, z1, z2, z3⟩ := X30.cells
          obtain ⟨f0, f1, f2, f3⟩ := X30.fz
          have hz30 := X30.lt
          have H31 := Hf.hid (L30.set X30 t3)
          have HP3 : Hid ((b3 = true → ((t3, k3) :: R3).Perm LI ∧ ∀ x ∈ R3, Hf.kf t3 < Hf.kf x.1 ∨ (Hf.kf t3 = Hf.kf x.1 ∧ k3 < x.2)) ∧ (b3 = false → LI = [] ∧ R3 = [])) := ⟨p31, p32⟩
          clear L30 N30 p31 p32 X30 hnx
          go_wp2_with fail
          go_roundg gk
          case measure => omega
          case rel => exact ⟨tag3, _, R3, LI, ni, _, b3, t3, k3, rfl, rfl, ⟨H31.out.1, H31.out.2, HPU.out.1, HPU.out.2⟩, HP3.out⟩
end Go.Proofs.YtdnnfgabdkkdjaaGreat.Lf

namespace Go.Proofs.YtdnnfgabdkkdjaaGreat.Lf
open Go.RowKit Go.Sort Pt
open Df (hid Con Pth PthT LV EC ls_atC owns_form owns_caps owns_ne_own owns_ne_blk tk_store tk_lt)
attribute [local go_sem ↓] Go.wp_at_zero Go.wp_at_succ
structure Fr (w : World) (gg n : Nat) (vs : List LV) (rows : Nat → List Tri) (ov : Value) (L : List Hf.Th) (W : World) : Prop where
 bl : Below w.heap.size w W
 ln : vs.length = n
 rw : Fw Pc.ET 39 35 w.heap.size W (.slice (some ⟨gg, 0, none⟩) n n) vs rows
 op : W.ownsRow w.heap.size 162 4 ov L.length (fl EF L)
theorem Fr.below {w W W' : World} {gg n : Nat} {vs : List LV} {rows : Nat → List Tri} {ov : Value} {L : List Hf.Th} (h : Fr w gg n vs rows ov L W) (hb : Below W.heap.size W W') : Fr w gg n vs rows ov L W' :=
 ⟨h.bl.trans (hb.mono h.bl.size), h.ln, h.rw.below hb, owns_below h.op hb⟩
theorem Fr.app {w W W1 : World} {gg n g cap : Nat} {vs : List LV} {rows : Nat → List Tri} {ov : Value} {L : List Hf.Th} {y : Hf.Th} (h : Fr w gg n vs rows ov L W) (h1 : W1.ownsRow w.heap.size 162 4 (.slice (some ⟨g, 0, none⟩) (L.length + 1) cap) (L.length + 1) (fl EF L ++ EF.enc y)) (h2 : W.grownBy W1 ov.ownBlock) : Fr w gg n vs rows (.slice (some ⟨g, 0, none⟩) (L ++ [y]).length cap) (L ++ [y]) W1 := by
 have hK : Kp (fun k => ov.ownBlock = some k) W W1 := Kp.grownBy h2 (fun _ h => h)
 refine ⟨h.bl.trans (hK.below h.bl.size (fun k hk => (h.op.lt k hk).1)), h.ln, ⟨owns_kp hK h.rw.row (fun k e e2 => owns_ne_own h.rw.row h.op (by decide) k e e2), fun k x hx => owns_kp hK (h.rw.each k x hx) (fun j e e2 => owns_ne_own (h.rw.each k x hx) h.op (by decide) j e e2), h.rw.apart⟩, ?_⟩
 rw [List.length_append, List.length_singleton]
 exact owns_re h1 rfl (by rw [fl_append, fl_one])
def itL (L : List Hf.Th) : List Hf.It := L.map (fun x => (x, 0))
theorem itL_len (L : List Hf.Th) : (itL L).length = L.length := by simp [itL]
theorem itL_app (L : List Hf.Th) (x : Hf.Th) : itL (L ++ [x]) = itL L ++ [(x, 0)] := by simp [itL]
theorem itL_mem {L : List Hf.Th} {x : Hf.It} : x ∈ itL L ↔ x.1 ∈ L ∧ x.2 = 0 := by
 unfold itL
 rw [List.mem_map]
 constructor
 ·rintro ⟨y, hy, rfl⟩
  exact ⟨hy, rfl⟩
 ·rintro ⟨h1, h2⟩
  exact ⟨x.1, h1, by rw [← h2]⟩
theorem itL_cut {L : List Hf.Th} {k : Nat} {t : Hf.Th} (h : L[k]? = some t) : ((t, 0) :: itL (L.take k ++ L.drop (k + 1))).Perm (itL L) := by
 obtain ⟨hk, rfl⟩ := List.getElem?_eq_some_iff.1 h
 have e : L = L.take k ++ L[k] :: L.drop (k + 1) := by rw [← List.drop_eq_getElem_cons hk, List.take_append_drop]
 have e2 : itL L = itL (L.take k) ++ (L[k], 0) :: itL (L.drop (k + 1)) := by
  rw [show itL L = itL (L.take k ++ L[k] :: L.drop (k + 1)) from congrArg itL e]
  unfold itL
  rw [List.map_append, List.map_cons]
 have e3 : itL (L.take k ++ L.drop (k + 1)) = itL (L.take k) ++ itL (L.drop (k + 1)) := by simp [itL]
 rw [e2, e3]
 exact List.perm_middle.symm
theorem itL_out {L : List Hf.Th} {t : Tri} (h : ∀ y ∈ L, ¬ PX.tld y.2 t) : ∀ q b, (q, b) ∈ opn (itL L) → ¬ PX.tld b t := fun q b hm => by
 unfold opn at hm
 obtain ⟨x, h1, h2⟩ := List.mem_map.1 hm
 simp only [Prod.mk.injEq] at h2
 rw [← h2.2]
 exact h x.1 (itL_mem.1 h1).1
def FrA (w : World) (l : List Con) (n p : Nat) (e : Ending) (w' : World) : Prop := Below w.heap.size w w' ∧ ∃ r, Res PX (Sts (ssL n l)) p r ∧ ((r = none ∧ e = .returned (.tuple #[.slice none 0 0, .bool false])) ∨ ∃ rows gs vs, r = some rows ∧ e = .returned (.tuple #[.slice (some ⟨gs, 0, none⟩) n n, .bool true]) ∧ Fw Pc.ET 39 35 w.heap.size w' (.slice (some ⟨gs, 0, none⟩) n n) vs rows ∧ vs.length = n)
theorem infoPl : (Tryz.prog.info? 35).map (fun i => (i.zero, i.size, i.bytes)) = some (some (.slice none 0 0), 1, 24) := by kernel_rfl
theorem infoPth : (Tryz.prog.info? 39).map (fun i => (i.zero, i.size, i.bytes)) = some (some (.agg #[.int .u64 0, .int .u64 0, .int .u64 0]), 3, 24) := by kernel_rfl
set_option maxRecDepth 100000 in
set_option maxHeartbeats 8000000 in
theorem rfrom_any {sv : Value} {l : List Con} {n p : Nat} (w : World) (hS : Ls EC w sv l) (hpt : ∀ c ∈ l, PthT c.via) (hlt : ∀ c ∈ l, (∃ p : Nat, p < n ∧ c.inn = (p : Int)) ∧ ∃ q : Nat, q < n ∧ c.out = (q : Int)) (hp : p < n) (hn : n ≤ 192) (hl : l.length ≤ 432) :
    Calls Tryz.prog 62 #[sv, .int .i64 n, .int .i64 p] w (FrA w l n p) := by
 have hmx : Tryz.prog.follows .mixedOrders = true := by kernel_rfl
 obtain ⟨ps, cs0, rfl⟩ := hS.form
 have HS := hid hS
 have HPT := hid hpt
 have HLT := hid hlt
 have HPL := hid hp
 have hssl : (ssL n l).length = n := ssL_len n l
 have HSSL := hid hssl
 have HMM : Hid ((64 * (ssL n l).length * (432 + 1) + 2) * 40 ≤ 140737488355328) := by
  rw [hssl]
  have : 64 * n * (432 + 1) ≤ 64 * 192 * (432 + 1) := Nat.mul_le_mul (Nat.mul_le_mul (Nat.le_refl _) hn) (Nat.le_refl _)
  show _ ≤ _
  omega
 clear hS hpt hlt hp hssl
 obtain ⟨i0, hi0, hz0, hz1, hz2⟩ := info_parts infoPl
 go_enter Tryz.func62, Tryz.ntmps62
 go_upto_region 2 with (at_make; refine wpList_make_full _ rfl _ _ 42 rfl w.heap.size 35 i0 (.slice none 0 0) 1 Tryz.underlying42 hi0 hz0 hz1 _ _ _ _ n rfl rfl rfl rfl (by rw [hz2]; omega) (by unfold maxLen; omega) (Nat.le_refl _) ?_; intro w1 hrow hg1)
 have hb1 : Below w.heap.size w w1 := (Kp.grownBy (S := fun _ => False) hg1 (fun _ h => by cases h)).below (Nat.le_refl _) (fun _ h => h.elim)
 have HF1 := hid (Fw.made Pc.ET 39 35 hrow)
 have HO1 := hid (World.ownsRow_lit (base := w.heap.size) (size := 4) (e := 162) w1 #[.int .i64 (p : Int), .int .u64 0, .int .u64 0, .int .u64 0] 1 hb1.size (by decide) rfl)
 obtain ⟨ob, hob⟩ : ∃ b, b = w1.heap.size := ⟨_, rfl⟩
 obtain ⟨W2, hW2⟩ : ∃ W, W = w1.alloc (.cells #[.int .i64 (p : Int), .int .u64 0, .int .u64 0, .int .u64 0] 162) := ⟨_, rfl⟩
 obtain ⟨gg, hgg⟩ : ∃ g, g = w.heap.size := ⟨_, rfl⟩
 have S2 : Hid (Fr w gg n (List.replicate n ⟨none, 0, 0⟩) (fun _ => []) (.slice (some ⟨ob, 0, none⟩) 1 1) [((p : Int), PX.z)] W2) := by
  have g5 := ((Gr.refl w1).alloc (.cells #[.int .i64 (p : Int), .int .u64 0, .int .u64 0, .int .u64 0] 162)).below
  rw [hW2, hob, hgg]
  exact ⟨hb1.trans (g5.mono hb1.size), by simp, HF1.out.below g5, HO1.out⟩
 have HW2 : Hid (w1.alloc (.cells #[.int .i64 (p : Int), .int .u64 0, .int .u64 0, .int .u64 0] 162) = W2 ∧ w1.heap.size = ob ∧ w.heap.size = gg) := ⟨hW2.symm, hob.symm, hgg.symm⟩
 clear hrow hg1 hi0 hz0 hz1 hz2 hb1 HF1 HO1 hW2 hob hgg
 go_wp2_with fail
 rw [HW2.out.1, HW2.out.2.1, HW2.out.2.2]
 clear HW2
 go_loopg [9, 10, 11, 12, 13, 14] (64 * (ssL n l).length * (432 + 1) + 1) (fun gk s9 _ _ _ _ _ wx => ∃ (vs : List LV) (rows : Nat → List Tri) (L : List Hf.Th) (np : Nat) (pq : Option Addr) (cq : Nat), s9 = .slice pq L.length cq ∧ Hid (Fr w gg n vs rows (.slice pq L.length cq) L wx ∧ Pu (ssL n l) p 432 rows (itL L) np ∧ mes (ssL n l).length 432 rows (itL L).length ≤ gk))
 case atStart => exact ⟨_, fun _ => [], [((p : Int), PX.z)], 1, _, _, rfl, S2.out, Pu.init (by rw [HSSL.out]; exact HPL.out), Nat.le_of_eq mes_init⟩
 case round =>
  clear S2
  obtain ⟨vs, rows, L, np, pq, cq, rfl, HI⟩ := hrel
  by_cases hL0 : L = []
  ·subst hL0
   have FIN : Hid (FrA w l n p (.returned (.tuple #[.slice (some ⟨gg, 0, none⟩) n n, .bool true])) wr) := ⟨HI.out.1.bl, some rows, HI.out.2.1.fin, Or.inr ⟨rows, gg, vs, rfl, rfl, HI.out.1.rw, HI.out.1.ln⟩⟩
   go_wp2
   refine bodyPost_ret (v := .tuple #[.slice (some ⟨gg, 0, none⟩) n n, .bool true]) (by simp [results, Tryz.results62, go_sem]) rfl ?_
   exact FIN.out
  ·have hlp : 0 < L.length := List.length_pos_iff.2 hL0
   have hlz : (0 : Int) < (L.length : Int) := by omega
   have hbd := HI.out.2.1.bd HMM.out
   rw [itL_len] at hbd
   have hf := rfirst_any wr HI.out.1.op hL0 (by omega)
   obtain ⟨gk, rfl⟩ : ∃ g', gk = g' + 1 := ⟨gk - 1, by
    have h1 := HI.out.2.2
    have h3 := mes_ge (n := (ssL n l).length) (d := 432) (k := (itL L).length) (rows := rows)
    rw [itL_len] at h1 h3
    omega⟩
   clear hbd hL0
   go_wp2_with fail
   refine hf.mono ?_
   clear hf
   rintro e w4 ⟨kk, ⟨t1, t2⟩, v4, hk4, hm4, rfl, ho4, hb4⟩
   obtain ⟨q0, hq0, e0⟩ := HI.out.2.1.rg (((t1, t2) : Hf.Th), 0) (itL_mem.2 ⟨List.mem_of_getElem? hk4, rfl⟩)
   simp only at e0
   subst e0
   rw [HSSL.out] at hq0
   obtain ⟨L1, hL1⟩ : ∃ L1, L1 = L.take kk ++ L.drop (kk + 1) := ⟨_, rfl⟩
   have HL1 : Hid (L1.length + 1 = L.length) := by
    show _ = _
    have := (List.getElem?_eq_some_iff.1 hk4).1
    rw [hL1, List.length_append, List.length_take, List.length_drop]
    omega
   have HPM : Hid (((((q0 : Int), t2), 0) :: itL L1).Perm (itL L)) := by rw [hL1]; exact itL_cut hk4
   have HOU : Hid (∀ q b, (q, b) ∈ opn (itL L) → ¬ PX.tld b t2) := itL_out hm4
   rw [← hL1] at ho4
   have ho4' : w4.ownsRow wr.heap.size 162 4 v4 L1.length (fl EF L1) := owns_re ho4 (by have := HL1.out; omega) rfl
   clear ho4
   obtain ⟨p4, m4, c4, hv4⟩ := owns_form ho4'
   subst hv4
   obtain ⟨rfl, hcap4⟩ := owns_caps ho4' _ _ _ rfl
   obtain ⟨tb, htb⟩ : ∃ b, b = w4.heap.size := ⟨_, rfl⟩
   obtain ⟨W5, hW5⟩ : ∃ W, W = w4.alloc (.cells #[.int .i64 (q0 : Int), .int .u64 t2.1.1, .int .u64 t2.1.2.1, .int .u64 t2.1.2.2] 162) := ⟨_, rfl⟩
   have P5 : Hid (Fr w gg n vs rows (.slice p4 L1.length c4) L1 W5 ∧ W5.heap[tb]? = some (.cells #[.int .i64 (q0 : Int), .int .u64 t2.1.1, .int .u64 t2.1.2.1, .int .u64 t2.1.2.2] 162 (0, 0)) ∧ ∀ k, (Value.slice p4 L1.length c4).ownBlock = some k → k ≠ tb) := by
    have g5 := ((Gr.refl w4).alloc (.cells #[.int .i64 (q0 : Int), .int .u64 t2.1.1, .int .u64 t2.1.2.1, .int .u64 t2.1.2.2] 162)).below
    have F4 := HI.out.1.below hb4
    rw [hW5, htb]
    refine ⟨(⟨F4.bl, F4.ln, F4.rw, owns_base ho4' HI.out.1.bl.size⟩ : Fr w gg n vs rows (.slice p4 L1.length c4) L1 w4).below g5, heap_new' _ _, fun k hk e => ?_⟩
    have := (ho4'.lt k hk).2
    omega
   have HW5 : Hid (w4.alloc (.cells #[.int .i64 (q0 : Int), .int .u64 t2.1.1, .int .u64 t2.1.2.1, .int .u64 t2.1.2.2] 162) = W5 ∧ w4.heap.size = tb) := ⟨hW5.symm, htb.symm⟩
   have HPU := hid HI.out.2
   clear hW5 htb hb4 hk4 hm4 hL1 ho4' HI hcap4
   go_upto_region 6 with fail
   rw [HW5.out.1, HW5.out.2]
   clear HW5
   have hq0z : (q0 : Int) < (n : Int) := by omega
   have hq00 : (0 : Int) ≤ (q0 : Int) := by omega
   obtain ⟨⟨xq, xm, xc⟩, hx1, hx2, hx3, hx4, hx5⟩ := P5.out.1.rw.cell P5.out.1.ln hq0
   simp only at hx4
   subst hx4
   obtain ⟨cq, hcq⟩ : ∃ b, b = ccov Pc.bel (rows q0) t2 := ⟨_, rfl⟩
   have h64r := HPU.out.1.sm q0
   have hcov : ∀ W, Below W5.heap.size W5 W → Calls Tryz.prog 102 #[.slice xq (rows q0).length xc, .agg #[.int .u64 t2.1.1, .int .u64 t2.1.2.1, .int .u64 t2.1.2.2]] W fun e w' => e = .returned (.bool cq) ∧ Below W.heap.size W w' := fun W hW => by
    rw [hcq]
    exact (rcov_any _ (rows q0) t2 W ((owns_ls (E := Pc.ET) hx5).below hW) (by omega)).mono (fun e w' h => ⟨h.1, h.2.below⟩)
   have HCQ := hid hcq
   clear hcq
   have HX : Hid (vs[q0]? = some ⟨xq, (rows q0).length, xc⟩ ∧ W5.ownsRow w.heap.size 39 3 (.slice xq (rows q0).length xc) (rows q0).length (fl Pc.ET (rows q0))) := ⟨hx1, hx5⟩
   have HSB : Hid (∀ W, Below W5.heap.size W5 W → W.cell? ⟨gg, q0, none⟩ = some (.slice xq (rows q0).length xc) ∧ W.cell? ⟨tb, 0, none⟩ = some (.int .i64 (q0 : Int)) ∧ W.cell? ⟨tb, 1, none⟩ = some (.int .u64 t2.1.1) ∧ W.cell? ⟨tb, 2, none⟩ = some (.int .u64 t2.1.2.1) ∧ W.cell? ⟨tb, 3, none⟩ = some (.int .u64 t2.1.2.2) ∧ gg < W.heap.size ∧ tb < W.heap.size) := fun W hb => by
    have h1 := (hb.block _ (tk_lt P5.out.2.1)).trans P5.out.2.1
    have h3 := (tk_store h1).1
    exact ⟨(hb.cell (p := ⟨gg, q0, none⟩) hx3).trans hx2, h3 0, h3 1, h3 2, h3 3, Nat.lt_of_lt_of_le hx3 hb.size, tk_lt h1⟩
   clear hx1 hx2 hx3 hx5
   have HB0 : Hid (Below W5.heap.size W5 W5.drew) := (Gr.refl W5).drew.below
   have S0 := HSB.out _ HB0.out
   generalize hrl : (rows q0).length = rl at *
   have HRL := hid hrl
   clear hrl
   go_cut [36] (fun s36 wq => s36 = .bool cq ∧ Hid (Below W5.heap.size W5 wq))
   case first =>
    go_region_held3 (fun W => W.cell? ⟨gg, q0, none⟩ = some (.slice xq rl xc) ∧ W.cell? ⟨tb, 0, none⟩ = some (.int .i64 (q0 : Int)) ∧ W.cell? ⟨tb, 1, none⟩ = some (.int .u64 t2.1.1) ∧ W.cell? ⟨tb, 2, none⟩ = some (.int .u64 t2.1.2.1) ∧ W.cell? ⟨tb, 3, none⟩ = some (.int .u64 t2.1.2.2) ∧ gg < W.heap.size ∧ tb < W.heap.size)
     (first | exact S0 | assumption)
     (first | (go_at_call 102; refine (hcov _ HB0.out).mono ?_; rintro e w6 ⟨rfl, hb6⟩; have hS6 := HSB.out _ (HB0.out.trans (hb6.mono HB0.out.size))))
    go_wp2_with fail
    go_meet
    exact ⟨rfl, HB0.out.trans (hb6.mono HB0.out.size)⟩
   case rest =>
    obtain ⟨rfl, HC⟩ := hcut
    clear S0 hcov
    cases cq with
    | true =>
     have HNX : Hid (Fr w gg n vs rows (.slice p4 L1.length c4) L1 wc ∧ Pu (ssL n l) p 432 rows (itL L1) np ∧ mes (ssL n l).length 432 rows (itL L1).length ≤ gk) := by
      obtain ⟨h1, h2⟩ := HPU.out.1.skip HPM.out ((ccov_iff Pc.bel_px _ _).1 HCQ.out.symm)
      exact ⟨P5.out.1.below HC.out, h1, by have := HPU.out.2; omega⟩
     go_wp2_with fail
     go_roundg gk
     case measure => omega
     case rel => exact ⟨vs, rows, L1, np, p4, c4, rfl, HNX.out⟩
    | false =>
     have HNC : Hid (¬ Cov PX (rows q0) t2) := fun h => by
      have := (ccov_iff Pc.bel_px _ _).2 h
      rw [← HCQ.out] at this
      cases this
     obtain ⟨W6, hW6⟩ : ∃ W, W = wc := ⟨_, rfl⟩
     rw [← hW6] at HC ⊢
     clear hW6
     go_upto_region 7 with fail
     have HFW := hid ((P5.out.1.below HC.out).rw)
     have HRW := hid (owns_below HX.out.2 HC.out)
     have HBL := hid ((P5.out.1.below HC.out).bl)
     have HD : Hid (W6.heap[tb]? = some (.cells #[.int .i64 (q0 : Int), .int .u64 t2.1.1, .int .u64 t2.1.2.1, .int .u64 t2.1.2.2] 162 (0, 0))) := (HC.out.block _ (tk_lt P5.out.2.1)).trans P5.out.2.1
     have hB0 : Below W6.heap.size W6 W6.drew := (Gr.refl W6).drew.below
     have HSC : Hid (∀ W, Below W6.heap.size W6 W → W.cell? ⟨gg, q0, none⟩ = some (.slice xq rl xc) ∧ gg < W.heap.size ∧ W.heap[tb]? = some (.cells #[.int .i64 (q0 : Int), .int .u64 t2.1.1, .int .u64 t2.1.2.1, .int .u64 t2.1.2.2] 162 (0, 0))) := fun W hb => by
      have hb5 := HC.out.trans (hb.mono HC.out.size)
      obtain ⟨a0, a1, a2, a3, a4, a5, a6⟩ := HSB.out W hb5
      exact ⟨a0, a5, (hb.block _ (tk_lt HD.out)).trans HD.out⟩
     have hS0 := HSC.out _ hB0
     refine wp_regionD (S := fun W => W.cell? ⟨gg, q0, none⟩ = some (.slice xq rl xc) ∧ gg < W.heap.size ∧ W.heap[tb]? = some (.cells #[.int .i64 (q0 : Int), .int .u64 t2.1.1, .int .u64 t2.1.2.1, .int .u64 t2.1.2.2] 162 (0, 0))) (D := [13]) hmx ?_
     refine' wpAnyD_take (i := 0) (oi := ⟨some 37, .move (.tmp 8), 42, "ref.go:88", #[], none⟩) (v := _) rfl (by kernel_rfl) (by kernel_rfl) (by kernel_rfl) (fun _ _ _ h => h) (by kernel_rfl) (Or.inl ⟨by rfl, ?hy1⟩) hS0 ?rest1
     case hy1 => (intro W hSw; go_simp; try (with_reducible rfl))
     try simp only [Act.put, List.setIfInBounds_toArray, List.set_cons_zero, List.set_cons_succ]
     refine' wpAnyD_take (i := 1) (oi := ⟨some 38, .fieldAddr 162 (.tmp 10) 0, 0, "ref.go:88", #[], none⟩) (v := _) rfl (by kernel_rfl) (by kernel_rfl) (by kernel_rfl) (fun _ _ _ h => h) (by kernel_rfl) (Or.inl ⟨by rfl, ?hy2⟩) hS0 ?rest2
     case hy2 => (intro W hSw; go_simp; try (with_reducible rfl))
     try simp only [Act.put, List.setIfInBounds_toArray, List.set_cons_zero, List.set_cons_succ]
     refine' wpAnyD_take (i := 2) (oi := ⟨some 39, .load 3 (.tmp 38), 3, "ref.go:88", #[⟨1, .data⟩], none⟩) (v := _) rfl (by kernel_rfl) (by kernel_rfl) (by kernel_rfl) (fun _ _ _ h => h) (by kernel_rfl) (Or.inl ⟨by rfl, ?hy3⟩) hS0 ?rest3
     case hy3 => (intro W hSw; have hc := (tk_store hSw.2.2).1; have hl := tk_lt hSw.2.2; go_simp; try (with_reducible rfl))
     try simp only [Act.put, List.setIfInBounds_toArray, List.set_cons_zero, List.set_cons_succ]
     refine' wpAnyD_take (i := 3) (oi := ⟨some 40, .move (.tmp 8), 42, "ref.go:88", #[], none⟩) (v := _) rfl (by kernel_rfl) (by kernel_rfl) (by kernel_rfl) (fun _ _ _ h => h) (by kernel_rfl) (Or.inl ⟨by rfl, ?hy4⟩) hS0 ?rest4
     case hy4 => (intro W hSw; go_simp; try (with_reducible rfl))
     try simp only [Act.put, List.setIfInBounds_toArray, List.set_cons_zero, List.set_cons_succ]
     refine' wpAnyD_take (i := 4) (oi := ⟨some 41, .fieldAddr 162 (.tmp 10) 0, 0, "ref.go:88", #[], none⟩) (v := _) rfl (by kernel_rfl) (by kernel_rfl) (by kernel_rfl) (fun _ _ _ h => h) (by kernel_rfl) (Or.inl ⟨by rfl, ?hy5⟩) hS0 ?rest5
     case hy5 => (intro W hSw; go_simp; try (with_reducible rfl))
     try simp only [Act.put, List.setIfInBounds_toArray, List.set_cons_zero, List.set_cons_succ]
     refine' wpAnyD_take (i := 5) (oi := ⟨some 42, .load 3 (.tmp 41), 3, "ref.go:88", #[⟨4, .data⟩], none⟩) (v := _) rfl (by kernel_rfl) (by kernel_rfl) (by kernel_rfl) (fun _ _ _ h => h) (by kernel_rfl) (Or.inl ⟨by rfl, ?hy6⟩) hS0 ?rest6
     case hy6 => (intro W hSw; have hc := (tk_store hSw.2.2).1; have hl := tk_lt hSw.2.2; go_simp; try (with_reducible rfl))
     try simp only [Act.put, List.setIfInBounds_toArray, List.set_cons_zero, List.set_cons_succ]
     refine' wpAnyD_take (i := 6) (oi := ⟨some 43, .indexAddr 42 (.tmp 40) (.tmp 42), 0, "ref.go:88", #[⟨3, .data⟩, ⟨5, .data⟩], none⟩) (v := _) rfl (by kernel_rfl) (by kernel_rfl) (by kernel_rfl) (fun _ _ _ h => h) (by kernel_rfl) (Or.inl ⟨by rfl, ?hy7⟩) hS0 ?rest7
     case hy7 => (intro W hSw; go_simp; try (with_reducible rfl))
     try simp only [Act.put, List.setIfInBounds_toArray, List.set_cons_zero, List.set_cons_succ]
     refine' wpAnyD_take (i := 7) (oi := ⟨some 44, .load 35 (.tmp 43), 35, "ref.go:88", #[⟨6, .data⟩], none⟩) (v := _) rfl (by kernel_rfl) (by kernel_rfl) (by kernel_rfl) (fun _ _ _ h => h) (by kernel_rfl) (Or.inl ⟨by rfl, ?hy8⟩) hS0 ?rest8
     case hy8 => (intro W hSw; have hc := hSw.1; have hl := hSw.2.1; go_simp; try (with_reducible rfl))
     try simp only [Act.put, List.setIfInBounds_toArray, List.set_cons_zero, List.set_cons_succ]
     refine' wpAnyD_take (i := 8) (oi := ⟨some 45, .fieldAddr 162 (.tmp 10) 1, 0, "ref.go:88", #[], none⟩) (v := _) rfl (by kernel_rfl) (by kernel_rfl) (by kernel_rfl) (fun _ _ _ h => h) (by kernel_rfl) (Or.inl ⟨by rfl, ?hy9⟩) hS0 ?rest9
     case hy9 => (intro W hSw; go_simp; try (with_reducible rfl))
     try simp only [Act.put, List.setIfInBounds_toArray, List.set_cons_zero, List.set_cons_succ]
     refine' wpAnyD_take (i := 9) (oi := ⟨some 46, .load 39 (.tmp 45), 39, "ref.go:88", #[⟨8, .data⟩], none⟩) (v := _) rfl (by kernel_rfl) (by kernel_rfl) (by kernel_rfl) (fun _ _ _ h => h) (by kernel_rfl) (Or.inl ⟨by rfl, ?hy10⟩) hS0 ?rest10
     case hy10 => (intro W hSw; have hc := (tk_store hSw.2.2).1; have hl := tk_lt hSw.2.2; go_simp; try (with_reducible rfl))
     try simp only [Act.put, List.setIfInBounds_toArray, List.set_cons_zero, List.set_cons_succ]
     refine wpAnyD_one (i := 10) (o := ⟨some 47, .buildSlice 35 1 #[(0, .tmp 46)], 35, "ref.go:88", #[⟨9, .data⟩], none⟩) (by kernel_rfl) rfl (fun K hK => ?_)
     go_simp
     have hS8 : Below W6.heap.size W6 (W6.drew.alloc (.cells #[.int .u64 t2.1.1, .int .u64 t2.1.2.1, .int .u64 t2.1.2.2] 39)) := hB0.trans (((Gr.refl W6.drew).alloc _).below.mono hB0.size)
     refine hK.out _ _ (fun hD => (HSC.out _ hS8)) ?_
     clear hK K
     try simp only [Act.put, List.setIfInBounds_toArray, List.set_cons_zero, List.set_cons_succ]
     refine wpAnyD_one (i := 11) (o := ⟨some 48, .call ⟨.builtin .append, #[.tmp 44, .tmp 47], #[35, 35]⟩, 35, "ref.go:88", #[⟨7, .data⟩, ⟨10, .data⟩], none⟩) (by kernel_rfl) rfl (fun K hK => ?_)
     refine step_app1 Pc.ET Tryz.underlying35 infoPth rfl (by decide) rfl _ _ rfl w.heap.size (.slice xq rl xc) rl (fl Pc.ET (rows q0)) rfl (owns_below HRW.out hB0) t2 (by first | rfl | simp) (by omega) (by unfold maxLen; omega) (Nat.le_trans HBL.out.size hB0.size) _ rfl _ ?_
     intro g8 cap8 w8 h8 k8 n8
     have ST : Hid (Fr w gg n (vs.set q0 ⟨some ⟨g8, 0, none⟩, rl + 1, cap8⟩) (put1 rows q0 t2) (.slice p4 L1.length c4) L1 (w8.setCell ⟨gg, q0, none⟩ (.slice (some ⟨g8, 0, none⟩) (rl + 1) cap8)) ∧ (w8.setCell ⟨gg, q0, none⟩ (.slice (some ⟨g8, 0, none⟩) (rl + 1) cap8)).heap[tb]? = some (.cells #[.int .i64 (q0 : Int), .int .u64 t2.1.1, .int .u64 t2.1.2.1, .int .u64 t2.1.2.2] 162 (0, 0)) ∧ (w8.setCell ⟨gg, q0, none⟩ (.slice (some ⟨g8, 0, none⟩) (rl + 1) cap8)).cell? ⟨gg, q0, none⟩ = some (.slice (some ⟨g8, 0, none⟩) (rl + 1) cap8)) := by
      have hf := HFW.out.below hB0
      have h8o := h8.out
      have k8o := k8.out
      have n8o := n8.out
      have hx := HX.out.1
      rw [← HRL.out] at h8o k8o n8o hx ⊢
      obtain ⟨h1, h2⟩ := hf.step (by decide) hx (by rw [P5.out.1.ln]) h8o k8o n8o
      have hop := hf.other hx h2 (owns_below (owns_below P5.out.1.op HC.out) hB0) (by decide) (by decide)
      have hF : Fw Pc.ET 39 35 w.heap.size _ _ _ (put1 rows q0 t2) := h1.re (fun k _ => by
       unfold put1
       by_cases e : k = q0
       ·subst e; simp
       ·rw [if_neg e, if_neg e])
      have hbx := (HSC.out _ hB0).2.2
      refine ⟨⟨(HBL.out.trans (hB0.mono HBL.out.size)).trans (h2.below (Nat.le_trans HBL.out.size hB0.size) (hf.blocks hx)), by rw [List.length_set]; exact P5.out.1.ln, hF, hop⟩, (h2.block _ (tk_lt hbx) (fun e => ?_)).trans hbx, ?_⟩
      ·rcases e with e | e
       ·exact owns_ne_blk hf.row hbx (by decide) tb e rfl
       ·exact owns_ne_blk (hf.each q0 _ hx) hbx (by decide) tb e rfl
      ·obtain ⟨x9, a1, a2, -, -, -⟩ := hF.cell (by rw [List.length_set]; exact P5.out.1.ln) hq0
       rw [List.getElem?_set, if_pos rfl, if_pos (List.getElem?_eq_some_iff.1 hx).1] at a1
       cases a1
       exact a2
     have hb8 := (Kp.grownBy (S := fun k => (Value.slice xq rl xc).ownBlock = some k) k8.out (fun _ h => h))
     have F8 : Hid (w8.frozen? ⟨gg, q0, none⟩ = false ∧ gg < w8.heap.size ∧ w8.cell? ⟨gg, q0, none⟩ = some (.slice xq rl xc) ∧ w8.heap[tb]? = some (.cells #[.int .i64 (q0 : Int), .int .u64 t2.1.1, .int .u64 t2.1.2.1, .int .u64 t2.1.2.2] 162 (0, 0))) := by
      have hf := HFW.out.below hB0
      have hne := owns_ne_own hf.row (hf.each q0 _ HX.out.1) (by decide)
      have hr8 := owns_kp hb8 hf.row (fun j e e2 => hne j e e2)
      rw [P5.out.1.ln] at hr8
      obtain ⟨s1, s2, s3⟩ := HSC.out _ hB0
      exact ⟨hr8.frozenAt _, Nat.lt_of_lt_of_le s2 hb8.size, (hb8.cell s2 (fun e => hne gg rfl e)).trans s1, (hb8.block _ (tk_lt s3) (fun e => owns_ne_blk (owns_below HRW.out hB0) s3 (by decide) tb e rfl)).trans s3⟩
     clear h8 k8 n8 hb8
     generalize hrl1 : rl + 1 = rl1 at ST ⊢
     have HRL1 := hid hrl1
     clear hrl1
     refine hK.out _ _ (fun hD => ⟨F8.out.2.2.1, F8.out.2.1, F8.out.2.2.2⟩) ?_
     clear hK K
     try simp only [Act.put, List.setIfInBounds_toArray, List.set_cons_zero, List.set_cons_succ]
     refine' wpAnyD_take (i := 12) (oi := ⟨some 49, .indexAddr 42 (.tmp 37) (.tmp 39), 0, "ref.go:88", #[⟨0, .data⟩, ⟨2, .data⟩, ⟨0, .phase⟩, ⟨1, .phase⟩, ⟨2, .phase⟩, ⟨3, .phase⟩, ⟨4, .phase⟩, ⟨5, .phase⟩, ⟨6, .phase⟩, ⟨7, .phase⟩, ⟨8, .phase⟩, ⟨9, .phase⟩, ⟨10, .phase⟩, ⟨11, .phase⟩], none⟩) (v := _) rfl (by kernel_rfl) (by kernel_rfl) (by kernel_rfl) (fun _ _ _ h => h) (by kernel_rfl) (Or.inl ⟨by rfl, ?hy13⟩) ⟨F8.out.2.2.1, F8.out.2.1, F8.out.2.2.2⟩ ?rest13
     case hy13 => (intro W hSw; go_simp; try (with_reducible rfl))
     try simp only [Act.put, List.setIfInBounds_toArray, List.set_cons_zero, List.set_cons_succ]
     refine wpAnyD_one (i := 13) (o := ⟨none, .store 35 (.tmp 49) (.tmp 48), 0, "ref.go:88", #[⟨12, .data⟩, ⟨11, .data⟩, ⟨11, .chain⟩, ⟨0, .phase⟩, ⟨1, .phase⟩, ⟨2, .phase⟩, ⟨3, .phase⟩, ⟨4, .phase⟩, ⟨5, .phase⟩, ⟨6, .phase⟩, ⟨7, .phase⟩, ⟨8, .phase⟩, ⟨9, .phase⟩, ⟨10, .phase⟩, ⟨11, .phase⟩], none⟩) (by kernel_rfl) rfl (fun K hK => ?_)
     have c8 := F8.out.2.2.1
     have f8 := F8.out.1
     have l8 := F8.out.2.1
     go_simp
     generalize (w8.setCell ⟨gg, q0, none⟩ (.slice (some ⟨g8, 0, none⟩) rl1 cap8)) = w9 at ST ⊢
     clear c8 f8 l8
     refine hK.out _ _ (fun hD => absurd (by decide) hD) ?_
     clear hK K
     try simp only [Act.put, List.setIfInBounds_toArray, List.set_cons_zero, List.set_cons_succ]
     refine wpAnyD_done (by kernel_rfl) ?_ _
     obtain ⟨vs2, hvs2⟩ : ∃ v, v = vs.set q0 ⟨some ⟨g8, 0, none⟩, rl1, cap8⟩ := ⟨_, rfl⟩
     rw [← hvs2] at ST
     have HAP : Hid (∀ k, (Value.slice p4 L1.length c4).ownBlock = some k → k ≠ tb) := P5.out.2.2
     clear hvs2 hS0 hB0 HSC HSB HFW HRW HBL HD HC HX P5 F8
     have y0 := (tk_store ST.out.2.1).1
     have ly := tk_lt ST.out.2.1
     have z0 := ST.out.2.2
     have lz : gg < w9.heap.size := (ST.out.1.rw.row.lt gg rfl).2
     by_cases h64 : 64 < rl1
     ·have h64z : (64 : Int) < (rl1 : Int) := by omega
      have FIN : Hid (FrA w l n p (.returned (.tuple #[.slice none 0 0, .bool false])) w9) := ⟨ST.out.1.bl, none, HPU.out.1.wideR HPM.out HOU.out HNC.out (by rw [HRL.out, HRL1.out]; exact h64), Or.inl ⟨rfl, rfl⟩⟩
      go_wp2
      refine bodyPost_ret (v := .tuple #[.slice none 0 0, .bool false]) (by simp [results, Tryz.results62, go_sem]) rfl ?_
      exact FIN.out
     ·have h64z : ¬ (64 : Int) < (rl1 : Int) := by omega
      have HI0 : Hid (Fr w gg n vs2 (put1 rows q0 t2) (.slice p4 L1.length c4) L1 w9 ∧ w9.heap[tb]? = some (.cells #[.int .i64 (q0 : Int), .int .u64 t2.1.1, .int .u64 t2.1.2.1, .int .u64 t2.1.2.2] 162 (0, 0)) ∧ (∀ k, (Value.slice p4 L1.length c4).ownBlock = some k → k ≠ tb) ∧ Inn (sfl l q0) n t2 (put1 rows q0 t2) (itL L1) (itL L1) (sfl (l.take 0) q0).length) := ⟨ST.out.1, ST.out.2.1, HAP.out, Inn.init (fun x hx => by
       have h := HPU.out.1.rg x (HPM.out.mem_iff.1 (List.mem_cons_of_mem _ hx))
       rw [HSSL.out] at h
       exact h)⟩
      clear ST HAP
      go_wp2_with fail
      clear y0 ly z0 lz
      go_loopw [9, 12, 13, 14] (fun s9 s12 _ _ wx => ∃ (i : Nat) (LI : List Hf.Th) (pi : Option Addr) (ci : Nat), i ≤ l.length ∧ s9 = .slice pi LI.length ci ∧ s12 = .int .i64 i ∧ Hid (Fr w gg n vs2 (put1 rows q0 t2) (.slice pi LI.length ci) LI wx ∧ wx.heap[tb]? = some (.cells #[.int .i64 (q0 : Int), .int .u64 t2.1.1, .int .u64 t2.1.2.1, .int .u64 t2.1.2.2] 162 (0, 0)) ∧ (∀ k, (Value.slice pi LI.length ci).ownBlock = some k → k ≠ tb) ∧ Inn (sfl l q0) n t2 (put1 rows q0 t2) (itL L1) (itL LI) (sfl (l.take i) q0).length)) (fun _ s12 _ _ _ => l.length - (RowKit.intOf s12).toNat)
      case atStart => exact ⟨0, L1, p4, c4, Nat.zero_le _, rfl, rfl, HI0.out⟩
      case round =>
       clear HI0
       obtain ⟨i, LI, pi, ci, hi, rfl, rfl, HI⟩ := hrel
       by_cases hil : i < l.length
       ·have hilz : (i : Int) < (l.length : Int) := by omega
        have hi00 : (0 : Int) ≤ (i : Int) := by omega
        obtain ⟨c, hc⟩ : ∃ c, l[i]? = some c := ⟨l[i], by simp⟩
        have HCC := hid hc
        have hmc := List.mem_of_getElem? hc
        obtain ⟨⟨pa, hpa, epa⟩, qx, hqx, eqx⟩ := HLT.out c hmc
        have HPV := hid (HPT.out c hmc)
        obtain ⟨b1, o1, q1, ev1, zz1, x0, x1, x2, x3, x4⟩ := ls_atC (HS.out.below HI.out.1.bl) hc
        simp only [Value.slice.injEq] at ev1
        obtain ⟨rfl, -, rfl⟩ := ev1
        rw [epa] at x0
        rw [eqx] at x1
        have HB1 : Hid (b1 < w.heap.size) := HS.out.blk b1 rfl
        clear hc hmc
        have y0 := (tk_store HI.out.2.1).1
        have ly := tk_lt HI.out.2.1
        by_cases hpq : pa = q0
        ·have hpq2 := hpq.symm
         subst hpq2
         clear hpq
         have hpqz : ((q0 : Int) != (q0 : Int)) = false := by simp
         go_wp2_with fail
         go_quiet (fail)
         obtain ⟨W13, hW13⟩ : ∃ W, W = wr.drewN nq := ⟨_, rfl⟩
         have H13 : Hid (Below wr.heap.size wr W13) := by rw [hW13]; exact ((Gr.refl wr).drewN nq).below
         rw [← hW13]
         clear hW13
         obtain ⟨cv, hcv⟩ : ∃ z, z = thv t2 (tri c.via) := ⟨_, rfl⟩
         obtain ⟨ok, hok⟩ : ∃ b, b = (thn3 t2 (tri c.via)).isSome := ⟨_, rfl⟩
         have hth : ∀ W, Calls Tryz.prog 14 #[.agg #[.int .u64 t2.1.1, .int .u64 t2.1.2.1, .int .u64 t2.1.2.2], .agg #[.int .u64 (c.via.1 : Nat), .int .u64 (c.via.2.1 : Nat), .int .u64 (c.via.2.2 : Nat)]] W fun e w' => e = .returned (.tuple #[.agg #[.int .u64 cv.1.1, .int .u64 cv.1.2.1, .int .u64 cv.1.2.2], .bool ok]) ∧ Gr W w' := fun W => by
          have h := rthen_any t2 (tri c.via) W
          obtain ⟨v1, v2, v3⟩ := tri_val HPV.out
          unfold Pc.tv at h
          rw [v1, v2, v3, ← hcv, ← hok] at h
          exact h
         have HCV : Hid (cv = thv t2 (tri c.via) ∧ ok = (thn3 t2 (tri c.via)).isSome) := ⟨hcv, hok⟩
         clear hcv hok
         have HSD : Hid (∀ W, Below W13.heap.size W13 W → W.cell? ⟨b1, o1 + i * 5 + 1, none⟩ = some (.int .i64 (qx : Int)) ∧ W.cell? ⟨b1, o1 + i * 5 + 2, none⟩ = some (.int .u64 (c.via.1 : Nat)) ∧ W.cell? ⟨b1, o1 + i * 5 + 3, none⟩ = some (.int .u64 (c.via.2.1 : Nat)) ∧ W.cell? ⟨b1, o1 + i * 5 + 4, none⟩ = some (.int .u64 (c.via.2.2 : Nat)) ∧ b1 < W.heap.size ∧ W.heap[tb]? = some (.cells #[.int .i64 (q0 : Int), .int .u64 t2.1.1, .int .u64 t2.1.2.1, .int .u64 t2.1.2.2] 162 (0, 0))) := fun W hb => by
          have hb2 := H13.out.trans (hb.mono H13.out.size)
          exact ⟨(hb2.cell (p := ⟨b1, o1 + i * 5 + 1, none⟩) zz1).trans x1, (hb2.cell (p := ⟨b1, o1 + i * 5 + 2, none⟩) zz1).trans x2, (hb2.cell (p := ⟨b1, o1 + i * 5 + 3, none⟩) zz1).trans x3, (hb2.cell (p := ⟨b1, o1 + i * 5 + 4, none⟩) zz1).trans x4, Nat.lt_of_lt_of_le zz1 hb2.size, (hb2.block _ (tk_lt HI.out.2.1)).trans HI.out.2.1⟩
         have HSO : Hid (∀ W, Below W13.heap.size W13 W → Fr w gg n vs2 (put1 rows q0 t2) (.slice pi LI.length ci) LI W) := fun W hb => HI.out.1.below (H13.out.trans (hb.mono H13.out.size))
         have HIN : Hid ((∀ k, (Value.slice pi LI.length ci).ownBlock = some k → k ≠ tb) ∧ Inn (sfl l q0) n t2 (put1 rows q0 t2) (itL L1) (itL LI) (sfl (l.take i) q0).length) := HI.out.2.2
         clear x0 x1 x2 x3 x4 y0 ly zz1 HI
         go_upto_region 14 with fail
         have hB0 : Below W13.heap.size W13 W13.drew := (Gr.refl W13).drew.below
         have hS0 := HSD.out _ hB0
         go_cut [13, 14] (fun s13 s14 wq => ∃ pb, s13 = .pointer (some ⟨pb, 0, none⟩) ∧ s14 = .bool ok ∧ Hid (Below W13.heap.size W13 wq ∧ wq.heap[pb]? = some (.cells #[.int .u64 cv.1.1, .int .u64 cv.1.2.1, .int .u64 cv.1.2.2] 39 (0, 0)) ∧ W13.heap.size ≤ pb))
         case first =>
          refine wp_regionD (S := fun W => W.cell? ⟨b1, o1 + i * 5 + 1, none⟩ = some (.int .i64 (qx : Int)) ∧ W.cell? ⟨b1, o1 + i * 5 + 2, none⟩ = some (.int .u64 (c.via.1 : Nat)) ∧ W.cell? ⟨b1, o1 + i * 5 + 3, none⟩ = some (.int .u64 (c.via.2.1 : Nat)) ∧ W.cell? ⟨b1, o1 + i * 5 + 4, none⟩ = some (.int .u64 (c.via.2.2 : Nat)) ∧ b1 < W.heap.size ∧ W.heap[tb]? = some (.cells #[.int .i64 (q0 : Int), .int .u64 t2.1.1, .int .u64 t2.1.2.1, .int .u64 t2.1.2.2] 162 (0, 0))) (D := []) hmx ?_
          refine' wpAnyD_take (i := 0) (oi := ⟨some 72, .fieldAddr 162 (.tmp 10) 1, 0, "ref.go:96", #[], none⟩) (v := _) rfl (by kernel_rfl) (by kernel_rfl) (by kernel_rfl) (fun _ _ _ h => h) (by kernel_rfl) (Or.inl ⟨by rfl, ?hy1001⟩) hS0 ?rest1001
          case hy1001 => (intro W hSw; go_simp; try (with_reducible rfl))
          try simp only [Act.put, List.setIfInBounds_toArray, List.set_cons_zero, List.set_cons_succ]
          refine' wpAnyD_take (i := 1) (oi := ⟨some 73, .load 39 (.tmp 72), 39, "ref.go:96", #[⟨0, .data⟩], none⟩) (v := _) rfl (by kernel_rfl) (by kernel_rfl) (by kernel_rfl) (fun _ _ _ h => h) (by kernel_rfl) (Or.inl ⟨by rfl, ?hy1002⟩) hS0 ?rest1002
          case hy1002 => (intro W hSw; have hc := (tk_store hSw.2.2.2.2.2).1; have hl := tk_lt hSw.2.2.2.2.2; go_simp; try (with_reducible rfl))
          try simp only [Act.put, List.setIfInBounds_toArray, List.set_cons_zero, List.set_cons_succ]
          refine' wpAnyD_take (i := 2) (oi := ⟨some 74, .move (.tmp 0), 40, "ref.go:96", #[], none⟩) (v := _) rfl (by kernel_rfl) (by kernel_rfl) (by kernel_rfl) (fun _ _ _ h => h) (by kernel_rfl) (Or.inl ⟨by rfl, ?hy1003⟩) hS0 ?rest1003
          case hy1003 => (intro W hSw; go_simp; try (with_reducible rfl))
          try simp only [Act.put, List.setIfInBounds_toArray, List.set_cons_zero, List.set_cons_succ]
          refine' wpAnyD_take (i := 3) (oi := ⟨some 75, .move (.tmp 12), 3, "ref.go:96", #[], none⟩) (v := _) rfl (by kernel_rfl) (by kernel_rfl) (by kernel_rfl) (fun _ _ _ h => h) (by kernel_rfl) (Or.inl ⟨by rfl, ?hy1004⟩) hS0 ?rest1004
          case hy1004 => (intro W hSw; go_simp; try (with_reducible rfl))
          try simp only [Act.put, List.setIfInBounds_toArray, List.set_cons_zero, List.set_cons_succ]
          refine' wpAnyD_take (i := 4) (oi := ⟨some 76, .indexAddr 40 (.tmp 74) (.tmp 75), 0, "ref.go:96", #[⟨2, .data⟩, ⟨3, .data⟩], none⟩) (v := _) rfl (by kernel_rfl) (by kernel_rfl) (by kernel_rfl) (fun _ _ _ h => h) (by kernel_rfl) (Or.inl ⟨by rfl, ?hy1005⟩) hS0 ?rest1005
          case hy1005 => (intro W hSw; go_simp; try (with_reducible rfl))
          try simp only [Act.put, List.setIfInBounds_toArray, List.set_cons_zero, List.set_cons_succ]
          refine' wpAnyD_take (i := 5) (oi := ⟨some 77, .fieldAddr 44 (.tmp 76) 2, 0, "ref.go:96", #[⟨4, .data⟩], none⟩) (v := _) rfl (by kernel_rfl) (by kernel_rfl) (by kernel_rfl) (fun _ _ _ h => h) (by kernel_rfl) (Or.inl ⟨by rfl, ?hy1006⟩) hS0 ?rest1006
          case hy1006 => (intro W hSw; go_simp; try (with_reducible rfl))
          try simp only [Act.put, List.setIfInBounds_toArray, List.set_cons_zero, List.set_cons_succ]
          refine' wpAnyD_take (i := 6) (oi := ⟨some 78, .load 39 (.tmp 77), 39, "ref.go:96", #[⟨5, .data⟩], none⟩) (v := _) rfl (by kernel_rfl) (by kernel_rfl) (by kernel_rfl) (fun _ _ _ h => h) (by kernel_rfl) (Or.inl ⟨by rfl, ?hy1007⟩) hS0 ?rest1007
          case hy1007 => (intro W hSw; obtain ⟨s1, s2, s3, s4, s5, _⟩ := hSw; go_simp; try (with_reducible rfl))
          try simp only [Act.put, List.setIfInBounds_toArray, List.set_cons_zero, List.set_cons_succ]
          refine wpAnyD_two (i := 7) (j := 11) (oi := ⟨some 79, .call ⟨.value (.func 14), #[.tmp 73, .tmp 78], #[39, 39]⟩, 45, "ref.go:96", #[⟨1, .data⟩, ⟨6, .data⟩], none⟩) (oj := ⟨some 13, .alloc 39, 0, "ref.go:96", #[], none⟩) (by kernel_rfl) rfl rfl (fun K hK => ?tA) (fun K hK => ?tB)
          case tA =>
           go_simp
           refine (hth _).mono ?_
           rintro r w14 ⟨rfl, g14⟩
           have hS14 : Below W13.heap.size W13 w14 := hB0.trans (g14.below.mono hB0.size)
           clear g14
           go_wp2_with fail
           refine hK.out _ _ (fun hD => HSD.out _ hS14) ?_
           clear hK K
           try simp only [Act.put, List.setIfInBounds_toArray, List.set_cons_zero, List.set_cons_succ]
           refine' wpAnyD_take (i := 8) (oi := ⟨some 71, .move (.tmp 79), 45, "ref.go:96", #[⟨7, .data⟩], none⟩) (v := _) rfl (by kernel_rfl) (by kernel_rfl) (by kernel_rfl) (fun _ _ _ h => h) (by kernel_rfl) (Or.inl ⟨by rfl, ?hy1008⟩) (HSD.out _ hS14) ?rest1008
           case hy1008 => (intro W hSw; go_simp; try (with_reducible rfl))
           try simp only [Act.put, List.setIfInBounds_toArray, List.set_cons_zero, List.set_cons_succ]
           refine' wpAnyD_take (i := 9) (oi := ⟨some 80, .extract (.tmp 71) 0, 39, "ref.go:96", #[⟨8, .data⟩], none⟩) (v := _) rfl (by kernel_rfl) (by kernel_rfl) (by kernel_rfl) (fun _ _ _ h => h) (by kernel_rfl) (Or.inl ⟨by rfl, ?hy1009⟩) (HSD.out _ hS14) ?rest1009
           case hy1009 => (intro W hSw; go_simp; try (with_reducible rfl))
           try simp only [Act.put, List.setIfInBounds_toArray, List.set_cons_zero, List.set_cons_succ]
           refine' wpAnyD_take (i := 10) (oi := ⟨some 81, .extract (.tmp 71) 1, 4, "ref.go:96", #[⟨8, .data⟩, ⟨12, .gcOnly .lateStores⟩], none⟩) (v := _) rfl (by kernel_rfl) (by kernel_rfl) (by kernel_rfl) (fun _ _ _ h => h) (by kernel_rfl) (Or.inl ⟨by rfl, ?hy1010⟩) (HSD.out _ hS14) ?rest1010
           case hy1010 => (intro W hSw; go_simp; try (with_reducible rfl))
           try simp only [Act.put, List.setIfInBounds_toArray, List.set_cons_zero, List.set_cons_succ]
           refine wpAnyD_one (i := 11) (o := ⟨some 13, .alloc 39, 0, "ref.go:96", #[], none⟩) (by kernel_rfl) rfl (fun K hK => ?_)
           go_simp
           have hS15 : Below W13.heap.size W13 (w14.alloc (.cells #[.int .u64 0, .int .u64 0, .int .u64 0] 39)) := hS14.trans (((Gr.refl w14).alloc _).below.mono hS14.size)
           refine hK.out _ _ (fun hD => HSD.out _ hS15) ?_
           clear hK K
           try simp only [Act.put, List.setIfInBounds_toArray, List.set_cons_zero, List.set_cons_succ]
           refine wpAnyD_one (i := 12) (o := ⟨none, .store 39 (.tmp 13) (.tmp 80), 0, "ref.go:96", #[⟨11, .data⟩, ⟨9, .data⟩, ⟨7, .chain⟩, ⟨0, .phase⟩, ⟨1, .phase⟩, ⟨2, .phase⟩, ⟨3, .phase⟩, ⟨4, .phase⟩, ⟨5, .phase⟩, ⟨6, .phase⟩, ⟨7, .phase⟩, ⟨8, .phase⟩, ⟨9, .phase⟩, ⟨10, .textOnly .lateStores⟩, ⟨11, .phase⟩], none⟩) (by kernel_rfl) rfl (fun K hK => ?_)
           go_simp
           have hS16 : Below W13.heap.size W13 (w14.alloc (.cells #[.int .u64 cv.1.1, .int .u64 cv.1.2.1, .int .u64 cv.1.2.2] 39)) := hS14.trans (((Gr.refl w14).alloc _).below.mono hS14.size)
           refine hK.out _ _ (fun hD => HSD.out _ hS16) ?_
           clear hK K
           try simp only [Act.put, List.setIfInBounds_toArray, List.set_cons_zero, List.set_cons_succ]
           refine wpAnyD_one (i := 13) (o := ⟨some 14, .assign (.tmp 81), 4, "ref.go:96", #[⟨10, .data⟩, ⟨12, .chain⟩, ⟨0, .phase⟩, ⟨1, .phase⟩, ⟨2, .phase⟩, ⟨3, .phase⟩, ⟨4, .phase⟩, ⟨5, .phase⟩, ⟨6, .phase⟩, ⟨7, .phase⟩, ⟨8, .phase⟩, ⟨9, .phase⟩, ⟨10, .phase⟩, ⟨11, .phase⟩, ⟨12, .phase⟩], none⟩) (by kernel_rfl) rfl (fun K hK => ?_)
           go_simp
           refine hK.out _ _ (fun hD => HSD.out _ hS16) ?_
           clear hK K
           try simp only [Act.put, List.setIfInBounds_toArray, List.set_cons_zero, List.set_cons_succ]
           refine wpAnyD_done (by kernel_rfl) ?_ _
           go_wp2_with fail
           go_meet
           exact ⟨_, rfl, rfl, hS14.trans (((Gr.refl w14).alloc _).below.mono hS14.size), heap_new' _ _, hS14.size⟩
          case tB =>
           go_simp
           have hSa : Below W13.heap.size W13 (W13.drew.alloc (.cells #[.int .u64 0, .int .u64 0, .int .u64 0] 39)) := hB0.trans (((Gr.refl W13.drew).alloc _).below.mono hB0.size)
           have hna := heap_new' W13.drew (.cells #[.int .u64 0, .int .u64 0, .int .u64 0] 39)
           refine hK.out _ _ (fun hD => HSD.out _ hSa) ?_
           clear hK K
           try simp only [Act.put, List.setIfInBounds_toArray, List.set_cons_zero, List.set_cons_succ]
           refine wpAnyD_one (i := 7) (o := ⟨some 79, .call ⟨.value (.func 14), #[.tmp 73, .tmp 78], #[39, 39]⟩, 45, "ref.go:96", #[⟨1, .data⟩, ⟨6, .data⟩], none⟩) (by kernel_rfl) rfl (fun K hK => ?_)
           go_simp
           refine (hth _).mono ?_
           rintro r w14 ⟨rfl, g14⟩
           have hS14 : Below W13.heap.size W13 w14 := hSa.trans (g14.below.mono hSa.size)
           have hbk : w14.heap[W13.heap.size]? = some (.cells #[.int .u64 0, .int .u64 0, .int .u64 0] 39 (0, 0)) := (g14.below.block _ (tk_lt hna)).trans hna
           clear g14 hna hSa
           go_wp2_with fail
           refine hK.out _ _ (fun hD => HSD.out _ hS14) ?_
           clear hK K
           try simp only [Act.put, List.setIfInBounds_toArray, List.set_cons_zero, List.set_cons_succ]
           refine' wpAnyD_take (i := 8) (oi := ⟨some 71, .move (.tmp 79), 45, "ref.go:96", #[⟨7, .data⟩], none⟩) (v := _) rfl (by kernel_rfl) (by kernel_rfl) (by kernel_rfl) (fun _ _ _ h => h) (by kernel_rfl) (Or.inl ⟨by rfl, ?hy1011⟩) (HSD.out _ hS14) ?rest1011
           case hy1011 => (intro W hSw; go_simp; try (with_reducible rfl))
           try simp only [Act.put, List.setIfInBounds_toArray, List.set_cons_zero, List.set_cons_succ]
           refine' wpAnyD_take (i := 9) (oi := ⟨some 80, .extract (.tmp 71) 0, 39, "ref.go:96", #[⟨8, .data⟩], none⟩) (v := _) rfl (by kernel_rfl) (by kernel_rfl) (by kernel_rfl) (fun _ _ _ h => h) (by kernel_rfl) (Or.inl ⟨by rfl, ?hy1012⟩) (HSD.out _ hS14) ?rest1012
           case hy1012 => (intro W hSw; go_simp; try (with_reducible rfl))
           try simp only [Act.put, List.setIfInBounds_toArray, List.set_cons_zero, List.set_cons_succ]
           refine' wpAnyD_take (i := 10) (oi := ⟨some 81, .extract (.tmp 71) 1, 4, "ref.go:96", #[⟨8, .data⟩, ⟨12, .gcOnly .lateStores⟩], none⟩) (v := _) rfl (by kernel_rfl) (by kernel_rfl) (by kernel_rfl) (fun _ _ _ h => h) (by kernel_rfl) (Or.inl ⟨by rfl, ?hy1013⟩) (HSD.out _ hS14) ?rest1013
           case hy1013 => (intro W hSw; go_simp; try (with_reducible rfl))
           try simp only [Act.put, List.setIfInBounds_toArray, List.set_cons_zero, List.set_cons_succ]
           have cb := (tk_store hbk).1
           have fb := (tk_store hbk).2
           have lb := tk_lt hbk
           refine wpAnyD_one (i := 12) (o := ⟨none, .store 39 (.tmp 13) (.tmp 80), 0, "ref.go:96", #[⟨11, .data⟩, ⟨9, .data⟩, ⟨7, .chain⟩, ⟨0, .phase⟩, ⟨1, .phase⟩, ⟨2, .phase⟩, ⟨3, .phase⟩, ⟨4, .phase⟩, ⟨5, .phase⟩, ⟨6, .phase⟩, ⟨7, .phase⟩, ⟨8, .phase⟩, ⟨9, .phase⟩, ⟨10, .textOnly .lateStores⟩, ⟨11, .phase⟩], none⟩) (by kernel_rfl) rfl (fun K hK => ?_)
           go_simp
           obtain ⟨b0, k0⟩ := Df.tk_set hbk 0 (.int .u64 cv.1.1)
           obtain ⟨b2, k1⟩ := Df.tk_set b0 1 (.int .u64 cv.1.2.1)
           obtain ⟨b3, k2⟩ := Df.tk_set b2 2 (.int .u64 cv.1.2.2)
           have kk : Below W13.heap.size W13 (((w14.setCell ⟨W13.heap.size, 0, none⟩ (.int .u64 cv.1.1)).setCell ⟨W13.heap.size, 1, none⟩ (.int .u64 cv.1.2.1)).setCell ⟨W13.heap.size, 2, none⟩ (.int .u64 cv.1.2.2)) := hS14.trans (((k0.trans k1 (fun _ _ h => h)).trans k2 (fun _ _ h => h)).below hS14.size (fun k h => by rw [h]; exact Nat.le_refl _))
           clear k0 k1 k2 b0 b2 cb fb lb hbk
           generalize (((w14.setCell ⟨W13.heap.size, 0, none⟩ (.int .u64 cv.1.1)).setCell ⟨W13.heap.size, 1, none⟩ (.int .u64 cv.1.2.1)).setCell ⟨W13.heap.size, 2, none⟩ (.int .u64 cv.1.2.2)) = w16 at kk b3 ⊢
           refine hK.out _ _ (fun hD => HSD.out _ kk) ?_
           clear hK K
           try simp only [Act.put, List.setIfInBounds_toArray, List.set_cons_zero, List.set_cons_succ]
           refine wpAnyD_one (i := 13) (o := ⟨some 14, .assign (.tmp 81), 4, "ref.go:96", #[⟨10, .data⟩, ⟨12, .chain⟩, ⟨0, .phase⟩, ⟨1, .phase⟩, ⟨2, .phase⟩, ⟨3, .phase⟩, ⟨4, .phase⟩, ⟨5, .phase⟩, ⟨6, .phase⟩, ⟨7, .phase⟩, ⟨8, .phase⟩, ⟨9, .phase⟩, ⟨10, .phase⟩, ⟨11, .phase⟩, ⟨12, .phase⟩], none⟩) (by kernel_rfl) rfl (fun K hK => ?_)
           go_simp
           refine hK.out _ _ (fun hD => HSD.out _ kk) ?_
           clear hK K
           try simp only [Act.put, List.setIfInBounds_toArray, List.set_cons_zero, List.set_cons_succ]
           refine wpAnyD_done (by kernel_rfl) ?_ _
           go_wp2_with fail
           go_meet
           exact ⟨_, rfl, rfl, kk, b3, Nat.le_refl _⟩
         case rest =>
          obtain ⟨pb, rfl, rfl, HC14⟩ := hcut
          clear hS0 hB0 hth
          obtain ⟨W14, hW14⟩ : ∃ W, W = wc := ⟨_, rfl⟩
          rw [← hW14] at HC14 ⊢
          clear hW14
          have F14 := HSO.out _ HC14.out.1
          have hqxz : (qx : Int) < (n : Int) := by omega
          have hqx0 : (0 : Int) ≤ (qx : Int) := by omega
          obtain ⟨⟨zq, zm, zc⟩, hz1, hz2, hz3, hz4, hz5⟩ := F14.rw.cell F14.ln hqx
          simp only at hz4
          subst hz4
          obtain ⟨cq2, hcq2⟩ : ∃ b, b = ccov Pc.bel (put1 rows q0 t2 qx) cv := ⟨_, rfl⟩
          have h65 : (put1 rows q0 t2 qx).length ≤ 65 := by
           unfold put1
           have := HPU.out.1.sm qx
           split
           ·simp; omega
           ·omega
          have hcov : ∀ W, Below W14.heap.size W14 W → Calls Tryz.prog 102 #[.slice zq (put1 rows q0 t2 qx).length zc, .agg #[.int .u64 cv.1.1, .int .u64 cv.1.2.1, .int .u64 cv.1.2.2]] W fun e w' => e = .returned (.bool cq2) ∧ Below W.heap.size W w' := fun W hW => by
           rw [hcq2]
           exact (rcov_any _ (put1 rows q0 t2 qx) cv W ((owns_ls (E := Pc.ET) hz5).below hW) (by omega)).mono (fun e w' h => ⟨h.1, h.2.below⟩)
          have HCQ2 := hid hcq2
          clear hcq2
          have HSE : Hid (∀ W, Below W14.heap.size W14 W → W.cell? ⟨gg, qx, none⟩ = some (.slice zq (put1 rows q0 t2 qx).length zc) ∧ W.cell? ⟨b1, o1 + i * 5 + 1, none⟩ = some (.int .i64 (qx : Int)) ∧ W.cell? ⟨pb, 0, none⟩ = some (.int .u64 cv.1.1) ∧ W.cell? ⟨pb, 1, none⟩ = some (.int .u64 cv.1.2.1) ∧ W.cell? ⟨pb, 2, none⟩ = some (.int .u64 cv.1.2.2) ∧ gg < W.heap.size ∧ b1 < W.heap.size ∧ pb < W.heap.size) := fun W hb => by
           have h1 := (hb.block _ (tk_lt HC14.out.2.1)).trans HC14.out.2.1
           have h3 := (tk_store h1).1
           have h4 := HSD.out W (HC14.out.1.trans (hb.mono HC14.out.1.size))
           exact ⟨(hb.cell (p := ⟨gg, qx, none⟩) hz3).trans hz2, h4.1, h3 0, h3 1, h3 2, Nat.lt_of_lt_of_le hz3 hb.size, h4.2.2.2.2.1, tk_lt h1⟩
          clear hz1 hz2 hz3 hz5 F14
          generalize (put1 rows q0 t2 qx).length = zl at HSE hcov
          go_upto_region 15 with fail
          have HB0 : Hid (Below W14.heap.size W14 W14.drew) := (Gr.refl W14).drew.below
          have S0 := HSE.out _ HB0.out
          go_cut [95] (fun s95 wq => s95 = .bool (ok && !cq2) ∧ Hid (Below W14.heap.size W14 wq))
          case first =>
           cases ok with
           | true =>
            go_region_held3 (fun W => W.cell? ⟨gg, qx, none⟩ = some (.slice zq zl zc) ∧ W.cell? ⟨b1, o1 + i * 5 + 1, none⟩ = some (.int .i64 (qx : Int)) ∧ W.cell? ⟨pb, 0, none⟩ = some (.int .u64 cv.1.1) ∧ W.cell? ⟨pb, 1, none⟩ = some (.int .u64 cv.1.2.1) ∧ W.cell? ⟨pb, 2, none⟩ = some (.int .u64 cv.1.2.2) ∧ gg < W.heap.size ∧ b1 < W.heap.size ∧ pb < W.heap.size)
             (first | exact S0 | assumption)
             (first | (go_at_call 102; refine (hcov _ HB0.out).mono ?_; rintro e w20 ⟨rfl, hb20⟩; have hS20 := HSE.out _ (HB0.out.trans (hb20.mono HB0.out.size))))
            go_wp2_with fail
            go_meet
            exact ⟨by simp, HB0.out.trans (hb20.mono HB0.out.size)⟩
           | false =>
            go_quiet (fail)
            go_wp2_with fail
            go_meet
            exact ⟨by simp, ((Gr.refl W14).drewN _).below⟩
          case rest =>
           obtain ⟨rfl, HC⟩ := hcut
           clear S0 hcov HB0
           have HTH : Hid (∀ z, thn3 t2 (tri c.via) = some z → z = cv ∧ ok = true) := fun z hz => ⟨by rw [HCV.out.1, thv_some hz], by rw [HCV.out.2, hz]; rfl⟩
           have HSG : Hid ((sfl l q0)[(sfl (l.take i) q0).length]? = some ((qx : Int), tri c.via) ∧ (sfl (l.take (i + 1)) q0).length = (sfl (l.take i) q0).length + 1) := by
            refine ⟨?_, ?_⟩
            ·rw [sfl_get HCC.out epa]
             unfold th
             rw [eqx]
            ·rw [sfl_take HCC.out, if_pos epa]
             simp
           obtain ⟨bq, hbq⟩ : ∃ b, b = (ok && !cq2) := ⟨_, rfl⟩
           rw [← hbq]
           have HBQ := hid hbq
           clear hbq
           obtain ⟨W15, hW15⟩ : ∃ W, W = wc := ⟨_, rfl⟩
           rw [← hW15] at HC ⊢
           clear hW15
           cases bq with
           | true =>
            go_upto_region 16 with fail
            have hbb := HC14.out.1.trans (HC.out.mono HC14.out.1.size)
            have HFR := hid (HSO.out _ hbb)
            have HSH : Hid (∀ W, Below W15.heap.size W15 W → W.cell? ⟨b1, o1 + i * 5 + 1, none⟩ = some (.int .i64 (qx : Int)) ∧ b1 < W.heap.size ∧ W.heap[pb]? = some (.cells #[.int .u64 cv.1.1, .int .u64 cv.1.2.1, .int .u64 cv.1.2.2] 39 (0, 0)) ∧ W.heap[tb]? = some (.cells #[.int .i64 (q0 : Int), .int .u64 t2.1.1, .int .u64 t2.1.2.1, .int .u64 t2.1.2.2] 162 (0, 0))) := fun W hb => by
             have h2 := HC.out.trans (hb.mono HC.out.size)
             have h3 := HC14.out.1.trans (h2.mono HC14.out.1.size)
             have h4 := HSD.out W h3
             exact ⟨h4.1, h4.2.2.2.2.1, (h2.block _ (tk_lt HC14.out.2.1)).trans HC14.out.2.1, h4.2.2.2.2.2⟩
            have hB0 : Below W15.heap.size W15 W15.drew := (Gr.refl W15).drew.below
            have hS0 := HSH.out _ hB0
            have HLB : Hid ((LI.length + 1) * 32 ≤ 140737488355328) := by
             have h1 := HIN.out.2.cnt
             rw [itL_len, itL_len] at h1
             have h2 := HL1.out
             have h3 := HPU.out.1.bd HMM.out
             rw [itL_len] at h3
             have h4 := sfl_len (l.take i) q0
             rw [List.length_take] at h4
             have h5 := HMM.out
             have h6 := HSSL.out
             rw [h6] at h3 h5
             show _ ≤ _
             have h7 : 64 * n * (432 + 1) ≤ 64 * 192 * (432 + 1) := Nat.mul_le_mul (Nat.mul_le_mul (Nat.le_refl _) hn) (Nat.le_refl _)
             omega
            refine wp_regionD (S := fun W => W.cell? ⟨b1, o1 + i * 5 + 1, none⟩ = some (.int .i64 (qx : Int)) ∧ b1 < W.heap.size ∧ W.heap[pb]? = some (.cells #[.int .u64 cv.1.1, .int .u64 cv.1.2.1, .int .u64 cv.1.2.2] 39 (0, 0)) ∧ W.heap[tb]? = some (.cells #[.int .i64 (q0 : Int), .int .u64 t2.1.1, .int .u64 t2.1.2.1, .int .u64 t2.1.2.2] 162 (0, 0))) (D := []) hmx ?_
            refine' wpAnyD_take (i := 0) (oi := ⟨some 96, .move (.tmp 9), 163, "ref.go:98", #[], none⟩) (v := _) rfl (by kernel_rfl) (by kernel_rfl) (by kernel_rfl) (fun _ _ _ h => h) (by kernel_rfl) (Or.inl ⟨by rfl, ?hy15⟩) hS0 ?rest15
            case hy15 => (intro W hSw; go_simp; try (with_reducible rfl))
            try simp only [Act.put, List.setIfInBounds_toArray, List.set_cons_zero, List.set_cons_succ]
            refine' wpAnyD_take (i := 1) (oi := ⟨some 97, .move (.tmp 0), 40, "ref.go:98", #[], none⟩) (v := _) rfl (by kernel_rfl) (by kernel_rfl) (by kernel_rfl) (fun _ _ _ h => h) (by kernel_rfl) (Or.inl ⟨by rfl, ?hy16⟩) hS0 ?rest16
            case hy16 => (intro W hSw; go_simp; try (with_reducible rfl))
            try simp only [Act.put, List.setIfInBounds_toArray, List.set_cons_zero, List.set_cons_succ]
            refine' wpAnyD_take (i := 2) (oi := ⟨some 98, .move (.tmp 12), 3, "ref.go:98", #[], none⟩) (v := _) rfl (by kernel_rfl) (by kernel_rfl) (by kernel_rfl) (fun _ _ _ h => h) (by kernel_rfl) (Or.inl ⟨by rfl, ?hy17⟩) hS0 ?rest17
            case hy17 => (intro W hSw; go_simp; try (with_reducible rfl))
            try simp only [Act.put, List.setIfInBounds_toArray, List.set_cons_zero, List.set_cons_succ]
            refine' wpAnyD_take (i := 3) (oi := ⟨some 99, .indexAddr 40 (.tmp 97) (.tmp 98), 0, "ref.go:98", #[⟨1, .data⟩, ⟨2, .data⟩], none⟩) (v := _) rfl (by kernel_rfl) (by kernel_rfl) (by kernel_rfl) (fun _ _ _ h => h) (by kernel_rfl) (Or.inl ⟨by rfl, ?hy18⟩) hS0 ?rest18
            case hy18 => (intro W hSw; go_simp; try (with_reducible rfl))
            try simp only [Act.put, List.setIfInBounds_toArray, List.set_cons_zero, List.set_cons_succ]
            refine' wpAnyD_take (i := 4) (oi := ⟨some 100, .fieldAddr 44 (.tmp 99) 1, 0, "ref.go:98", #[⟨3, .data⟩], none⟩) (v := _) rfl (by kernel_rfl) (by kernel_rfl) (by kernel_rfl) (fun _ _ _ h => h) (by kernel_rfl) (Or.inl ⟨by rfl, ?hy19⟩) hS0 ?rest19
            case hy19 => (intro W hSw; go_simp; try (with_reducible rfl))
            try simp only [Act.put, List.setIfInBounds_toArray, List.set_cons_zero, List.set_cons_succ]
            refine' wpAnyD_take (i := 5) (oi := ⟨some 101, .load 3 (.tmp 100), 3, "ref.go:98", #[⟨4, .data⟩], none⟩) (v := _) rfl (by kernel_rfl) (by kernel_rfl) (by kernel_rfl) (fun _ _ _ h => h) (by kernel_rfl) (Or.inl ⟨by rfl, ?hy20⟩) hS0 ?rest20
            case hy20 => (intro W hSw; have hc := hSw.1; have hl := hSw.2.1; go_simp; try (with_reducible rfl))
            try simp only [Act.put, List.setIfInBounds_toArray, List.set_cons_zero, List.set_cons_succ]
            refine' wpAnyD_take (i := 6) (oi := ⟨some 102, .load 39 (.tmp 13), 39, "ref.go:98", #[], none⟩) (v := _) rfl (by kernel_rfl) (by kernel_rfl) (by kernel_rfl) (fun _ _ _ h => h) (by kernel_rfl) (Or.inl ⟨by rfl, ?hy21⟩) hS0 ?rest21
            case hy21 => (intro W hSw; have hc := (tk_store hSw.2.2.1).1; have hl := tk_lt hSw.2.2.1; go_simp; try (with_reducible rfl))
            try simp only [Act.put, List.setIfInBounds_toArray, List.set_cons_zero, List.set_cons_succ]
            refine' wpAnyD_take (i := 7) (oi := ⟨some 103, .build 162 #[(0, .tmp 101), (1, .tmp 102)], 162, "ref.go:98", #[⟨5, .data⟩, ⟨6, .data⟩], none⟩) (v := _) rfl (by kernel_rfl) (by kernel_rfl) (by kernel_rfl) (fun _ _ _ h => h) (by kernel_rfl) (Or.inl ⟨by rfl, ?hy22⟩) hS0 ?rest22
            case hy22 => (intro W hSw; go_simp; try (with_reducible rfl))
            try simp only [Act.put, List.setIfInBounds_toArray, List.set_cons_zero, List.set_cons_succ]
            refine wpAnyD_one (i := 8) (o := ⟨some 104, .buildSlice 163 1 #[(0, .tmp 103)], 163, "ref.go:98", #[⟨7, .data⟩], none⟩) (by kernel_rfl) rfl (fun K hK => ?_)
            go_simp
            have hS8 : Below W15.heap.size W15 (W15.drew.alloc (.cells #[.int .i64 (qx : Int), .int .u64 cv.1.1, .int .u64 cv.1.2.1, .int .u64 cv.1.2.2] 162)) := hB0.trans (((Gr.refl W15.drew).alloc _).below.mono hB0.size)
            refine hK.out _ _ (fun hD => (HSH.out _ hS8)) ?_
            clear hK K
            try simp only [Act.put, List.setIfInBounds_toArray, List.set_cons_zero, List.set_cons_succ]
            refine wpAnyD_one (i := 9) (o := ⟨some 105, .call ⟨.builtin .append, #[.tmp 96, .tmp 104], #[163, 163]⟩, 163, "ref.go:98", #[⟨0, .data⟩, ⟨8, .data⟩], none⟩) (by kernel_rfl) rfl (fun K hK => ?_)
            refine step_app1 EF Tryz.underlying163 infoWy rfl (by decide) rfl _ _ rfl w.heap.size (.slice pi LI.length ci) LI.length (fl EF LI) rfl (owns_below HFR.out.op hB0) ((qx : Int), cv) (by first | rfl | simp) (by have := HLB.out; omega) (by have := HLB.out; unfold maxLen; omega) (Nat.le_trans HFR.out.bl.size hB0.size) _ rfl _ ?_
            intro g8 cap8 w8 h8 k8 n8
            have hb8 := (Kp.grownBy (S := fun k => (Value.slice pi LI.length ci).ownBlock = some k) k8.out (fun _ h => h))
            have ST : Hid (Fr w gg n vs2 (put1 rows q0 t2) (.slice (some ⟨g8, 0, none⟩) (LI ++ [((qx : Int), cv)]).length cap8) (LI ++ [((qx : Int), cv)]) w8 ∧ w8.heap[tb]? = some (.cells #[.int .i64 (q0 : Int), .int .u64 t2.1.1, .int .u64 t2.1.2.1, .int .u64 t2.1.2.2] 162 (0, 0)) ∧ ∀ k, (Value.slice (some ⟨g8, 0, none⟩) (LI ++ [((qx : Int), cv)]).length cap8).ownBlock = some k → k ≠ tb) := by
             refine ⟨(HFR.out.below hB0).app h8.out k8.out, (hb8.block _ (tk_lt hS0.2.2.2) (fun e => HIN.out.1 tb e rfl)).trans hS0.2.2.2, fun k hk => ?_⟩
             obtain rfl : g8 = k := by simpa [Value.ownBlock] using hk
             rcases n8.out with h | h
             ·exact HIN.out.1 g8 h
             ·have := tk_lt hS0.2.2.2
              omega
            have F8 : Hid (w8.cell? ⟨b1, o1 + i * 5 + 1, none⟩ = some (.int .i64 (qx : Int)) ∧ b1 < w8.heap.size ∧ w8.heap[pb]? = some (.cells #[.int .u64 cv.1.1, .int .u64 cv.1.2.1, .int .u64 cv.1.2.2] 39 (0, 0)) ∧ w8.heap[tb]? = some (.cells #[.int .i64 (q0 : Int), .int .u64 t2.1.1, .int .u64 t2.1.2.1, .int .u64 t2.1.2.2] 162 (0, 0))) := by
             refine ⟨(hb8.cell hS0.2.1 (fun e => ?_)).trans hS0.1, Nat.lt_of_lt_of_le hS0.2.1 hb8.size, (hb8.block _ (tk_lt hS0.2.2.1) (fun e => ?_)).trans hS0.2.2.1, ST.out.2.1⟩
             ·have := (HFR.out.op.lt b1 e).1
              have := HB1.out
              omega
             ·exact owns_ne_blk (owns_below HFR.out.op hB0) hS0.2.2.1 (by decide) pb e rfl
            clear h8 k8 n8 hb8
            refine hK.out _ _ (fun hD => F8.out) ?_
            clear hK K
            try simp only [Act.put, List.setIfInBounds_toArray, List.set_cons_zero, List.set_cons_succ]
            refine wpAnyD_one (i := 10) (o := ⟨some 9, .assign (.tmp 105), 163, "ref.go:98", #[⟨9, .data⟩, ⟨9, .chain⟩, ⟨0, .phase⟩, ⟨1, .phase⟩, ⟨2, .phase⟩, ⟨3, .phase⟩, ⟨4, .phase⟩, ⟨5, .phase⟩, ⟨6, .phase⟩, ⟨7, .phase⟩, ⟨8, .phase⟩, ⟨9, .phase⟩], none⟩) (by kernel_rfl) rfl (fun K hK => ?_)
            go_simp
            refine hK.out _ _ (fun hD => F8.out) ?_
            clear hK K
            try simp only [Act.put, List.setIfInBounds_toArray, List.set_cons_zero, List.set_cons_succ]
            refine wpAnyD_done (by kernel_rfl) ?_ _
            have HNX : Hid (Fr w gg n vs2 (put1 rows q0 t2) (.slice (some ⟨g8, 0, none⟩) (LI ++ [((qx : Int), cv)]).length cap8) (LI ++ [((qx : Int), cv)]) w8 ∧ w8.heap[tb]? = some (.cells #[.int .i64 (q0 : Int), .int .u64 t2.1.1, .int .u64 t2.1.2.1, .int .u64 t2.1.2.2] 162 (0, 0)) ∧ (∀ k, (Value.slice (some ⟨g8, 0, none⟩) (LI ++ [((qx : Int), cv)]).length cap8).ownBlock = some k → k ≠ tb) ∧ Inn (sfl l q0) n t2 (put1 rows q0 t2) (itL L1) (itL (LI ++ [((qx : Int), cv)])) (sfl (l.take (i + 1)) q0).length) := by
             refine ⟨ST.out.1, ST.out.2.1, ST.out.2.2, ?_⟩
             have hb : (ok && !cq2) = true := HBQ.out.symm
             rw [Bool.and_eq_true] at hb
             obtain ⟨z, hz⟩ : ∃ z, thn3 t2 (tri c.via) = some z := by
              have := HCV.out.2
              rw [hb.1] at this
              exact Option.isSome_iff_exists.1 this.symm
             have hz2 := (HTH.out z hz).1
             subst hz2
             rw [HSG.out.2]
             exact HIN.out.2.push (np := 0) HSG.out.1 hqx hz (by rw [itL_app])
            clear ST
            go_wp2_with fail
            go_roundw
            case rel => exact ⟨i + 1, LI ++ [((qx : Int), cv)], _, _, by omega, by simp, by go_num, HNX.out⟩
            case measure => simp [RowKit.intOf]; omega
           | false =>
            have HNX : Hid (Fr w gg n vs2 (put1 rows q0 t2) (.slice pi LI.length ci) LI W15 ∧ W15.heap[tb]? = some (.cells #[.int .i64 (q0 : Int), .int .u64 t2.1.1, .int .u64 t2.1.2.1, .int .u64 t2.1.2.2] 162 (0, 0)) ∧ (∀ k, (Value.slice pi LI.length ci).ownBlock = some k → k ≠ tb) ∧ Inn (sfl l q0) n t2 (put1 rows q0 t2) (itL L1) (itL LI) (sfl (l.take (i + 1)) q0).length) := by
             have hbb := HC14.out.1.trans (HC.out.mono HC14.out.1.size)
             refine ⟨HSO.out _ hbb, (HSD.out _ hbb).2.2.2.2.2, HIN.out.1, ?_⟩
             rw [HSG.out.2]
             refine HIN.out.2.skip HSG.out.1 (fun z hz => ?_)
             obtain ⟨h1, h2⟩ := HTH.out z hz
             have hb := HBQ.out
             rw [h2, Bool.true_and] at hb
             have hb2 : cq2 = true := by simpa using hb.symm
             rw [h1]
             rw [HCQ2.out] at hb2
             exact (ccov_iff Pc.bel_px _ _).1 hb2
            go_wp2_with fail
            go_roundw
            case rel => exact ⟨i + 1, LI, pi, ci, by omega, rfl, by go_num, HNX.out⟩
            case measure => simp [RowKit.intOf]; omega
        ·have hpqz : ((pa : Int) != (q0 : Int)) = true := by simp; omega
         have HNX : Hid (Inn (sfl l q0) n t2 (put1 rows q0 t2) (itL L1) (itL LI) (sfl (l.take (i + 1)) q0).length) := by
          rw [sfl_take HCC.out, if_neg (by rw [epa]; omega), List.append_nil]
          exact HI.out.2.2.2
         go_wp2_with fail
         go_quiet (fail)
         have G9 : Hid (Below wr.heap.size wr (wr.drewN nq)) := ((Gr.refl wr).drewN nq).below
         clear x0 x1 x2 x3 x4 y0 ly zz1
         go_wp2
         go_roundw
         case rel => exact ⟨i + 1, LI, pi, ci, by omega, rfl, by go_num, HI.out.1.below G9.out, (G9.out.block _ (tk_lt HI.out.2.1)).trans HI.out.2.1, HI.out.2.2.1, HNX.out⟩
         case measure => simp [RowKit.intOf]; omega
       ·have hilz : ¬ (i : Int) < (l.length : Int) := by omega
        have hie : i = l.length := by omega
        subst hie
        have HNX : Hid (Fr w gg n vs2 (put1 rows q0 t2) (.slice pi LI.length ci) LI wr ∧ Pu (ssL n l) p 432 (put1 rows q0 t2) (itL LI) (np + (sfl l q0).length) ∧ mes (ssL n l).length 432 (put1 rows q0 t2) (itL LI).length ≤ gk) := by
         have h1 := HI.out.2.2.2
         rw [List.take_length] at h1
         have h1' : Inn (sfl l q0) (ssL n l).length t2 (put1 rows q0 t2) (itL L1) (itL LI) (sfl l q0).length := by rw [HSSL.out]; exact h1
         have h2 := h1.cnt
         have h3 := HPU.out.1.ln
         rw [itL_len] at h3
         rw [itL_len, itL_len] at h2
         have h4 := HL1.out
         obtain ⟨k1, k2⟩ := HPU.out.1.takeR (np' := np + (sfl l q0).length) HPM.out HOU.out HNC.out (ssL_get l hq0) (Nat.le_trans (sfl_len l q0) hl) (by rw [HRL.out, HRL1.out]; omega) h1' (Nat.le_refl _) (by rw [itL_len]; omega)
         exact ⟨HI.out.1, k1, by have := HPU.out.2; omega⟩
        clear HI
        go_wp2_with fail
        go_roundg gk
        case measure => omega
        case rel => exact ⟨vs2, put1 rows q0 t2, LI, _, pi, ci, rfl, HNX.out⟩
end Go.Proofs.YtdnnfgabdkkdjaaGreat.Lf

namespace Go.Proofs.YtdnnfgabdkkdjaaGreat.Lf
open Go.RowKit Go.Sort Pt
open Df (hid Con Gph Pth PthT plN stR stL Gok LV EL owns_form owns_caps owns_ne_own owns_ne_blk tk_store tk_lt ordN)
def Rw2 (B : Nat) (w : World) (v : Value) (n : Nat) (rows : Nat → List Tri) : Prop := ∃ vs : List LV, w.ownsRow B 35 1 v n (fl EL vs) ∧ vs.length = n ∧ ∀ (q : Nat) (x : LV), vs[q]? = some x → w.ownsRow B 39 3 x.v (rows q).length (fl Pc.ET (rows q))
theorem Rw2.below {B n : Nat} {w w' : World} {v : Value} {rows : Nat → List Tri} (h : Rw2 B w v n rows) (hb : Below w.heap.size w w') : Rw2 B w' v n rows := by
 obtain ⟨vs, h1, h2, h3⟩ := h
 exact ⟨vs, owns_below h1 hb, h2, fun q x hx => owns_below (h3 q x hx) hb⟩
theorem Rw2.base {B B' n : Nat} {w : World} {v : Value} {rows : Nat → List Tri} (h : Rw2 B w v n rows) (hb : B' ≤ B) : Rw2 B' w v n rows := by
 obtain ⟨vs, h1, h2, h3⟩ := h
 exact ⟨vs, owns_base h1 hb, h2, fun q x hx => owns_base (h3 q x hx) hb⟩
theorem Rw2.other {B B' n m : Nat} {w w' : World} {v u : Value} {rows : Nat → List Tri} {T : TypeId} {z : Nat} {xs : List Value} (h : Rw2 B w v n rows) (ho : w.ownsRow B' T z u m xs) (h1 : T ≠ 35) (h2 : T ≠ 39) (hk : Kp (fun k => u.ownBlock = some k) w w') : Rw2 B w' v n rows := by
 obtain ⟨vs, a1, a2, a3⟩ := h
 exact ⟨vs, owns_kp hk a1 (fun k e e2 => owns_ne_own ho a1 h1 k e2 e), a2, fun q x hx => owns_kp hk (a3 q x hx) (fun k e e2 => owns_ne_own ho (a3 q x hx) h2 k e2 e)⟩
theorem Rw2.block {B n b : Nat} {w w' : World} {v : Value} {rows : Nat → List Tri} {T : TypeId} {cs : Array Value} {z : Nat × Nat} (h : Rw2 B w v n rows) (hb : w.heap[b]? = some (.cells cs T z)) (h1 : 35 ≠ T) (h2 : 39 ≠ T) (hk : Kp (fun k => k = b) w w') : Rw2 B w' v n rows := by
 obtain ⟨vs, a1, a2, a3⟩ := h
 exact ⟨vs, owns_kp hk a1 (fun k e e2 => owns_ne_blk a1 hb h1 k e e2), a2, fun q x hx => owns_kp hk (a3 q x hx) (fun k e e2 => owns_ne_blk (a3 q x hx) hb h2 k e e2)⟩
theorem Fw.rw2 {B n : Nat} {w : World} {v : Value} {vs : List LV} {rows : Nat → List Tri} (h : Fw Pc.ET 39 35 B w v vs rows) (hn : vs.length = n) : Rw2 B w v n rows := ⟨vs, by rw [← hn]; exact h.row, hn, h.each⟩
def ofV : Value → LV
 | .slice q m c => ⟨q, m, c⟩
 | _ => ⟨none, 0, 0⟩
theorem Tb.rw2 {B n : Nat} {w : World} {v : Value} {vs : List Vw} {rows : Nat → List Tri} (h : Tb B w v vs ((List.range n).map rows)) : Rw2 B w v n rows := by
 have hl : ((List.range n).map rows).length = n := by simp
 have hv : vs.length = n := by rw [h.len, hl]
 have hg : ∀ (i : Nat) (u : Vw), vs[i]? = some u → w.ownsRow B 39 3 u.1 (rows i).length (fl Pc.ET (rows i)) := fun i u hu => by
  have hi : i < n := by rw [← hv]; exact (List.getElem?_eq_some_iff.1 hu).1
  exact (h.each i u (rows i) hu (by rw [List.getElem?_map, List.getElem?_range hi]; rfl)).1
 have hf : ∀ u ∈ vs, (ofV u.1).v = u.1 := fun u hu => by
  obtain ⟨i, hi⟩ := List.mem_iff_getElem?.1 hu
  obtain ⟨q, m, c, e⟩ := owns_form (hg i u hi)
  rw [e]
  rfl
 refine ⟨vs.map (fun u => ofV u.1), ?_, by rw [List.length_map, hv], fun q x hx => ?_⟩
 ·have e : fl EL (vs.map (fun u => ofV u.1)) = fl EV vs := by
    rw [fl_EL, List.map_map]
    have : fl EV vs = vs.map (fun u => u.1) := by
     clear hf hg hv h
     induction vs with
     | nil => rfl
     | cons x l ih => rw [fl_cons, ih]; rfl
    rw [this]
    exact List.map_congr_left (fun u hu => hf u hu)
  rw [e]
  have h1 := h.row
  rw [hl] at h1
  exact h1
 ·rw [List.getElem?_map] at hx
  cases e : vs[q]? with
  | none => rw [e] at hx; cases hx
  | some u =>
   rw [e] at hx
   cases hx
   rw [hf u (List.mem_of_getElem? e)]
   exact hg q u e
structure T3 (B : Nat) (w : World) (v : Value) (us : List LV) (n : Nat) (R : Nat → Nat → List Tri) : Prop where
 row : w.ownsRow B 42 1 v us.length (fl EL us)
 each : ∀ (p : Nat) (u : LV), us[p]? = some u → Rw2 B w u.v n (R p)
theorem T3.nil (B : Nat) (w : World) (n : Nat) (R : Nat → Nat → List Tri) : T3 B w (.slice none 0 0) [] n R := ⟨World.ownsRow_nil _ _ _ _, fun p u h => by simp at h⟩
theorem T3.below {B n : Nat} {w w' : World} {v : Value} {us : List LV} {R : Nat → Nat → List Tri} (h : T3 B w v us n R) (hb : Below w.heap.size w w') : T3 B w' v us n R := ⟨owns_below h.row hb, fun p u hu => (h.each p u hu).below hb⟩
theorem T3.block {B n b : Nat} {w w' : World} {v : Value} {us : List LV} {R : Nat → Nat → List Tri} {T : TypeId} {cs : Array Value} {z : Nat × Nat} (h : T3 B w v us n R) (hb : w.heap[b]? = some (.cells cs T z)) (h0 : 42 ≠ T) (h1 : 35 ≠ T) (h2 : 39 ≠ T) (hk : Kp (fun k => k = b) w w') : T3 B w' v us n R :=
 ⟨owns_kp hk h.row (fun k e e2 => owns_ne_blk h.row hb h0 k e e2), fun p u hu => (h.each p u hu).block hb h1 h2 hk⟩
theorem T3.app {B n g cap : Nat} {w w1 : World} {v : Value} {us : List LV} {R : Nat → Nat → List Tri} {u : LV} {rows : Nat → List Tri} (h : T3 B w v us n R) (hr : Rw2 B w u.v n rows)
    (h1 : w1.ownsRow B 42 1 (.slice (some ⟨g, 0, none⟩) (us.length + 1) cap) (us.length + 1) (fl EL us ++ EL.enc u)) (h2 : w.grownBy w1 v.ownBlock) : T3 B w1 (.slice (some ⟨g, 0, none⟩) (us.length + 1) cap) (us ++ [u]) n (fun p => if p = us.length then rows else R p) := by
 have hK : Kp (fun k => v.ownBlock = some k) w w1 := Kp.grownBy h2 (fun _ h => h)
 refine ⟨?_, fun p x hx => ?_⟩
 ·rw [List.length_append, List.length_singleton]
  exact owns_re h1 rfl (by rw [fl_append, fl_one])
 ·rw [List.getElem?_append] at hx
  split at hx
  ·rename_i hp
   simp only [if_neg (show ¬ p = us.length by omega)]
   exact (h.each p x hx).other h.row (by decide) (by decide) hK
  ·have e : p = us.length := by
     have := (List.getElem?_eq_some_iff.1 hx).1
     simp at this
     omega
   subst e
   rw [Nat.sub_self] at hx
   cases hx
   simp only [if_true]
   exact hr.other h.row (by decide) (by decide) hK
def Lq {α : Type} (E : El α) (M : Nat) (w : World) (v : Value) (l : List α) : Prop := Ls E w v l ∧ ∀ k, v.ownBlock = some k → k < M
theorem Lq.keep {α : Type} {E : El α} {M : Nat} {w w' : World} {v : Value} {l : List α} (h : Lq E M w v l) (hb : Below M w w') : Lq E M w' v l := ⟨h.1.kept hb.size (fun g hg => hb.block g (h.2 g hg)), h.2⟩
theorem lq_own {α : Type} {E : El α} {B : Nat} {T : TypeId} {w : World} {v : Value} {l : List α} (h : w.ownsRow B T E.k v l.length (fl E l)) : Lq E w.heap.size w v l := ⟨owns_ls h, fun k hk => (h.lt k hk).2⟩
def Tq (M : Nat) (w : World) (v : Value) (n : Nat) (R : Nat → Nat → List Tri) : Prop := ∃ us : List LV, Lq EL M w v us ∧ us.length = n ∧ ∀ (p : Nat) (u : LV), us[p]? = some u → ∃ vs : List LV, Lq EL M w u.v vs ∧ vs.length = n ∧ ∀ (q : Nat) (x : LV), vs[q]? = some x → Lq Pc.ET M w x.v (R p q)
theorem Tq.keep {M n : Nat} {w w' : World} {v : Value} {R : Nat → Nat → List Tri} (h : Tq M w v n R) (hb : Below M w w') : Tq M w' v n R := by
 obtain ⟨us, h1, h2, h3⟩ := h
 refine ⟨us, h1.keep hb, h2, fun p u hu => ?_⟩
 obtain ⟨vs, a1, a2, a3⟩ := h3 p u hu
 exact ⟨vs, a1.keep hb, a2, fun q x hx => (a3 q x hx).keep hb⟩
theorem T3.tq {B n : Nat} {w : World} {v : Value} {us : List LV} {R : Nat → Nat → List Tri} (h : T3 B w v us n R) (hn : us.length = n) : Tq w.heap.size w v n R := by
 refine ⟨us, lq_own (E := EL) h.row, hn, fun p u hu => ?_⟩
 obtain ⟨vs, a1, a2, a3⟩ := h.each p u hu
 exact ⟨vs, lq_own (E := EL) (by rw [a2]; exact a1), a2, fun q x hx => lq_own (E := Pc.ET) (a3 q x hx)⟩
def TP (M : Nat) (w : World) (tb n : Nat) (R : Nat → Nat → List Tri) : Prop := ∃ v, w.heap[tb]? = some (.cells #[v] 102 (0, 0)) ∧ tb < M ∧ Tq M w v n R
def TR (M : Nat) (w : World) (tb n : Nat) (R : Nat → Nat → List Tri) : Prop := ∃ v, w.heap[tb]? = some (.cells #[.int .i64 (n : Nat), v] 33 (0, 0)) ∧ tb < M ∧ Tq M w v n R
theorem TP.keep {M tb n : Nat} {w w' : World} {R : Nat → Nat → List Tri} (h : TP M w tb n R) (hb : Below M w w') : TP M w' tb n R := by
 obtain ⟨v, h1, h2, h3⟩ := h
 exact ⟨v, (hb.block _ h2).trans h1, h2, h3.keep hb⟩
theorem TR.keep {M tb n : Nat} {w w' : World} {R : Nat → Nat → List Tri} (h : TR M w tb n R) (hb : Below M w w') : TR M w' tb n R := by
 obtain ⟨v, h1, h2, h3⟩ := h
 exact ⟨v, (hb.block _ h2).trans h1, h2, h3.keep hb⟩
abbrev StG (g : Gph) : Nat → Nat → Tri → Prop := Sts (ssL (plN g.nodes) (stR g))
inductive Tab (g : Gph) : Option (Option (Nat → Nat → List Tri)) → Prop
 | cyc (h : ordN (stL g).length (stL g) (stL g).length = none) : Tab g none
 | wide (h : ordN (stL g).length (stL g) (stL g).length ≠ none) (p : Nat) (hp : p < plN g.nodes) (hr : Res PX (StG g) p none) : Tab g (some none)
 | tab (R : Nat → Nat → List Tri) (h : ordN (stL g).length (stL g) (stL g).length ≠ none) (hr : ∀ p, p < plN g.nodes → Res PX (StG g) p (some (R p))) : Tab g (some (some R))
theorem Tab.same {g : Gph} {a b : Option (Option (Nat → Nat → List Tri))} (h : Tab g a) (k : Tab g b) : (a = none ∧ b = none) ∨ (a = some none ∧ b = some none) ∨ ∃ R R', a = some (some R) ∧ b = some (some R') ∧ ∀ p, p < plN g.nodes → R p = R' p := by
 have key : ∀ (R : Nat → Nat → List Tri) (p : Nat), p < plN g.nodes → Res PX (StG g) p none → (∀ p, p < plN g.nodes → Res PX (StG g) p (some (R p))) → False := fun R p hp h1 h2 => by
  have := Res.same PX_ok h1 (h2 p hp)
  cases this
 cases h with
 | cyc h =>
  cases k with
  | cyc k => exact Or.inl ⟨rfl, rfl⟩
  | wide k => exact absurd h k
  | tab R k => exact absurd h k
 | wide h p hp hr =>
  cases k with
  | cyc k => exact absurd k h
  | wide k => exact Or.inr (Or.inl ⟨rfl, rfl⟩)
  | tab R k hr' => exact (key R p hp hr hr').elim
 | tab R h hr =>
  cases k with
  | cyc k => exact absurd k h
  | wide k p hp hr' => exact (key R p hp hr' hr).elim
  | tab R' k hr' =>
   refine Or.inr (Or.inr ⟨R, R', rfl, rfl, fun p hp => ?_⟩)
   have := Res.same PX_ok (hr p hp) (hr' p hp)
   exact Option.some.inj this
theorem infoPll : (Tryz.prog.info? 42).map (fun i => (i.zero, i.size, i.bytes)) = some (some (.slice none 0 0), 1, 24) := by kernel_rfl
end Go.Proofs.YtdnnfgabdkkdjaaGreat.Lf
