import Derived.Test.YtnpmmodcmfgbjaaGreatMBase
import Derived.Sort.KeysCollected
import Derived.Defers
import Derived.Recover
import Derived.Deep.RegionHeld3
namespace Go.Proofs.YtnpmmodcmfgbjaaGreat.Tt
open Go.RowKit Go.Sort Go.Maps
attribute [local go_sem ↓] Go.wp_at_zero Go.wp_at_succ

theorem zeroE (w : World) : (zeroValue 2).run Tryz.prog w = .ok (.int .i64 0) w := by kernel_rfl

def byd (n : Int) : Bool := decide (n < -2147483647) || decide (2147483647 < n)
theorem byd_f {n : Int} : byd n = false ↔ -2147483647 ≤ n ∧ n ≤ 2147483647 := by unfold byd; simp
theorem byd_t {n : Int} : byd n = true ↔ n < -2147483647 ∨ 2147483647 < n := by unfold byd; simp
theorem beyond_any (n : Int) (w : World) : Calls Tryz.prog 74 #[.int .i64 n] w fun e w' => e = .returned (.bool (byd n)) ∧ w' = w := by
  unfold byd
  go_enter Tryz.func74, Tryz.ntmps74
  go_wp2
  all_goals (go_ret; refine ⟨?_, rfl⟩; simp_all)


/-- A tally: its order's function, its counts. -/
structure Tl (w : World) (tb b g n : Nat) (f : Tm → Int) : Prop where
  blk : w.heap[tb]? = some (.cells #[fv g, .map (some b)] 99 (0, 0))
  ta : Ta ZT 2 w b n f
  bd : ∀ s, -2147483647 ≤ f s ∧ f s ≤ 2147483647
section
variable {w w' : World} {tb b g n : Nat} {f : Tm → Int}
theorem Tl.lt (h : Tl w tb b g n f) : tb < w.heap.size := (Array.getElem?_eq_some_iff.1 h.blk).1
theorem Tl.c0 (h : Tl w tb b g n f) : w.cell? ⟨tb, 0, none⟩ = some (fv g) := by simp [World.cell?, h.blk]
theorem Tl.c1 (h : Tl w tb b g n f) : w.cell? ⟨tb, 1, none⟩ = some (.map (some b)) := by simp [World.cell?, h.blk]
theorem Tl.fz (h : Tl w tb b g n f) : w.frozen? ⟨tb, 1, none⟩ = false := by simp [World.frozen?, h.blk]
theorem Tl.ne (h : Tl w tb b g n f) : tb ≠ b := fun e => by
  obtain ⟨D, ⟨es, clock, hb, _⟩, _⟩ := h.ta
  rw [← e, h.blk] at hb
  cases hb
theorem Tl.kp {S : Nat → Prop} (h : Tl w tb b g n f) (hk : Kp S w w') (h1 : ¬ S tb) (h2 : ¬ S b) : Tl w' tb b g n f :=
  ⟨(hk.block tb h.lt h1).trans h.blk, h.ta.kept (hk.block b h.ta.lt h2), h.bd⟩
theorem Tl.below (h : Tl w tb b g n f) (hb : Below w.heap.size w w') : Tl w' tb b g n f := h.kp (S := fun _ => False) (Kp.of_below hb) (fun h => h) (fun h => h)
theorem Tl.gr (h : Tl w tb b g n f) (hb : Gr w w') : Tl w' tb b g n f := h.below hb.below
end

theorem new_any (g : Nat) (w : World) : Calls Tryz.prog 46 #[fv g] w fun e w' => e = .returned (.pointer (some ⟨w.heap.size + 1, 0, none⟩)) ∧ Tl w' (w.heap.size + 1) w.heap.size g 0 (fun _ => 0) ∧ Gr w w' := by
  have hmm := @run_makeMap Tryz.prog
  go_enter Tryz.func46, Tryz.ntmps46
  go_wp2
  go_ret
  refine ⟨rfl, ⟨?_, ?_, fun _ => ?_⟩, ((Gr.refl _).alloc _).alloc _⟩
  · exact heap_alloc2_new _ _ _
  · exact (Ta.made w).kept ((heap_alloc2_old _ _ _).trans (MapKept.heap_alloc w _).1.symm)
  · decide

theorem recover_idle (w : World) : CallsD Tryz.prog 80 #[] .returning w fun e u' w' => e = .returned (.tuple #[]) ∧ u' = .returning ∧ w' = w := by
  refine callsD_of_wpS Tryz.func80 rfl fun c₀ cs hu => ?_
  apply wpS_region
  simp [wpOpsS, go_sem, recoverD, hu, Tryz.ntmps80, bodyPostS, results, Tryz.results80]
  cases c₀
  simp_all
/-- The box of a key. -/
abbrev bx (x : Tm) (w : World) : World := w.alloc (.cells #[.int .u64 x.1.1, .int .u64 x.1.2.1, .int .u64 x.1.2.2] 37)
set_option maxHeartbeats 1000000 in
theorem count_any {tb b g n : Nat} {f : Tm → Int} (x : Tm) (w : World) (h : Tl w tb b g n f) :
    Calls Tryz.prog 71 #[.pointer (some ⟨tb, 0, none⟩), tv x] w fun e w' => e = .returned (.tuple #[.int .i64 (f x), .bool true]) ∧ Gr w w' := by
  have hmx : Tryz.prog.follows .mixedOrders = true := by kernel_rfl
  have HT : Hid (Tl (bx x w).drew tb b g n f) := (h.gr ((Gr.refl _).alloc _)).gr (Gr.refl _).drew
  have hblk : (bx x w).heap[w.heap.size]? = some (.cells #[.int .u64 x.1.1, .int .u64 x.1.2.1, .int .u64 x.1.2.2] 37 (0, 0)) := heap_alloc_new _ _
  have S0 : (bx x w).drew.cell? ⟨tb, 1, none⟩ = some (.map (some b)) ∧ (bx x w).drew.cell? ⟨w.heap.size, 0, none⟩ = some (.int .u64 x.1.1) ∧ (bx x w).drew.cell? ⟨w.heap.size, 1, none⟩ = some (.int .u64 x.1.2.1) ∧ (bx x w).drew.cell? ⟨w.heap.size, 2, none⟩ = some (.int .u64 x.1.2.2) := by
    refine ⟨HT.out.c1, ?_, ?_, ?_⟩ <;> (show (bx x w).cell? _ = _; simp only [World.cell?]; rw [hblk]; rfl)
  obtain ⟨D, hown, h1, h2⟩ := HT.out.ta
  have hx := h1 x
  obtain ⟨c, hrun, hat, _⟩ := hown.lookup_int ZT.law Tryz.underlying92 Tryz.underlying2 (zeroE _) (ZT.key x)
  have e0 : c = f x := by
    rw [hx] at hat
    simpa using hat.symm
  subst e0
  have hrun : (Instr.lookup 92 (.map (some b)) (tv x) false).run Tryz.prog (bx x w).drew = .ok (.int .i64 (f x)) (bx x w).drew := hrun
  have hG : Gr w (bx x w).drew := ((Gr.refl _).alloc _).drew
  clear hx hat h1 h2 hown h HT hblk
  generalize f x = r at hrun ⊢
  go_enter_defers Tryz.func71, Tryz.ntmps71
  go_wp2_with fail
  go_region_held3 (fun w' => w'.cell? ⟨tb, 1, none⟩ = some (.map (some b)) ∧ w'.cell? ⟨w.heap.size, 0, none⟩ = some (.int .u64 x.1.1) ∧ w'.cell? ⟨w.heap.size, 1, none⟩ = some (.int .u64 x.1.2.1) ∧ w'.cell? ⟨w.heap.size, 2, none⟩ = some (.int .u64 x.1.2.2))
    (first | exact S0) (fail)
  go_wp2
  refine leaves_cons (f := 80) (args := #[]) (by simp) (by simp [go_sem]) ?_
  refine (recover_idle _).mono ?_
  rintro e u' w'' ⟨rfl, rfl, rfl⟩
  simp [Leaves, settle, results, Tryz.results71, go_sem]
  exact hG
theorem bx_cells (x : Tm) (w : World) : (bx x w).cell? ⟨w.heap.size, 0, none⟩ = some (.int .u64 x.1.1) ∧ (bx x w).cell? ⟨w.heap.size, 1, none⟩ = some (.int .u64 x.1.2.1) ∧ (bx x w).cell? ⟨w.heap.size, 2, none⟩ = some (.int .u64 x.1.2.2) := by
  have hblk : (bx x w).heap[w.heap.size]? = some (.cells #[.int .u64 x.1.1, .int .u64 x.1.2.1, .int .u64 x.1.2.2] 37 (0, 0)) := heap_alloc_new _ _
  refine ⟨?_, ?_, ?_⟩ <;> (simp only [World.cell?]; rw [hblk]; rfl)
set_option maxHeartbeats 4000000 in
set_option maxRecDepth 100000 in
theorem set_any {tb b g n : Nat} {f : Tm → Int} (x : Tm) (v : Int) (w : World) (h : Tl w tb b g n f) (hn : n < maxLen) (hv : -2147483647 ≤ v ∧ v ≤ 2147483647) :
    Calls Tryz.prog 75 #[.pointer (some ⟨tb, 0, none⟩), tv x, .int .i64 v] w fun e w' => e = .returned (.tuple #[]) ∧ Tl w' tb b g (n + 1) (upd f x v) ∧ Kp (fun k => k = b) w w' := by
  have hmx : Tryz.prog.follows .mixedOrders = true := by kernel_rfl
  have HT : Hid (Tl (bx x w).drew tb b g n f) := (h.gr ((Gr.refl _).alloc _)).gr (Gr.refl _).drew
  have HG : Hid (Gr w (bx x w).drew) := ((Gr.refl _).alloc _).drew
  have S0 : (bx x w).drew.cell? ⟨tb, 1, none⟩ = some (.map (some b)) ∧ (bx x w).drew.cell? ⟨w.heap.size, 0, none⟩ = some (.int .u64 x.1.1) ∧ (bx x w).drew.cell? ⟨w.heap.size, 1, none⟩ = some (.int .u64 x.1.2.1) ∧ (bx x w).drew.cell? ⟨w.heap.size, 2, none⟩ = some (.int .u64 x.1.2.2) :=
    ⟨HT.out.c1, (bx_cells x w).1, (bx_cells x w).2.1, (bx_cells x w).2.2⟩
  have hbd' : ∀ s, -2147483647 ≤ upd f x v s ∧ upd f x v s ≤ 2147483647 := fun s => by unfold upd; split; exact hv; exact h.bd s
  have HBD : Hid (∀ s, -2147483647 ≤ upd f x v s ∧ upd f x v s ≤ 2147483647) := hbd'
  obtain ⟨D, hown, h1, h2⟩ := HT.out.ta
  have hne := HT.out.ne
  have hlt := HT.out.lt
  have hbl : b < w.heap.size := h.ta.lt
  have hbx : w.heap.size < (bx x w).drew.heap.size := by show w.heap.size < (bx x w).heap.size; simp
  clear h hbd'
  by_cases h0 : v = 0
  · subst h0
    have ht := del_tied h1 h2 x
    obtain ⟨w1, hrun, hown1, hturn1⟩ := hown.drop ZT.law Tryz.underlying92 (ZT.key x) 0
    have hrun : Sem.run Tryz.prog (Builtin.delete_ #[92, 37] 0 #[.map (some b), tv x]) (bx x w).drew = .ok (.tuple #[]) w1 := hrun
    have HGB : Hid ((bx x w).drew.grownBy w1 (some b)) := hturn1.grown
    have S1 : w1.cell? ⟨tb, 1, none⟩ = some (.map (some b)) ∧ w1.cell? ⟨w.heap.size, 0, none⟩ = some (.int .u64 x.1.1) ∧ w1.cell? ⟨w.heap.size, 1, none⟩ = some (.int .u64 x.1.2.1) ∧ w1.cell? ⟨w.heap.size, 2, none⟩ = some (.int .u64 x.1.2.2) := by
      have e1 : ∀ q, w1.cell? ⟨tb, q, none⟩ = (bx x w).drew.cell? ⟨tb, q, none⟩ := fun q => World.cell?_of_block (a := ⟨tb, q, none⟩) (HGB.out.block tb hlt (by simp [hne]))
      have e2 : ∀ q, w1.cell? ⟨w.heap.size, q, none⟩ = (bx x w).drew.cell? ⟨w.heap.size, q, none⟩ := fun q => World.cell?_of_block (a := ⟨w.heap.size, q, none⟩) (HGB.out.block w.heap.size hbx (by simp; omega))
      exact ⟨(e1 1).trans S0.1, (e2 0).trans S0.2.1, (e2 1).trans S0.2.2.1, (e2 2).trans S0.2.2.2⟩
    have HE : Hid (Tl w1 tb b g (n + 1) (upd f x 0) ∧ Kp (fun k => k = b) w w1) :=
      ⟨⟨(HGB.out.block tb hlt (by simp [hne])).trans HT.out.blk, ⟨_, hown1.mono (Nat.le_succ _), ht.1, ht.2⟩, HBD.out⟩, (Kp.of_gr (S := fun k => k = b) HG.out).trans (Kp.grownBy (S := fun k => k = b) HGB.out (fun k hk => by simpa using hk.symm)) (fun _ _ h => h)⟩
    clear h1 h2 hown hown1 hturn1 HGB HBD HT HG hlt hbx
    go_enter Tryz.func75, Tryz.ntmps75
    go_wp2_with fail
    go_region_held3 (fun w' => w'.cell? ⟨tb, 1, none⟩ = some (.map (some b)) ∧ w'.cell? ⟨w.heap.size, 0, none⟩ = some (.int .u64 x.1.1) ∧ w'.cell? ⟨w.heap.size, 1, none⟩ = some (.int .u64 x.1.2.1) ∧ w'.cell? ⟨w.heap.size, 2, none⟩ = some (.int .u64 x.1.2.2))
      (first | exact S0 | exact S1) (fail)
    go_wp2
    refine bodyPost_ret (results_none rfl _ _ _) rfl ?_
    exact ⟨rfl, HE.out.1, HE.out.2⟩
  · have ht := put_tied (hown.isMap) h1 h2 x v h0
    have hwf : (Lit.int .i64 v).wf = true := WalkArith.wf_i64 (by omega)
    obtain ⟨w1, hrun, hown1, hturn1⟩ := hown.store ZT.law Tryz.underlying92 hn (ZT.key x) (plainElem_int Tryz.underlying2 hwf)
    have hrun : (Instr.mapUpdate 92 (.map (some b)) (tv x) (.int .i64 v)).run Tryz.prog (bx x w).drew = .ok () w1 := hrun
    have HGB : Hid ((bx x w).drew.grownBy w1 (some b)) := hturn1.grown
    have S1 : w1.cell? ⟨tb, 1, none⟩ = some (.map (some b)) ∧ w1.cell? ⟨w.heap.size, 0, none⟩ = some (.int .u64 x.1.1) ∧ w1.cell? ⟨w.heap.size, 1, none⟩ = some (.int .u64 x.1.2.1) ∧ w1.cell? ⟨w.heap.size, 2, none⟩ = some (.int .u64 x.1.2.2) := by
      have e1 : ∀ q, w1.cell? ⟨tb, q, none⟩ = (bx x w).drew.cell? ⟨tb, q, none⟩ := fun q => World.cell?_of_block (a := ⟨tb, q, none⟩) (HGB.out.block tb hlt (by simp [hne]))
      have e2 : ∀ q, w1.cell? ⟨w.heap.size, q, none⟩ = (bx x w).drew.cell? ⟨w.heap.size, q, none⟩ := fun q => World.cell?_of_block (a := ⟨w.heap.size, q, none⟩) (HGB.out.block w.heap.size hbx (by simp; omega))
      exact ⟨(e1 1).trans S0.1, (e2 0).trans S0.2.1, (e2 1).trans S0.2.2.1, (e2 2).trans S0.2.2.2⟩
    have HE : Hid (Tl w1 tb b g (n + 1) (upd f x v) ∧ Kp (fun k => k = b) w w1) :=
      ⟨⟨(HGB.out.block tb hlt (by simp [hne])).trans HT.out.blk, ⟨_, hown1, ht.1, ht.2⟩, HBD.out⟩, (Kp.of_gr (S := fun k => k = b) HG.out).trans (Kp.grownBy (S := fun k => k = b) HGB.out (fun k hk => by simpa using hk.symm)) (fun _ _ h => h)⟩
    clear h1 h2 hown hown1 hturn1 HGB HBD HT HG hlt hbx
    go_enter Tryz.func75, Tryz.ntmps75
    go_wp2_with fail
    go_region_held3 (fun w' => w'.cell? ⟨tb, 1, none⟩ = some (.map (some b)) ∧ w'.cell? ⟨w.heap.size, 0, none⟩ = some (.int .u64 x.1.1) ∧ w'.cell? ⟨w.heap.size, 1, none⟩ = some (.int .u64 x.1.2.1) ∧ w'.cell? ⟨w.heap.size, 2, none⟩ = some (.int .u64 x.1.2.2))
      (first | exact S0 | exact S1) (fail)
    go_wp2
    go_end0
    exact ⟨rfl, HE.out.1, HE.out.2⟩
theorem bx_keep {x : Tm} {w w2 : World} (h : Gr (bx x w) w2) : w2.cell? ⟨w.heap.size, 0, none⟩ = some (.int .u64 x.1.1) ∧ w2.cell? ⟨w.heap.size, 1, none⟩ = some (.int .u64 x.1.2.1) ∧ w2.cell? ⟨w.heap.size, 2, none⟩ = some (.int .u64 x.1.2.2) := by
  have hz : w.heap.size < (bx x w).heap.size := by simp
  exact ⟨(h.cell hz).trans (bx_cells x w).1, (h.cell hz).trans (bx_cells x w).2.1, (h.cell hz).trans (bx_cells x w).2.2⟩
def addc (f : Tm → Int) (x : Tm) (v : Int) : Int := if byd v = true ∨ byd (f x + v) = true then 12 else 0
def addf (f : Tm → Int) (x : Tm) (v : Int) : Tm → Int := if byd v = true ∨ byd (f x + v) = true then f else upd f x (f x + v)
set_option maxHeartbeats 4000000 in
theorem add_any {tb b g n : Nat} {f : Tm → Int} (x : Tm) (v : Int) (w : World) (h : Tl w tb b g n f) (hn : n < maxLen) :
    Calls Tryz.prog 61 #[.pointer (some ⟨tb, 0, none⟩), tv x, .int .i64 v] w fun e w' => e = .returned (.int .i64 (addc f x v)) ∧ Tl w' tb b g (n + 1) (addf f x v) ∧ Kp (fun k => k = b) w w' := by
  have hb := h.bd x
  have HG : Hid (Gr w (bx x w)) := (Gr.refl _).alloc _
  have HT : Hid (Tl (bx x w) tb b g n f) := h.gr HG.out
  have hco := count_any x (bx x w) HT.out
  have hset := fun (W : World) (hW : Gr (bx x w) W) (hv : -2147483647 ≤ f x + v ∧ f x + v ≤ 2147483647) => set_any x (f x + v) W (HT.out.gr hW) hn hv
  have h1 := fun W => beyond_any v W
  have h2 := fun W => beyond_any (f x + v) W
  have HKP : Hid (∀ W, Gr (bx x w) W → Kp (fun k => k = b) w W) := fun W hW => (Kp.of_gr (HG.out.trans hW))
  unfold addc addf
  clear h
  cases hv : byd v with
  | true =>
    rw [hv] at h1
    clear hv
    rw [if_pos (Or.inl rfl), if_pos (Or.inl rfl)]
    go_enter Tryz.func61, Tryz.ntmps61
    go_wp2_with fail
    refine (h1 _).mono ?_
    rintro e w1 ⟨rfl, rfl⟩
    go_wp2
    go_ret
    exact ⟨rfl, ⟨HT.out.blk, HT.out.ta.mono (Nat.le_succ _), HT.out.bd⟩, HKP.out _ (Gr.refl _)⟩
  | false =>
    have hv' := byd_f.1 hv
    rw [hv] at h1
    clear hv
    cases hv2 : byd (f x + v) with
    | true =>
      rw [hv2] at h2
      clear hv2 hset
      rw [if_pos (Or.inr rfl), if_pos (Or.inr rfl)]
      generalize f x = c at *
      go_enter Tryz.func61, Tryz.ntmps61
      go_wp2_with fail
      refine (h1 _).mono ?_
      rintro e w1 ⟨rfl, rfl⟩
      go_wp2_with fail
      refine hco.mono ?_
      rintro e w2 ⟨rfl, g2⟩
      go_wp2_with fail
      refine (h2 _).mono ?_
      rintro e w3 ⟨rfl, rfl⟩
      go_wp2
      go_ret
      have ht := HT.out.gr g2
      exact ⟨rfl, ⟨ht.blk, ht.ta.mono (Nat.le_succ _), ht.bd⟩, HKP.out _ g2⟩
    | false =>
      have hv3 := byd_f.1 hv2
      rw [hv2] at h2
      clear hv2
      rw [if_neg (by simp), if_neg (by simp)]
      have hset2 := fun W hW => hset W hW hv3
      clear hset
      generalize f x = c at *
      go_enter Tryz.func61, Tryz.ntmps61
      go_wp2_with fail
      refine (h1 _).mono ?_
      rintro e w1 ⟨rfl, rfl⟩
      go_wp2_with fail
      refine hco.mono ?_
      rintro e w2 ⟨rfl, g2⟩
      obtain ⟨c0, c1, c2⟩ := bx_keep g2
      go_wp2_with fail
      refine (h2 _).mono ?_
      rintro e w3 ⟨rfl, rfl⟩
      go_wp2_with fail
      refine (hset2 _ g2).mono ?_
      rintro e w4 ⟨rfl, ht, hk⟩
      go_wp2
      go_ret
      exact ⟨rfl, ht, (HKP.out _ g2).trans hk (fun _ _ h => h)⟩
theorem get_any {tb b g n : Nat} {f : Tm → Int} (x : Tm) (w : World) (h : Tl w tb b g n f) :
    Calls Tryz.prog 55 #[.pointer (some ⟨tb, 0, none⟩), tv x] w fun e w' => e = .returned (.int .i64 (f x)) ∧ Gr w w' := by
  have HG : Hid (Gr w (bx x w)) := (Gr.refl _).alloc _
  have hco := count_any x (bx x w) (h.gr HG.out)
  generalize f x = c at hco ⊢
  clear h
  go_enter Tryz.func55, Tryz.ntmps55
  go_wp2_with fail
  refine hco.mono ?_
  rintro e w1 ⟨rfl, g1⟩
  go_wp2
  go_ret
  exact ⟨rfl, HG.out.trans g1⟩
theorem len_any {tb b g n : Nat} {f : Tm → Int} (w : World) (h : Tl w tb b g n f) :
    Calls Tryz.prog 56 #[.pointer (some ⟨tb, 0, none⟩)] w fun e w' => ∃ ks : List Tm, Sup f ks ∧ e = .returned (.int .i64 ks.length) ∧ w' = w := by
  have c1 := h.c1
  obtain ⟨D, hown, h1, h2⟩ := h.ta
  obtain ⟨ks, hks, hl⟩ := owns_sup hown h2
  have hlen := fun ty => hown.len Tryz.underlying92 ty
  clear h h1 h2 hown
  go_enter Tryz.func56, Tryz.ntmps56
  go_wp2
  go_ret
  exact ⟨ks, hks, by rw [hl]; rfl, rfl⟩
end Go.Proofs.YtnpmmodcmfgbjaaGreat.Tt
