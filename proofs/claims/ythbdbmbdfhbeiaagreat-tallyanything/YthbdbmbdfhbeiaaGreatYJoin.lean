import Derived.Test.YthbdbmbdfhbeiaaGreatYKeys
import Derived.Deep.DeepCutAuto
import Derived.Deep.AppendLies
namespace Go.Proofs.YthbdbmbdfhbeiaaGreat
open Go.RowKit Go.Sort Go.Maps
attribute [local go_sem ↓] Go.wp_at_zero Go.wp_at_succ

/-- What keys will have, as they lie in a list. -/
def flatU : List (BS × Int) → List Value
  | [] => []
  | x :: l => .string x.1.1 :: .int .i64 x.2 :: flatU l
theorem flatU_append : ∀ a b : List (BS × Int), flatU (a ++ b) = flatU a ++ flatU b
  | [], b => rfl
  | x :: a, b => by simp [flatU, flatU_append a b]
theorem flatU_length : ∀ a : List (BS × Int), (flatU a).length = a.length * 2
  | [] => rfl
  | x :: a => by simp [flatU, flatU_length a]; omega
theorem flatU_get : ∀ (a : List (BS × Int)) (k : Nat) (x : BS × Int), a[k]? = some x → (flatU a)[k * 2]? = some (.string x.1.1) ∧ (flatU a)[k * 2 + 1]? = some (.int .i64 x.2)
  | [], k, x, h => by simp at h
  | y :: a, 0, x, h => by simp at h; subst h; simp [flatU]
  | y :: a, k + 1, x, h => by
    have := flatU_get a k x (by simpa using h)
    rw [show (k + 1) * 2 = k * 2 + 1 + 1 by omega]
    simpa [flatU] using this
theorem infoU : (Tryz.prog.info? 98).map (fun i => (i.zero, i.size, i.bytes)) = some (some (.agg #[.string ⟨#[]⟩, .int .i64 0]), 2, 24) := by kernel_rfl

/-- The counts when those of the first keys are joined. -/
def jup (f : BS → Int) (us : List (BS × Int)) : BS → Int := us.foldl (fun f u => upd f u.1 u.2) f
theorem jup_snoc (f : BS → Int) (us : List (BS × Int)) (u : BS × Int) : jup f (us ++ [u]) = upd (jup f us) u.1 u.2 := by simp [jup, List.foldl_append]
theorem jup_other : ∀ (us : List (BS × Int)) (f : BS → Int) (x : BS), (∀ u ∈ us, u.1 ≠ x) → jup f us x = f x
  | [], _, _, _ => rfl
  | u :: us, f, x, h => by
    have := jup_other us (upd f u.1 u.2) x fun v hv => h v (List.mem_cons_of_mem _ hv)
    show jup (upd f u.1 u.2) us x = f x
    rw [this, upd_other _ _ (fun e => h u List.mem_cons_self e.symm)]
theorem jup_mem : ∀ (us : List (BS × Int)) (f s : BS → Int) (x : BS), (∀ u ∈ us, u.2 = s u.1) → (∃ u ∈ us, u.1 = x) → jup f us x = s x
  | [], _, _, _, _, h => by obtain ⟨u, hu, _⟩ := h; cases hu
  | u :: us, f, s, x, hs, h => by
    show jup (upd f u.1 u.2) us x = s x
    by_cases hx : ∃ v ∈ us, v.1 = x
    · exact jup_mem us _ s x (fun v hv => hs v (List.mem_cons_of_mem _ hv)) hx
    · have : u.1 = x := by
        obtain ⟨v, hv, hvx⟩ := h
        rcases List.mem_cons.1 hv with rfl | hv
        · exact hvx
        · exact absurd ⟨v, hv, hvx⟩ hx
      rw [jup_other us _ x (fun v hv e => hx ⟨v, hv, e⟩), ← this, upd_same, hs u List.mem_cons_self]

set_option maxHeartbeats 4000000 in
set_option maxRecDepth 100000 in
theorem join_any {tb b g n ob bo go m : Nat} {f h : BS → Int} (w : World) (ht : Tl w tb b g n f) (hu : Tl w ob bo go m h) (hm : (n + m) * 24 ≤ 140737488355328) :
    Calls Tryz.prog 26 #[.pointer (some ⟨tb, 0, none⟩), .pointer (some ⟨ob, 0, none⟩)] w fun e w' =>
      ((∃ x, byd (f x + h x) = true) ∧ e = .returned (.int .i64 12) ∧ Below w.heap.size w w') ∨
      ((∀ x, byd (f x + h x) = false) ∧ e = .returned (.int .i64 0) ∧ Tl w' tb b g (n + m) (fun x => f x + h x) ∧ Kp (fun k => k = b) w w') := by
  obtain ⟨i0, hi, hz0, hz1, hz2⟩ := info_parts infoU
  have HT : Hid (Tl w tb b g n f) := ht
  have HU : Hid (Tl w ob bo go m h) := hu
  have HM : Hid ((n + m) * 24 ≤ 140737488355328) := hm
  have c1 := hu.c1
  have hltT := ht.lt
  have hltU := hu.lt
  obtain ⟨D, hown, h1, h2⟩ := hu.ta
  obtain ⟨DT, hownT, k1, k2⟩ := ht.ta
  have hbl := hown.lt
  have hsz := hown.size_le
  have hlen := fun ty => hown.len Tryz.underlying92 ty
  clear ht hu
  go_enter Tryz.func26, Tryz.ntmps26
  go_wp2_with (first
    | (at_make; refine wpList_make_own _ rfl _ _ 96 rfl w.heap.size 98 i0 (.agg #[.string ⟨#[]⟩, .int .i64 0]) 2 Tryz.underlying96 hi hz0 hz1 _ _ _ (Maps.size D) rfl rfl rfl (by rw [hz2]; omega) (by unfold maxLen; omega) (Nat.le_refl _) ?_; intro w1 hrow1 hg1
       have c1b := (HU.out.kp (Kp.grownBy (S := fun _ => False) hg1 (fun k hk => by cases hk)) (fun h => h) (fun h => h)).c1)
    | (at_range; refine wpList_range_own _ rfl _ 92 rfl 9 2 ZS.law Tryz.underlying92 _ bo m _ rfl (hown.kept hg1 (by simp)) ?_; intro w0 hrg0 hg0 hs0)
    | go_in)
  go_frame
  go_loopw [5] (fun v wr => ∃ (left : Lit → Bool) (cnt : Nat) (us : List (BS × Int)), wr.ranges Tryz.prog 9 (plainElem Tryz.prog 2) bo w1.heap.size m D left cnt ∧ us.length + cnt ≤ Maps.size D ∧
      wr.ownsRow w.heap.size 98 2 v us.length (flatU us) ∧ v ≠ .slice none 0 0 ∧ Coll ZS D left (us.map (·.1)) ∧ (∀ u ∈ us, u.2 = f u.1 + h u.1 ∧ byd (f u.1 + h u.1) = false) ∧ Below w.heap.size w wr)
    (fun _ wr => wr.rangeLeft bo w1.heap.size)
  case atStart =>
    exact ⟨_, _, [], hrg0, by simp, hrow1.kept hg0 (Or.inr (by simp [Value.ownBlock])), by simp, Coll.start D, by simp,
      ((Below.refl _ _).grown hg1 (Nat.le_refl _) (fun j hj => by cases hj)).grown hg0 hg1.size (fun j hj => by cases hj)⟩
  case round =>
    obtain ⟨left, cnt, us, hrg, hcs, hrow, hnn, hC, hus, hnx⟩ := hrel
    go_wp2_with (first
      | (at_next; refine wpList_next_ranges _ rfl _ rfl 9 ZS.law (plainElem Tryz.prog 2) sv (Value.int .i64) (fun key kl hk => sv_inv hk) (fun v y hv => by obtain ⟨c, rfl, _⟩ := plainElem_int_inv Tryz.underlying2 hv; exact ⟨c, rfl⟩) bo w1.heap.size m _ _ _ rfl hrg ?_ ?_)
      | go_in)
    · intro hc0 hl0
      rcases hrow.2 with ⟨hnil, _⟩ | ⟨gb, cap, cur, rfl, hbase, hb, h3, h4, h5, h6⟩
      · exact absurd hnil hnn
      have HS := hC.sup h2 hl0
      have HU2 : Hid (∀ u ∈ us, u.2 = f u.1 + h u.1 ∧ byd (f u.1 + h u.1) = false) := hus
      have HN : Hid (Below w.heap.size w wr) := hnx
      have HR : Hid (wr.ownsRow w.heap.size 98 2 (.slice (some ⟨gb, 0, none⟩) us.length cap) us.length (flatU us)) := hrow
      have HT3 : Hid (Tl wr tb b g n f) := HT.out.below hnx
      have hul : us.length ≤ m := by omega
      have hbw : b < w.heap.size := HT.out.ta.lt
      have hgl : gb < wr.heap.size := (Array.getElem?_eq_some_iff.1 hb).1
      clear hC hus hnx hrow hrg hb h3 h4 h5 h6 h1 h2 k1 k2 hnn hl0
      obtain ⟨wL, hwL⟩ : ∃ x, x = wr := ⟨wr, rfl⟩
      subst hwL
      go_wp2_with fail
      go_loopw [10, 49] (fun _ s49 wk => ∃ k : Nat, k ≤ us.length ∧ s49 = .int .i64 k ∧ Tl wk tb b g (n + k) (jup f (us.take k)) ∧ Kp (fun j => j = b) wL wk) (fun _ s49 _ => us.length - (RowKit.intOf s49).toNat)
      case atStart => exact ⟨0, Nat.zero_le _, rfl, HT3.out, Kp.refl _ _⟩
      case round =>
        obtain ⟨k, hk, rfl, htk, hkp⟩ := hrel
        by_cases hlt : k < us.length
        · have hltz : (k : Int) < (us.length : Int) := by omega
          obtain ⟨u, hu⟩ : ∃ u, us[k]? = some u := ⟨us[k], by simp⟩
          have hgw : gb < wr.heap.size := Nat.lt_of_lt_of_le hgl hkp.size
          have hcells : ∀ j v, (flatU us)[j]? = some v → wr.cell? ⟨gb, j, none⟩ = some v := fun j v hj => by
            have e1 := HR.out.cells (g := gb) rfl j v hj
            have e2 : (⟨gb, 0, none⟩ : Addr).add j = ⟨gb, j, none⟩ := by unfold Addr.add; split <;> simp_all
            rw [e2] at e1
            rw [World.cell?_of_block (a := ⟨gb, j, none⟩) (hkp.block gb hgl (by omega))]
            exact e1
          have x1 := hcells _ _ (flatU_get us k u hu).1
          have x2 := hcells _ _ (flatU_get us k u hu).2
          have hub := (HU2.out u (List.mem_of_getElem? hu))
          have hrange := byd_f.1 hub.2
          rw [← hub.1] at hrange
          have hset := fun W hW => set_any (tb := tb) (b := b) (g := g) (n := n + k) (f := jup f (us.take k)) u.1 u.2 W hW (by unfold maxLen; omega) hrange
          have HT4 : Hid (Tl wr tb b g (n + k) (jup f (us.take k))) := htk
          have HK4 : Hid (Kp (fun j => j = b) wL wr) := hkp
          have HJ : Hid (jup f (us.take (k + 1)) = upd (jup f (us.take k)) u.1 u.2) := by
            rw [List.take_add_one, hu]; exact jup_snoc _ _ _
          clear htk hkp hcells hu hub hrange
          obtain ⟨⟨xv, xp⟩, c⟩ := u
          go_wp2_with fail
          refine (hset _ (HT4.out.gr ((Gr.refl _).alloc _))).mono ?_
          rintro e w5 ⟨rfl, ht5, hk5⟩
          go_wp2
          refine ⟨⟨k + 1, by omega, by go_num, by rw [HJ.out]; exact ht5, HK4.out.trans ((Kp.of_gr (S := fun j => j = b) ((Gr.refl _).alloc _)).trans hk5 (fun _ _ h => h)) (fun _ _ h => h)⟩, by simp [RowKit.intOf]; omega⟩
        · have hltz : ¬ (k : Int) < (us.length : Int) := by omega
          obtain rfl : k = us.length := by omega
          rw [List.take_length] at htk
          have hfin : jup f us = fun x => f x + h x := by
            funext x
            by_cases hx : ∃ u ∈ us, u.1 = x
            · exact jup_mem us f (fun x => f x + h x) x (fun u hu => (HU2.out u hu).1) hx
            · rw [jup_other us f x (fun u hu e => hx ⟨u, hu, e⟩)]
              have : ¬ h x ≠ 0 := fun h0 => by
                obtain ⟨u, hu, e⟩ := List.mem_map.1 ((HS.2 x).2 h0)
                exact hx ⟨u, hu, e⟩
              omega
          have hall : ∀ x, byd (f x + h x) = false := fun x => by
            by_cases hx : ∃ u ∈ us, u.1 = x
            · obtain ⟨u, hu, rfl⟩ := hx
              exact (HU2.out u hu).2
            · have : ¬ h x ≠ 0 := fun h0 => by
                obtain ⟨u, hu, e⟩ := List.mem_map.1 ((HS.2 x).2 h0)
                exact hx ⟨u, hu, e⟩
              have hb := HT.out.bd x
              rw [byd_f]
              omega
          rw [hfin] at htk
          have HF : Hid (∀ x, byd (f x + h x) = false) := hall
          clear hall hfin
          go_wp2
          go_ret
          refine Or.inr ⟨fun a b => HF.out ⟨a, b⟩, rfl, ⟨htk.blk, htk.ta.mono (by omega), htk.bd⟩, (Kp.of_below HN.out).trans hkp (fun _ _ h => h)⟩
    · intro xv xp c kl yd yp w2 cnt2 hkey hlk hv hat hrg2 hlt2 hg2 hs2 hen
      obtain rfl : kl = ZS.lit ⟨xv, xp⟩ := by
        have h7 := (ZS.key ⟨xv, xp⟩).symm.trans hkey
        exact (Option.some.inj h7).symm
      obtain rfl : c = h ⟨xv, xp⟩ := by
        obtain ⟨c', e1, e2, _⟩ := plainElem_int_inv Tryz.underlying2 hv
        have e3 := (h1 ⟨xv, xp⟩).symm.trans (hat _)
        cases e1
        cases e2
        simpa using e3.symm
      have hrow2 := hrow.kept hg2 (Or.inr (row_ne_iter hrow hrg).symm)
      have hB2 : Below w.heap.size w w2 := hnx.grown hg2 hnx.size (fun j hj => by cases hj; exact hg1.size)
      have hT2 := HT.out.below hB2
      have c1t := hT2.c1
      have hownT2 : w2.ownsMap Tryz.prog 9 (plainElem Tryz.prog 2) b n DT := by
        obtain ⟨es, clock, q1, q2⟩ := hownT
        exact ⟨es, clock, (hB2.block b HT.out.ta.lt).trans q1, q2⟩
      clear hs2 hT2
      obtain ⟨cT, hrun, hatT, _⟩ := hownT2.lookup_int ZS.law Tryz.underlying92 Tryz.underlying2 (zeroE _) (ZS.key ⟨xv, xp⟩)
      obtain rfl : cT = f ⟨xv, xp⟩ := by
        have e3 := (k1 ⟨xv, xp⟩).symm.trans hatT
        simpa using e3.symm
      have hrun : (Instr.lookup 92 (.map (some b)) (.string xv) false).run Tryz.prog w2 = .ok (.int .i64 (f ⟨xv, xp⟩)) w2 := hrun
      clear hatT hownT2
      have hbU := HU.out.bd ⟨xv, xp⟩
      have hbT := HT.out.bd ⟨xv, xp⟩
      have hbey := fun W => beyond_any (f ⟨xv, xp⟩ + h ⟨xv, xp⟩) W
      have HC : Hid (Coll ZS D left (us.map (·.1))) := hC
      have HS : Hid (∀ u ∈ us, u.2 = f u.1 + h u.1 ∧ byd (f u.1 + h u.1) = false) := hus
      have HA : Hid (∀ zd, D.atKey (ZS.lit ⟨xv, xp⟩) zd = yd) := hat
      have HK : Hid (left (ZS.lit ⟨xv, xp⟩) = true) := hlk
      have HB2 : Hid (Below w.heap.size w w2) := hB2
      clear hC hus hat hlk hv hkey h1 h2 k1 k2 hB2
      obtain ⟨p, hp⟩ : ∃ p, p = f ⟨xv, xp⟩ := ⟨_, rfl⟩
      obtain ⟨q, hq⟩ : ∃ q, q = h ⟨xv, xp⟩ := ⟨_, rfl⟩
      have HP : Hid (p = f ⟨xv, xp⟩ ∧ q = h ⟨xv, xp⟩) := ⟨hp, hq⟩
      rw [← hp, ← hq] at hbey
      rw [← hp] at hbT hrun
      rw [← hq] at hbU hen
      have hh : h ⟨xv, xp⟩ = q := hq.symm
      clear hp hq
      cases hb : byd (p + q) with
      | true =>
        rw [hb] at hbey
        have HBT : Hid (byd (p + q) = true) := hb
        clear hb
        go_wp2_with fail
        refine (hbey _).mono ?_
        rintro e w3 ⟨rfl, rfl⟩
        go_wp2
        go_ret
        exact Or.inl ⟨⟨⟨xv, xp⟩, by rw [← HP.out.1, ← HP.out.2]; exact HBT.out⟩, rfl, HB2.out⟩
      | false =>
        rw [hb] at hbey
        have HBF : Hid (byd (p + q) = false) := hb
        clear hb
        go_wp2_with fail
        refine (hbey _).mono ?_
        rintro e w3 ⟨rfl, rfl⟩
        go_wp2_with (first
          | (at_builtin; refine wpList_append_own _ rfl _ _ 96 rfl w.heap.size 98 i0 (.agg #[.string ⟨#[]⟩, .int .i64 0]) 2 24 Tryz.underlying96 hi hz0 hz1 hz2 rfl (by decide) _ _ _ rfl (hrow2.alloc _) ⟨w3.heap.size, 0, none⟩ 1 1 [.string xv, .int .i64 (p + q)] rfl rfl (World.news_of_block (heap_alloc_new _ _)) (by simp [Value.oneCell']) (by unfold maxLen at *; omega) (by omega) (by have := hnx.size; have := hg2.size; simp; omega) ?_; intro v' w4 hown' hg4 hnil4; go_frame)
          | go_in)
        have hrg3 := (hrg2.alloc _).kept hg4 (row_ne_low hrow2 hbl) (row_ne_iter hrow2 hrg2)
        go_roundw
        case rel =>
          refine ⟨_, cnt2, us ++ [(⟨xv, xp⟩, p + q)], hrg3, by simp; omega, ?_, fun hv' => by have := (hnil4.1 hv').2; omega, ?_, ?_, ?_⟩
          · simpa [flatU_append, flatU] using hown'
          · rw [List.map_append]; exact HC.out.step HK.out HA.out
          · intro u hu
            rcases List.mem_append.1 hu with hu | hu
            · exact HS.out u hu
            · simp at hu; subst hu; simp only; rw [← HP.out.1, ← HP.out.2]; exact ⟨rfl, HBF.out⟩
          · exact (HB2.out.alloc (by have := hnx.size; have := hg2.size; omega) _).grown hg4 (by have := hnx.size; have := hg2.size; simp; omega) (fun j hj => (hrow2.lt j hj).1)
        case measure => rw [hrg3.left_eq, hrg.left_eq]; exact hlt2
end Go.Proofs.YthbdbmbdfhbeiaaGreat
