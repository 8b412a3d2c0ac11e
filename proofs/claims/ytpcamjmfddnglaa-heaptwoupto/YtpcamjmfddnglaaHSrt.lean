import Derived.Test.YtpcamjmfddnglaaHStr
import Derived.Laws.OwnMore
namespace Go.Proofs.Ytpcamjmfddnglaa.Hs
open Go.RowKit Go.Sort Hp
attribute [local go_sem ↓] Go.wp_at_zero Go.wp_at_succ
/-- The order in which they come: places of l. -/
structure Srt (l : List ByteArray) (ix : List Nat) : Prop where
  nd : ix.Nodup
  len : ix.length = l.length
  lt : ∀ t ∈ ix, t < l.length
  fst : ∀ i t, ix[i]? = some t → ∀ j x y, j ∉ ix.take (i + 1) → l[t]? = some x → l[j]? = some y → x.size < y.size ∨ (x.size = y.size ∧ t < j)
/-- What the search has found. -/
def Sk (l : List ByteArray) (us : List Nat) (m : Nat) (kk : Int) : Prop :=
  (kk = -1 ∧ ∀ q, q < m → q ∈ us) ∨ ∃ (k : Nat) (x : ByteArray), kk = (k : Int) ∧ k < m ∧ l[k]? = some x ∧ k ∉ us ∧ ∀ q y, q < m → q ∉ us → l[q]? = some y → x.size < y.size ∨ (x.size = y.size ∧ k ≤ q)
theorem Sk.skip {l : List ByteArray} {us : List Nat} {m : Nat} {kk : Int} (h : Sk l us m kk) (hm : m ∈ us) : Sk l us (m + 1) kk := by
  rcases h with ⟨h1, h2⟩ | ⟨k, x, h1, h2, h3, h4, h5⟩
  · exact Or.inl ⟨h1, fun q hq => by
      by_cases e : q = m
      · exact e ▸ hm
      · exact h2 q (by omega)⟩
  · exact Or.inr ⟨k, x, h1, by omega, h3, h4, fun q y hq hn hy => h5 q y (by
      by_cases e : q = m
      · exact absurd (e ▸ hm) hn
      · omega) hn hy⟩
theorem Sk.take {l : List ByteArray} {us : List Nat} {m : Nat} {kk : Int} {y : ByteArray} (h : Sk l us m kk) (hm : m ∉ us) (hy : l[m]? = some y) (hl : kk < 0 ∨ ∃ (k : Nat) (x : ByteArray), kk = (k : Int) ∧ l[k]? = some x ∧ y.size < x.size) : Sk l us (m + 1) m := by
  refine Or.inr ⟨m, y, rfl, by omega, hy, hm, fun q z hq hn hz => ?_⟩
  by_cases e : q = m
  · subst e; rw [hy] at hz; cases hz; omega
  · rcases h with ⟨h1, h2⟩ | ⟨k, x, h1, h2, h3, h4, h5⟩
    · exact absurd (h2 q (by omega)) hn
    · rcases hl with hl | ⟨k', x', e1, e2, e3⟩
      · omega
      · have : k = k' := by omega
        subst this
        rw [h3] at e2; cases e2
        have := h5 q z (by omega) hn hz
        omega
theorem Sk.stay {l : List ByteArray} {us : List Nat} {m k : Nat} {x y : ByteArray} (h : Sk l us m k) (hx : l[k]? = some x) (hy : l[m]? = some y) (hl : ¬ y.size < x.size) : Sk l us (m + 1) k := by
  rcases h with ⟨h1, _⟩ | ⟨k', x', h1, h2, h3, h4, h5⟩
  · omega
  · have : k = k' := by omega
    subst this
    rw [hx] at h3; cases h3
    refine Or.inr ⟨k, x, rfl, by omega, hx, h4, fun q z hq hn hz => ?_⟩
    by_cases e : q = m
    · subst e; rw [hy] at hz; cases hz; omega
    · exact h5 q z (by omega) hn hz
/-- It has found the next one. -/
theorem Sk.done {l : List ByteArray} {ix : List Nat} {i t : Nat} {kk : Int} (hs : Srt l ix) (hi : ix[i]? = some t) (h : Sk l (ix.take i) l.length kk) : kk = (t : Int) := by
  have htl : t < l.length := hs.lt t (List.mem_of_getElem? hi)
  have htn : t ∉ ix.take i := by
    intro hm
    obtain ⟨j, hj, he⟩ := List.mem_take_iff_getElem.1 hm
    obtain ⟨hil, hie⟩ := List.getElem?_eq_some_iff.1 hi
    have := (List.getElem_inj (h₀ := by omega) (h₁ := hil) hs.nd).1 (he.trans hie.symm)
    omega
  rcases h with ⟨_, h2⟩ | ⟨k, x, h1, h2, h3, h4, h5⟩
  · exact absurd (h2 t htl) htn
  · have ht : l[t]? = some l[t] := by rw [List.getElem?_eq_getElem]
    have e1 := h5 t _ htl htn ht
    by_cases e : k = t
    · rw [h1, e]
    · have hk : k ∉ ix.take (i + 1) := by
        rw [List.take_add_one, hi]
        simp only [Option.toList_some, List.mem_append, List.mem_singleton, not_or]
        exact ⟨h4, e⟩
      have e2 := hs.fst i t hi k _ x hk ht h3
      omega
def EB : El Bool where
  k := 1
  enc s := [.bool s]
  len _ := rfl
  one x u hu := by
    simp at hu
    subst hu; rfl

theorem infoB : (Try.prog.info? 4).map (fun i => (i.zero, i.size, i.bytes)) = some (some (.bool false), 1, 1) := by kernel_rfl
/-- Which are used. -/
def usd (n : Nat) (us : List Nat) : List Bool := (List.range n).map fun q => decide (q ∈ us)
theorem usd_len (n : Nat) (us : List Nat) : (usd n us).length = n := by simp [usd]
theorem flB (l : List Bool) : fl EB l = l.map Value.bool := by
  induction l with
  | nil => rfl
  | cons n N ih => rw [fl_cons, ih]; rfl
theorem usd_get {n q : Nat} (us : List Nat) (h : q < n) : (fl EB (usd n us))[q]? = some (.bool (decide (q ∈ us))) := by
  rw [flB]
  simp [usd, h]
theorem usd_nil (n : Nat) : (madeCells (Value.bool false).cells (n * 1)).toList = fl EB (usd n []) := by
  rw [flB]
  apply List.ext_getElem?
  intro q
  by_cases h : q < n
  · simp [usd, madeCells, Value.cells, h, Nat.mod_one]
  · simp [usd, madeCells, Value.cells, h]
theorem usd_set {n t : Nat} (us : List Nat) (h : t < n) : (fl EB (usd n us)).set t (.bool true) = fl EB (usd n (us ++ [t])) := by
  rw [flB, flB]
  apply List.ext_getElem?
  intro q
  by_cases hq : q < n
  · by_cases e : t = q
    · subst e
      simp [usd, h]
    · rw [List.getElem?_set_ne e]
      have : ¬ q = t := fun h => e h.symm
      simp [usd, hq, this]
  · have : ¬ t = q := by omega
    rw [List.getElem?_set_ne this]
    simp [usd, hq]
/-- What is known at the head of a round. -/
structure Rs (w : World) (l : List ByteArray) (g : Nat) (us : List Nat) (wr : World) : Prop where
  row : wr.ownsRow 0 4 1 (.slice (some ⟨g, 0, none⟩) l.length l.length) l.length (fl EB (usd l.length us))
  kp : Kp (fun k => k = g) w wr
  ge : w.heap.size ≤ g
theorem Rs.gr {w wr w' : World} {l : List ByteArray} {g : Nat} {us : List Nat} (h : Rs w l g us wr) (hg : Gr wr w') : Rs w l g us w' := ⟨owns_below h.row hg.below, h.kp.trans (Kp.of_gr (S := fun k => k = g) hg) (fun _ _ h => h), h.ge⟩
theorem Rs.below {w wr : World} {l : List ByteArray} {g : Nat} {us : List Nat} (h : Rs w l g us wr) : Below w.heap.size w wr := h.kp.below (Nat.le_refl _) (fun k hk => by subst hk; exact h.ge)
theorem Rs.cell {w wr : World} {l : List ByteArray} {g q : Nat} {us : List Nat} (h : Rs w l g us wr) (hq : q < l.length) : wr.cell? ⟨g, q, none⟩ = some (.bool (decide (q ∈ us))) := by
  have := h.row.cells (g := g) rfl q _ (usd_get us hq)
  rw [addA, Nat.zero_add] at this
  exact this
theorem Rs.lt {w wr : World} {l : List ByteArray} {g : Nat} {us : List Nat} (h : Rs w l g us wr) : g < wr.heap.size := (h.row.lt g rfl).2

set_option maxHeartbeats 4000000 in
set_option maxRecDepth 100000 in
theorem sorted_any (va vb : Value) (out l : List ByteArray) (ix : List Nat) (w : World) (ha : Ls ES w va out) (hb : Ls ES w vb l) (hll : l.length ≤ 1048576) (hs : Srt l ix) (hol : out.length = l.length) (ho : ∀ (i t : Nat), ix[i]? = some t → out[i]? = l[t]?) :
    Calls Try.prog 18 #[va, vb] w fun e w' => e = .returned (.bool true) ∧ Below w.heap.size w w' := by
  have hmx : Try.prog.follows .mixedOrders = true := by kernel_rfl
  obtain ⟨pa, ca, rfl⟩ := ha.form
  obtain ⟨pb, cb, rfl⟩ := hb.form
  have HS : Hid (Srt l ix) := hs
  have HOL : Hid (out.length = l.length) := hol
  have hob : out.length ≤ 1048576 := by rw [hol]; exact hll
  have HO : Hid (∀ (i t : Nat), ix[i]? = some t → out[i]? = l[t]?) := ho
  have HA : Hid (Ls ES w (.slice pa out.length ca) out) := ha
  have HB : Hid (Ls ES w (.slice pb l.length cb) l) := hb
  obtain ⟨iB, hiB, hb0, hb1, hb2⟩ := info_parts infoB
  obtain ⟨w1, hmk, ho1, hg1⟩ := run_make_full (P := Try.prog) w 0 80 4 iB _ 1 Try.underlying80 hiB hb0 hb1 .i64 .i64 l.length (by rw [hb2]; omega) (by unfold maxLen; omega) (Nat.zero_le _)
  rw [usd_nil] at ho1
  obtain ⟨g, hg⟩ : ∃ g, g = w.heap.size := ⟨_, rfl⟩
  rw [← hg] at hmk ho1
  have HR1 : Hid (Rs w l g [] w1) := ⟨ho1, Kp.grownBy (S := fun k => k = g) hg1 (fun _ h => by cases h), by rw [hg]; exact Nat.le_refl _⟩
  clear ha hb hs hol ho hiB hb0 hb1 hb2 ho1 hg1 hg
  go_enter Try.func18, Try.ntmps18
  go_wp2_with fail
  clear hmk
  go_loopw [6, 7, 8] (fun s6 _ _ wr => ∃ i : Nat, i ≤ out.length ∧ s6 = .int .i64 i ∧ Hid (Rs w l g (ix.take i) wr)) (fun s6 _ _ _ => out.length - (RowKit.intOf s6).toNat)
  case atStart => exact ⟨0, Nat.zero_le _, rfl, by rw [List.take_zero]; exact HR1.out⟩
  case round =>
    clear HR1
    obtain ⟨i, hi, rfl, RR⟩ := hrel
    by_cases hlt : i < out.length
    · have hltz : (i : Int) < (out.length : Int) := by omega
      obtain ⟨t, ht⟩ : ∃ t, ix[i]? = some t := ⟨ix[i]'(by rw [HS.out.len, ← HOL.out]; exact hlt), by rw [List.getElem?_eq_getElem]⟩
      have HT : Hid (ix[i]? = some t) := ht
      have htl : t < l.length := HS.out.lt t (List.mem_of_getElem? ht)
      clear ht
      go_wp2_with fail
      go_loopw [7, 8] (fun s7 s8 w2 => ∃ (m : Nat) (kk : Int), m ≤ l.length ∧ s7 = .int .i64 kk ∧ s8 = .int .i64 m ∧ Hid (Sk l (ix.take i) m kk) ∧ Gr wr w2) (fun _ s8 _ => l.length - (RowKit.intOf s8).toNat)
      case atStart => exact ⟨0, -1, Nat.zero_le _, rfl, rfl, Or.inl ⟨rfl, fun q hq => absurd hq (Nat.not_lt_zero _)⟩, Gr.refl _⟩
      case round =>
        obtain ⟨m, kk, hm, rfl, rfl, SS, hg2⟩ := hrel
        have R2 := hid (RR.out.gr hg2)
        have HBL := hid (HB.out.below R2.out.below)
        have hgl := R2.out.lt
        by_cases hlt2 : m < l.length
        · have hlt2z : (m : Int) < (l.length : Int) := by omega
          have m0 : (0 : Int) ≤ (m : Int) := by omega
          have cu := R2.out.cell hlt2
          obtain ⟨y, hy⟩ : ∃ y, l[m]? = some y := ⟨l[m], by rw [List.getElem?_eq_getElem]⟩
          have HY : Hid (l[m]? = some y) := hy
          obtain ⟨b2, o2, c2, e2, z2, y1⟩ := s_at HBL.out hy
          simp only [Value.slice.injEq] at e2
          obtain ⟨rfl, -, rfl⟩ := e2
          clear hy
          by_cases hmu : m ∈ ix.take i
          · have SN := hid (SS.out.skip hmu)
            rw [decide_eq_true hmu] at cu
            clear hmu
            go_wp2_with fail
            go_quiet (fail)
            go_wp2
            go_roundw
            case rel => exact ⟨m + 1, kk, by omega, rfl, by go_num, SN.out, hg2.drewN _⟩
            case measure => simp [RowKit.intOf]; omega
          · rw [decide_eq_false hmu] at cu
            have HMU := hid hmu
            clear hmu
            by_cases hk0 : kk < 0
            · have SN := hid (SS.out.take HMU.out HY.out (Or.inl hk0))
              go_wp2_with fail
              go_quiet (fail)
              go_wp2
              go_roundw
              case rel => exact ⟨m + 1, m, by omega, rfl, by go_num, SN.out, hg2.drewN _⟩
              case measure => simp [RowKit.intOf]; omega
            · obtain ⟨k, x, hke, hkm, hkx⟩ : ∃ (k : Nat) (x : ByteArray), kk = (k : Int) ∧ k < m ∧ l[k]? = some x := by
                rcases SS.out with ⟨h, _⟩ | ⟨k, x, h1, h2, h3, _, _⟩
                · omega
                · exact ⟨k, x, h1, h2, h3⟩
              subst hke
              obtain ⟨b3, o3, c3, e3, z3, y3⟩ := s_at HBL.out hkx
              simp only [Value.slice.injEq, Option.some.injEq, Addr.mk.injEq, and_true] at e3
              obtain ⟨⟨rfl, rfl⟩, -, rfl⟩ := e3
              have HKX := hid hkx
              have k0 : (0 : Int) ≤ (k : Int) := by omega
              have k1 : (k : Int) < (l.length : Int) := by omega
              have k2 : ¬ (k : Int) < 0 := by omega
              clear hkx hk0
              by_cases hsz : y.size < x.size
              · have hszz : (y.size : Int) < (x.size : Int) := by omega
                have SN := hid (SS.out.take HMU.out HY.out (Or.inr ⟨k, x, rfl, HKX.out, hsz⟩))
                go_wp2_with fail
                go_quiet (fail)
                go_wp2
                go_roundw
                case rel => exact ⟨m + 1, m, by omega, rfl, by go_num, SN.out, hg2.drewN _⟩
                case measure => simp [RowKit.intOf]; omega
              · have hszz : ¬ (y.size : Int) < (x.size : Int) := by omega
                have SN := hid (SS.out.stay HKX.out HY.out hsz)
                go_wp2_with fail
                go_quiet (fail)
                go_wp2
                go_roundw
                case rel => exact ⟨m + 1, k, by omega, rfl, by go_num, SN.out, hg2.drewN _⟩
                case measure => simp [RowKit.intOf]; omega
        · have hlt2z : ¬ (m : Int) < (l.length : Int) := by omega
          have hml : m = l.length := by omega
          subst hml
          have hkt := SS.out.done HS.out HT.out
          subst hkt
          have HU : Hid (ix.take (i + 1) = ix.take i ++ [t]) := by
            have e : ix.take (i + 1) = ix.take i ++ ix[i]?.toList := List.take_add_one
            rw [HT.out] at e
            exact e
          obtain ⟨x, hx⟩ : ∃ x, l[t]? = some x := ⟨l[t], by rw [List.getElem?_eq_getElem]⟩
          have hxo : out[i]? = some x := (HO.out i t HT.out).trans hx
          have HAL := hid (HA.out.below R2.out.below)
          obtain ⟨b2, o2, c2, e2, z2, y1⟩ := s_at HBL.out hx
          simp only [Value.slice.injEq] at e2
          obtain ⟨rfl, -, rfl⟩ := e2
          obtain ⟨b3, o3, c3, e3, z3, y3⟩ := s_at HAL.out hxo
          simp only [Value.slice.injEq] at e3
          obtain ⟨rfl, -, rfl⟩ := e3
          have t0 : (0 : Int) ≤ (t : Int) := by omega
          have t1 : (t : Int) < (l.length : Int) := by omega
          have t2 : ¬ (t : Int) < 0 := by omega
          have i0 : (0 : Int) ≤ (i : Int) := by omega
          have hne : (x.toList != x.toList) = false := by simp
          have cu := R2.out.cell htl
          have cuf := owns_fz R2.out.row t
          have HGG := hid hg2
          clear hx hxo hlt2 hg2
          go_wp2_with fail
          go_quiet (fail)
          have cu2 : (wr.drewN nq).cell? ⟨g, t, none⟩ = _ := cu
          have R3 := hid (R2.out.gr ((Gr.refl _).drewN nq))
          have hgl3 := R3.out.lt
          have cuf3 := owns_fz R3.out.row t
          go_wp2
          go_roundw
          case rel =>
            refine ⟨i + 1, by omega, by go_num, ?_⟩
            obtain ⟨s1, s2⟩ := owns_cell (q := t) (.bool true) R3.out.row
            rw [usd_set _ htl, ← HU.out] at s1
            exact ⟨s1, R3.out.kp.trans s2 (fun _ _ h => h), R3.out.ge⟩
          case measure => simp [RowKit.intOf]; omega
    · have hltz : ¬ (i : Int) < (out.length : Int) := by omega
      have hlz : (out.length : Int) = (l.length : Int) := by rw [HOL.out]
      go_wp2
      go_ret
      exact ⟨by first | rfl | simp [hlz], RR.out.below⟩
end Go.Proofs.Ytpcamjmfddnglaa.Hs
