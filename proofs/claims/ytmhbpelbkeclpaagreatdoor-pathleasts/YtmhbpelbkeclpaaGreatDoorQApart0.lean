import Derived.Test.YtmhbpelbkeclpaaGreatDoorQFam
import Derived.Test.YtmhbpelbkeclpaaGreatDoorQRef
import Derived.Deep.RegionHeld3
namespace Go.Proofs.YtmhbpelbkeclpaaGreatDoor
open Go.RowKit Go.Shelf Go.Lib
open Go.Sort hiding Below

def ET3 : Q.El T3 := ⟨3, encT, fun _ => rfl, fun x u hu => by simp [encT] at hu; rcases hu with rfl | rfl | rfl <;> rfl⟩
theorem fl_ET (l : List T3) : Q.fl ET3 l = flat l := rfl
theorem ls_ET (w : World) (v : Value) (l : List T3) : Q.Ls ET3 w v l ↔ Lst w v l := Iff.rfl
/-- The mark of place j of list i. -/
def mkP (i j : Nat) : T3 := (18446744073709551615, 18446744073709551615 - (i : Int), 18446744073709551608 - (j : Int))

set_option maxHeartbeats 1000000 in
set_option maxRecDepth 100000 in
theorem pmark_any (i j : Nat) (hi : i < 1000) (hj : j < 9223372036854775807) (w : World) :
    Calls Tryz.prog 15 #[.int .i64 (i : Int), .int .i64 (j : Int)] w fun e w' => e = .returned (.agg #[.int .u64 18446744073709551615, .int .u64 (18446744073709551615 - (i : Int)), .int .u64 (18446744073709551608 - (j : Int))]) ∧ Gr w w' := by
  have h1 : IntKind.u64.wrap (i : Int) = (i : Int) := by rw [IntKind.wrap_u64]; omega
  have h2 : IntKind.u64.wrap (j : Int) = (j : Int) := by rw [IntKind.wrap_u64]; omega
  have h3 : IntKind.u64.wrap (18446744073709551615 - (i : Int)) = 18446744073709551615 - (i : Int) := by rw [IntKind.wrap_u64]; omega
  have h4 : IntKind.u64.wrap (18446744073709551608 - (j : Int)) = 18446744073709551608 - (j : Int) := by rw [IntKind.wrap_u64]; omega
  go_enter Tryz.func15, Tryz.ntmps15
  go_wp2
  exact bodyPost_ret (v := .agg #[.int .u64 18446744073709551615, .int .u64 (18446744073709551615 - (i : Int)), .int .u64 (18446744073709551608 - (j : Int))]) (by simp [results, Tryz.results15, go_sem]) rfl ⟨rfl, (Gr.refl _).alloc _⟩

/-- One of a row of one's own is stored: the row, and what stays. -/
theorem owns_tmk {w : World} {e : TypeId} {g n cap i : Nat} {L : List T3} (x : T3) (h : w.ownsRow 0 e 3 (.slice (some ⟨g, 0, none⟩) n cap) n (flat L)) :
    (((w.setCell ⟨g, i * 3, none⟩ (.int .u64 x.1)).setCell ⟨g, i * 3 + 1, none⟩ (.int .u64 x.2.1)).setCell ⟨g, i * 3 + 2, none⟩ (.int .u64 x.2.2)).ownsRow 0 e 3 (.slice (some ⟨g, 0, none⟩) n cap) n (flat (L.set i x)) ∧
      Q.Kp (fun q => q = g) w (((w.setCell ⟨g, i * 3, none⟩ (.int .u64 x.1)).setCell ⟨g, i * 3 + 1, none⟩ (.int .u64 x.2.1)).setCell ⟨g, i * 3 + 2, none⟩ (.int .u64 x.2.2)) := by
  obtain ⟨a1, k1⟩ := Q.owns_cell0 (q := i * 3) (.int .u64 x.1) h
  obtain ⟨a2, k2⟩ := Q.owns_cell0 (q := i * 3 + 1) (.int .u64 x.2.1) a1
  obtain ⟨a3, k3⟩ := Q.owns_cell0 (q := i * 3 + 2) (.int .u64 x.2.2) a2
  rw [flat_set] at a3
  exact ⟨a3, (k1.trans k2 (fun _ _ h => h)).trans k3 (fun _ _ h => h)⟩
theorem infoLP : (Tryz.prog.info? 33).map (fun i => (i.zero, i.size, i.bytes)) = some (some (.slice none 0 0), 1, 24) := by kernel_rfl
/-- What is marked and grown. -/
def Sq (V : Nat → Value) (q : Nat) : Prop := ∃ i, i < 4 ∧ (V i).ownBlock = some q
theorem fam_mark {W : World} {k g len cap i : Nat} {V : Nat → Value} {C : Nat → List T3} (h : Q.Fam ET3 34 W 4 V (Q.stage mkP C k i)) (hk : k < 4) (hV : V k = .slice (some ⟨g, 0, none⟩) len cap) (hl : (C k).length = len) (hi : i < (C k).length) :
    Q.Fam ET3 34 (((W.setCell ⟨g, i * 3, none⟩ (.int .u64 (mkP k i).1)).setCell ⟨g, i * 3 + 1, none⟩ (.int .u64 (mkP k i).2.1)).setCell ⟨g, i * 3 + 2, none⟩ (.int .u64 (mkP k i).2.2)) 4 V (Q.stage mkP C k (i + 1)) ∧
      Q.Kp (Sq V) W (((W.setCell ⟨g, i * 3, none⟩ (.int .u64 (mkP k i).1)).setCell ⟨g, i * 3 + 1, none⟩ (.int .u64 (mkP k i).2.1)).setCell ⟨g, i * 3 + 2, none⟩ (.int .u64 (mkP k i).2.2)) := by
  have hlen := Q.stage_len mkP C k i k (by omega)
  have ho := h.own k hk
  rw [hV, hlen, hl] at ho
  obtain ⟨h1, h2⟩ := owns_tmk (i := i) (mkP k i) ho
  obtain ⟨h3, h4⟩ := h.set hk hV (mkP k i) (Q.stage_step mkP C k i hi) (by rw [hlen, hl]; exact h1) h2
  exact ⟨h3, h4.mono (fun q hq => ⟨k, hk, hq⟩)⟩
theorem kp_gr {S : Nat → Prop} {w w1 w2 : World} (h : Q.Kp S w w1) (hg : Gr w1 w2) : Q.Kp S w w2 := h.trans (Q.Kp.of_gr hg) (fun _ _ h => h)
theorem old_ls {W0 W : World} {e : TypeId} {v : Value} {n : Nat} {l : List T3} (ho : W0.ownsRow 0 e 3 v n (flat l)) (hn : l.length = n) (hs : W0.heap.size ≤ W.heap.size) (hold : ∀ q, v.ownBlock = some q → ∀ j u, (flat l)[j]? = some u → W.cell? ⟨q, j, none⟩ = some u) : Lst W v l := by
  subst hn
  obtain ⟨_, ⟨h0, h1⟩ | ⟨g, cap, cur, hv, _, hgg, _⟩⟩ := id ho
  · exact Or.inl ⟨List.eq_nil_of_length_eq_zero h1, h0⟩
  · refine Or.inr ⟨g, 0, cap, hv, Nat.lt_of_lt_of_le (Array.getElem?_eq_some_iff.1 hgg).1 hs, fun j u hj => ?_⟩
    rw [Nat.zero_add]
    exact hold g (by rw [hv]; rfl) j u hj
theorem mks_flat (k n : Nat) : flat (Q.mks mkP k n) ++ encT (mkP k n) = flat (Q.mks mkP k (n + 1)) := by
  rw [Q.mks_succ, flat_append]
  simp [flat]
theorem meas_up (n i : Nat) (h : i < n) : n - (RowKit.intOf (.int .i64 ((i : Int) + 1))).toNat < n - (RowKit.intOf (.int .i64 (i : Int))).toNat := by simp [RowKit.intOf]; omega
end Go.Proofs.YtmhbpelbkeclpaaGreatDoor
