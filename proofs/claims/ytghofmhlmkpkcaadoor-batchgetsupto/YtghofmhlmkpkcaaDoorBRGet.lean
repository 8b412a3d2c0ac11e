import Derived.Test.YtghofmhlmkpkcaaDoorBROne
import Derived.Test.YtghofmhlmkpkcaaDoorBRef1
namespace Go.Proofs.YtghofmhlmkpkcaaDoor.Wi
open Go.RowKit Go.Sort
attribute [local go_sem ↓] Go.wp_at_zero Go.wp_at_succ
/-- While the document gets a list. -/
structure Gd (w wr : World) (rb : Nat) (v la : Value) (L : List UInt8) (at_ : Nat) (acc : List Cx) : Prop where
  rd : Rr wr rb v L at_ 0
  bl : Below w.heap.size w wr
  nb : w.heap.size ≤ rb
  od : ∀ g, v.ownBlock = some g → w.heap.size ≤ g
  ro : wr.ownsRow w.heap.size 43 5 la acc.length (fl EC acc)
  ne : la.ownBlock ≠ some rb
  nd : ∀ g, la.ownBlock = some g → v.ownBlock ≠ some g
section
variable {w wr : World} {rb at_ : Nat} {v la : Value} {L : List UInt8} {acc : List Cx}
theorem Gd.read (h : Gd w wr rb v la L at_ acc) {w2 : World} {v2 : Value} {a2 : Nat} (hR : Rr w2 rb v2 L a2 0) (ho : ∀ k, v2.ownBlock = some k → v.ownBlock = some k) (hk : Kp (fun k => k = rb) wr w2) : Gd w w2 rb v2 la L a2 acc :=
  ⟨hR, h.bl.trans (hk.below h.bl.size (fun _ hk => hk ▸ h.nb)), h.nb, fun g hg => h.od g (ho g hg), owns_kp hk h.ro (fun _ hk e => h.ne (e ▸ hk)), h.ne, fun g hg e => h.nd g hg (ho g e)⟩
theorem Gd.gr (h : Gd w wr rb v la L at_ acc) {w2 : World} (hg : Gr wr w2) : Gd w w2 rb v la L at_ acc := h.read (h.rd.below hg.below) (fun _ h => h) (Kp.of_gr hg)
theorem Gd.grow (h : Gd w wr rb v la L at_ acc) {w2 : World} {lb : Value} {acc2 : List Cx} (ho : w2.ownsRow w.heap.size 43 5 lb acc2.length (fl EC acc2)) (ht : Tn la lb wr w2) : Gd w w2 rb v lb L at_ acc2 := by
  refine ⟨h.rd.kp ht.1 h.ne (fun k hk e => h.nd k e hk), h.bl.trans (ht.1.below h.bl.size (fun k hk => (h.ro.lt k hk).1)), h.nb, h.od, ho, fun e => ?_, fun g hg e => ?_⟩
  · rcases ht.2 _ e with h1 | h1
    · exact h.ne h1
    · have := h.rd.lt; omega
  · rcases ht.2 _ hg with h1 | h1
    · exact h.nd g h1 e
    · have := h.rd.ls.blk g e; omega
theorem Gd.list (h : Gd w wr rb v la L at_ acc) : Ls EC wr la acc := owns_ls (E := EC) h.ro
end
/-- What the document's Get leaves. -/
def Gtr (w : World) (x : Except Er (List Cx)) (r : Ending) (w' : World) : Prop :=
  Below w.heap.size w w' ∧ match x with
  | .ok l => ∃ d, r = .returned (.tuple #[d, .int .i64 0, .int .i64 0]) ∧ w'.ownsRow w.heap.size 43 5 d l.length (fl EC l)
  | .error (p, e) => r = .returned (.tuple #[.slice none 0 0, .int .i64 (p : Nat), .int .i64 (e : Nat)])
set_option maxHeartbeats 16000000 in
set_option maxRecDepth 100000 in
theorem rget15_any {v : Value} {L : List UInt8} (w : World) (hL : Ls EB w v L) (hl : 8 * L.length + 100 ≤ 140737488355328) :
    Calls Tryd.prog 39 #[v] w fun r w' => Gtr w (bget L) r w' := by
  have hmx : Tryd.prog.follows .mixedOrders = true := by kernel_rfl
  obtain ⟨pv, cv, rfl⟩ := hL.form
  by_cases h0 : L = []
  · subst h0
    clear hL
    go_enter Tryd.func39, Tryd.ntmps39
    go_wp2_with fail
    refine bodyPost_ret (v := .tuple #[.slice none 0 0, .int .i64 0, .int .i64 0]) (by simp [results, Tryd.results39, go_sem]) rfl ?_
    show Gtr _ _ _ _
    exact ⟨Below.refl _ _, _, rfl, World.ownsRow_nil _ _ _ _⟩
  have hnr := rnewreader_any w hL (by omega)
  have hz0 : ¬ (L.length : Int) = 0 := fun e => h0 (List.eq_nil_of_length_eq_zero (by omega))
  have HNE := hid h0
  have HLL := hid hl
  clear hL h0 hl
  obtain ⟨ll, hll⟩ : ∃ ll, L.length = ll := ⟨_, rfl⟩
  rw [hll] at hz0 hnr ⊢
  clear hll
  go_enter Tryd.func39, Tryd.ntmps39
  go_wp2_with fail
  refine hnr.mono ?_
  rintro r w1 ⟨rb, d, rfl, hge, hR, hd, hb⟩
  have G1 : Hid (Gd w w1 rb d (.slice none 0 0) L 0 []) := ⟨hR, hb, hge, hd, World.ownsRow_nil _ _ _ _, by simp [Value.ownBlock], by simp [Value.ownBlock]⟩
  clear hnr hge hR hd hb
  go_wp2_with fail
  obtain ⟨⟨n, n1, e1⟩, hs1⟩ : ∃ S, rn 0 mx (L.drop 0) = S := ⟨_, rfl⟩
  have hb1 := rn_le 0 mx (L.drop 0)
  have hnr := num_rn L mx 0
  have hc1 := rrnum_any mx _ G1.out.rd
  rw [hs1] at hb1 hc1 hnr
  simp only at hb1 hc1 hnr
  rw [show ((mx : Nat) : Int) = 18446744073709551615 from rfl, Nat.zero_add] at hc1
  rw [Nat.zero_add] at hnr
  refine hc1.mono ?_
  rintro r w2 ⟨v2, rfl, hR2, ho2, k2⟩
  have HNR := hid hnr
  have HB1 := hid hb1
  have HK2 := hid k2
  have HR2 := hid hR2
  have HO2 := hid ho2
  clear hc1 hs1 hb1 hnr hR2 k2 ho2
  have y2 := HR2.out.c2
  have yl := HR2.out.lt
  by_cases he : e1 = 0
  rotate_left 1
  · have hez : ¬ (e1 : Int) = 0 := by omega
    have HE : Hid (bget L = .error (0, e1)) := by
      show _ = _
      rcases HNR.out with ⟨h, _⟩ | ⟨_, h, h2⟩
      · exact absurd h he
      · unfold bget
        rw [if_neg HNE.out, h]
    have HB2 : Hid (Below w.heap.size w w2) := G1.out.bl.trans (HK2.out.below G1.out.bl.size (fun k hk => hk ▸ G1.out.nb))
    have S0 : w2.drew.cell? ⟨rb, 2, none⟩ = some (.int .i64 (e1 : Nat)) ∧ rb < w2.drew.heap.size := ⟨y2, yl⟩
    go_upto_region 6 with fail
    clear y2 yl
    refine wp_regionD (S := fun W => (W.cell? ⟨rb, 2, none⟩ = some (.int .i64 (e1 : Nat)) ∧ rb < W.heap.size)) (D := []) hmx ?_
    refine' wpAnyD_take (i := 0) (oi := { dst := some 25, op := Go.Op.move (Go.Operand.tmp 5), type := 115, pos := "ref.go:90", after := #[{ on := 5, ground := Go.Ground.gcOnly Go.Departure.lateStores }], guard := none }) (v := _) rfl (by kernel_rfl) (by kernel_rfl) (by kernel_rfl) (fun _ _ _ h => h) (by kernel_rfl) (Or.inl ⟨by rfl, ?hy1⟩) S0 ?rest1
    case hy1 => (intro W hSw; (try dsimp only at hSw); obtain ⟨s1, s2⟩ := hSw; go_simp; try (with_reducible rfl))
    try simp only [Act.put, List.setIfInBounds_toArray, List.set_cons_zero, List.set_cons_succ]
    refine' wpAnyD_take (i := 1) (oi := { dst := some 26, op := Go.Op.nilCheck (Go.Operand.tmp 25), type := 0, pos := "ref.go:90", after := #[{ on := 0, ground := Go.Ground.data }, { on := 5, ground := Go.Ground.gcOnly Go.Departure.lateStores }], guard := none }) (v := _) rfl (by kernel_rfl) (by kernel_rfl) (by kernel_rfl) (fun _ _ _ h => h) (by kernel_rfl) (Or.inl ⟨by rfl, ?hy2⟩) S0 ?rest2
    case hy2 => (intro W hSw; (try dsimp only at hSw); obtain ⟨s1, s2⟩ := hSw; go_simp; try (with_reducible rfl))
    try simp only [Act.put, List.setIfInBounds_toArray, List.set_cons_zero, List.set_cons_succ]
    refine' wpAnyD_take (i := 2) (oi := { dst := some 27, op := Go.Op.fieldAddr 118 (Go.Operand.tmp 26) 2, type := 0, pos := "ref.go:90", after := #[{ on := 1, ground := Go.Ground.data }, { on := 5, ground := Go.Ground.gcOnly Go.Departure.lateStores }], guard := none }) (v := _) rfl (by kernel_rfl) (by kernel_rfl) (by kernel_rfl) (fun _ _ _ h => h) (by kernel_rfl) (Or.inl ⟨by rfl, ?hy3⟩) S0 ?rest3
    case hy3 => (intro W hSw; (try dsimp only at hSw); obtain ⟨s1, s2⟩ := hSw; go_simp; try (with_reducible rfl))
    try simp only [Act.put, List.setIfInBounds_toArray, List.set_cons_zero, List.set_cons_succ]
    refine' wpAnyD_take (i := 3) (oi := { dst := some 28, op := Go.Op.load 3 (Go.Operand.tmp 27), type := 3, pos := "ref.go:90", after := #[{ on := 2, ground := Go.Ground.data }, { on := 5, ground := Go.Ground.gcOnly Go.Departure.lateStores }], guard := none }) (v := _) rfl (by kernel_rfl) (by kernel_rfl) (by kernel_rfl) (fun _ _ _ h => h) (by kernel_rfl) (Or.inl ⟨by rfl, ?hy4⟩) S0 ?rest4
    case hy4 => (intro W hSw; (try dsimp only at hSw); obtain ⟨s1, s2⟩ := hSw; go_simp; try (with_reducible rfl))
    try simp only [Act.put, List.setIfInBounds_toArray, List.set_cons_zero, List.set_cons_succ]
    refine wpAnyD_one (i := 4) (o := { dst := some 2, op := Go.Op.assign (Go.Operand.const (Go.Value.slice none 0 0)), type := 24, pos := "ref.go:90", after := #[{ on := 0, ground := Go.Ground.textOnly Go.Departure.lateStores }, { on := 1, ground := Go.Ground.textOnly Go.Departure.lateStores }, { on := 2, ground := Go.Ground.textOnly Go.Departure.lateStores }, { on := 3, ground := Go.Ground.textOnly Go.Departure.lateStores }], guard := none }) (by kernel_rfl) rfl (fun K hK => ?_)
    rw [if_pos (by kernel_rfl)]
    go_simp
    refine hK.out _ _ (fun hD => S0) ?_
    clear hK K
    try simp only [Act.put, List.setIfInBounds_toArray, List.set_cons_zero, List.set_cons_succ]
    refine wpAnyD_one (i := 5) (o := { dst := some 3, op := Go.Op.assign (Go.Operand.const (Go.Value.int Go.IntKind.i64 0)), type := 3, pos := "ref.go:90", after := #[{ on := 4, ground := Go.Ground.chain }, { on := 0, ground := Go.Ground.textOnly Go.Departure.lateStores }, { on := 1, ground := Go.Ground.textOnly Go.Departure.lateStores }, { on := 2, ground := Go.Ground.textOnly Go.Departure.lateStores }, { on := 3, ground := Go.Ground.textOnly Go.Departure.lateStores }, { on := 4, ground := Go.Ground.phase }], guard := none }) (by kernel_rfl) rfl (fun K hK => ?_)
    rw [if_pos (by kernel_rfl)]
    go_simp
    refine hK.out _ _ (fun hD => S0) ?_
    clear hK K
    try simp only [Act.put, List.setIfInBounds_toArray, List.set_cons_zero, List.set_cons_succ]
    refine wpAnyD_one (i := 6) (o := { dst := some 4, op := Go.Op.assign (Go.Operand.tmp 28), type := 3, pos := "ref.go:90", after := #[{ on := 3, ground := Go.Ground.data }, { on := 5, ground := Go.Ground.chain }, { on := 0, ground := Go.Ground.phase }, { on := 1, ground := Go.Ground.phase }, { on := 2, ground := Go.Ground.phase }, { on := 3, ground := Go.Ground.phase }, { on := 4, ground := Go.Ground.phase }, { on := 5, ground := Go.Ground.phase }], guard := none }) (by kernel_rfl) rfl (fun K hK => ?_)
    rw [if_pos (by kernel_rfl)]
    go_simp
    refine hK.out _ _ (fun hD => S0) ?_
    clear hK K
    try simp only [Act.put, List.setIfInBounds_toArray, List.set_cons_zero, List.set_cons_succ]
    refine wpAnyD_done (by kernel_rfl) ?_ _
    go_wp2_with fail
    refine bodyPost_ret (v := .tuple #[.slice none 0 0, .int .i64 0, .int .i64 (e1 : Nat)]) (by simp [results, Tryd.results39, go_sem]) rfl ?_
    show Gtr _ _ _ _
    rw [HE.out]
    exact ⟨HB2.out.trans (((Gr.refl w2).drew.below).mono HB2.out.size), rfl⟩
  subst he
  have G2 := hid (G1.out.read HR2.out HO2.out HK2.out)
  have HNM : Hid (num L mx 0 = .ok (n, n1)) := by
    show _ = _
    rcases HNR.out with ⟨_, h⟩ | ⟨h, _⟩
    · exact h
    · exact absurd rfl h
  by_cases hn0 : n = 0
  · subst hn0
    have HG : Hid (bget L = .error (0, 31)) := by
      show _ = _
      unfold bget
      rw [if_neg HNE.out, HNM.out]
      rfl
    go_wp2_with fail
    refine bodyPost_ret (v := .tuple #[.slice none 0 0, .int .i64 0, .int .i64 31]) (by simp [results, Tryd.results39, go_sem]) rfl ?_
    show Gtr _ _ _ _
    rw [HG.out]
    exact ⟨G2.out.bl, rfl⟩
  have hnz : ¬ (n : Int) = 0 := by omega
  have hnq : ((n : Int) == 0) = false := by simpa using hnz
  have HG := hid (bget_many HNE.out HNM.out hn0)
  have hnb : Hid (n < 18446744073709551616) := HB1.out.2.1
  go_wp2_with fail
  clear y2 yl
  go_loopw [7, 8] (fun s7 s8 wr => ∃ (i at_ : Nat) (v la : Value) (acc : List Cx), i ≤ n ∧ la = s7 ∧ s8 = .int .u64 i ∧ Hid (Gd w wr rb v la L at_ acc ∧ bmany L n [] n1 = bmany L (n - i) acc at_ ∧ 5 * acc.length ≤ at_)) (fun _ s8 _ => n - (RowKit.intOf s8).toNat)
  case atStart => exact ⟨0, n1, _, _, [], Nat.zero_le _, rfl, rfl, G2.out, rfl, Nat.zero_le _⟩
  case round =>
    obtain ⟨i, at_, v, la, acc, hi, rfl, rfl, HI⟩ := hrel
    have hbd : Hid (at_ ≤ L.length ∧ 5 * acc.length ≤ at_ ∧ 8 * L.length + 100 ≤ 140737488355328) := ⟨HI.out.1.rd.le, HI.out.2.2, HLL.out⟩
    obtain ⟨m, hm⟩ : ∃ m, acc.length = m := ⟨_, rfl⟩
    obtain ⟨pl, cl, rfl⟩ : ∃ p c, la = .slice p m c := by
      obtain ⟨p, c, h⟩ := HI.out.1.list.form
      exact ⟨p, c, by rw [← hm]; exact h⟩
    have HM := hid hm
    have hmb : Hid (m < 4611686018427387904) := by show _ < _; have := hbd.out; omega
    clear hm
    by_cases hlt : i < n
    rotate_left 1
    · have hltz : ¬ (i : Int) < (n : Int) := by omega
      have HE : Hid (bget L = if at_ < L.length then .error (at_, 32) else .ok acc) := by
        show _ = _
        refine HG.out.2 _ _ ?_
        rw [HI.out.2.1, show n - i = 0 by omega, bmany]
      go_wp2_with fail
      refine (rrend_any _ HI.out.1.rd).mono ?_
      rintro r w3 ⟨rfl, hR3, k3⟩
      have HR3 := hid hR3
      have HB3 := hid (HI.out.1.bl.trans (k3.below HI.out.1.bl.size (fun k hk => hk ▸ HI.out.1.nb)))
      have HO3 := hid (owns_kp k3 HI.out.1.ro (fun k hk e => HI.out.1.ne (e ▸ hk)))
      clear hR3 k3
      by_cases hat : at_ < L.length
      · have hre : re1 0 (L.drop at_) = 32 := by
          unfold re1
          rw [if_pos rfl, if_neg (by rw [List.length_drop]; omega)]
        rw [hre] at HR3
        rw [if_pos hat] at HE
        have y1 := HR3.out.c1
        have y2 := HR3.out.c2
        have yl := HR3.out.lt
        rw [show ((32 : Nat) : Int) = 32 from rfl] at y2
        have S0 : w3.drew.cell? ⟨rb, 1, none⟩ = some (.int .i64 (at_ : Nat)) ∧ w3.drew.cell? ⟨rb, 2, none⟩ = some (.int .i64 32) ∧ rb < w3.drew.heap.size := ⟨y1, y2, yl⟩
        go_upto_region 22 with fail
        clear y1 y2 yl hat hre
        refine wp_regionD (S := fun W => (W.cell? ⟨rb, 1, none⟩ = some (.int .i64 (at_ : Nat)) ∧ W.cell? ⟨rb, 2, none⟩ = some (.int .i64 32) ∧ rb < W.heap.size)) (D := []) hmx ?_
        refine' wpAnyD_take (i := 0) (oi := { dst := some 76, op := Go.Op.move (Go.Operand.tmp 5), type := 115, pos := "ref.go:109", after := #[{ on := 8, ground := Go.Ground.gcOnly Go.Departure.lateStores }], guard := none }) (v := _) rfl (by kernel_rfl) (by kernel_rfl) (by kernel_rfl) (fun _ _ _ h => h) (by kernel_rfl) (Or.inl ⟨by rfl, ?hy8⟩) S0 ?rest8
        case hy8 => (intro W hSw; (try dsimp only at hSw); obtain ⟨s1, s2, s3⟩ := hSw; go_simp; try (with_reducible rfl))
        try simp only [Act.put, List.setIfInBounds_toArray, List.set_cons_zero, List.set_cons_succ]
        refine' wpAnyD_take (i := 1) (oi := { dst := some 77, op := Go.Op.nilCheck (Go.Operand.tmp 76), type := 0, pos := "ref.go:109", after := #[{ on := 0, ground := Go.Ground.data }, { on := 8, ground := Go.Ground.gcOnly Go.Departure.lateStores }], guard := none }) (v := _) rfl (by kernel_rfl) (by kernel_rfl) (by kernel_rfl) (fun _ _ _ h => h) (by kernel_rfl) (Or.inl ⟨by rfl, ?hy9⟩) S0 ?rest9
        case hy9 => (intro W hSw; (try dsimp only at hSw); obtain ⟨s1, s2, s3⟩ := hSw; go_simp; try (with_reducible rfl))
        try simp only [Act.put, List.setIfInBounds_toArray, List.set_cons_zero, List.set_cons_succ]
        refine' wpAnyD_take (i := 2) (oi := { dst := some 78, op := Go.Op.fieldAddr 118 (Go.Operand.tmp 77) 1, type := 0, pos := "ref.go:109", after := #[{ on := 1, ground := Go.Ground.data }, { on := 8, ground := Go.Ground.gcOnly Go.Departure.lateStores }], guard := none }) (v := _) rfl (by kernel_rfl) (by kernel_rfl) (by kernel_rfl) (fun _ _ _ h => h) (by kernel_rfl) (Or.inl ⟨by rfl, ?hy10⟩) S0 ?rest10
        case hy10 => (intro W hSw; (try dsimp only at hSw); obtain ⟨s1, s2, s3⟩ := hSw; go_simp; try (with_reducible rfl))
        try simp only [Act.put, List.setIfInBounds_toArray, List.set_cons_zero, List.set_cons_succ]
        refine' wpAnyD_take (i := 3) (oi := { dst := some 79, op := Go.Op.load 3 (Go.Operand.tmp 78), type := 3, pos := "ref.go:109", after := #[{ on := 2, ground := Go.Ground.data }, { on := 8, ground := Go.Ground.gcOnly Go.Departure.lateStores }], guard := none }) (v := _) rfl (by kernel_rfl) (by kernel_rfl) (by kernel_rfl) (fun _ _ _ h => h) (by kernel_rfl) (Or.inl ⟨by rfl, ?hy11⟩) S0 ?rest11
        case hy11 => (intro W hSw; (try dsimp only at hSw); obtain ⟨s1, s2, s3⟩ := hSw; go_simp; try (with_reducible rfl))
        try simp only [Act.put, List.setIfInBounds_toArray, List.set_cons_zero, List.set_cons_succ]
        refine' wpAnyD_take (i := 4) (oi := { dst := some 80, op := Go.Op.move (Go.Operand.tmp 5), type := 115, pos := "ref.go:109", after := #[{ on := 9, ground := Go.Ground.gcOnly Go.Departure.lateStores }], guard := none }) (v := _) rfl (by kernel_rfl) (by kernel_rfl) (by kernel_rfl) (fun _ _ _ h => h) (by kernel_rfl) (Or.inl ⟨by rfl, ?hy12⟩) S0 ?rest12
        case hy12 => (intro W hSw; (try dsimp only at hSw); obtain ⟨s1, s2, s3⟩ := hSw; go_simp; try (with_reducible rfl))
        try simp only [Act.put, List.setIfInBounds_toArray, List.set_cons_zero, List.set_cons_succ]
        refine' wpAnyD_take (i := 5) (oi := { dst := some 81, op := Go.Op.nilCheck (Go.Operand.tmp 80), type := 0, pos := "ref.go:109", after := #[{ on := 4, ground := Go.Ground.data }, { on := 9, ground := Go.Ground.gcOnly Go.Departure.lateStores }], guard := none }) (v := _) rfl (by kernel_rfl) (by kernel_rfl) (by kernel_rfl) (fun _ _ _ h => h) (by kernel_rfl) (Or.inl ⟨by rfl, ?hy13⟩) S0 ?rest13
        case hy13 => (intro W hSw; (try dsimp only at hSw); obtain ⟨s1, s2, s3⟩ := hSw; go_simp; try (with_reducible rfl))
        try simp only [Act.put, List.setIfInBounds_toArray, List.set_cons_zero, List.set_cons_succ]
        refine' wpAnyD_take (i := 6) (oi := { dst := some 82, op := Go.Op.fieldAddr 118 (Go.Operand.tmp 81) 2, type := 0, pos := "ref.go:109", after := #[{ on := 5, ground := Go.Ground.data }, { on := 9, ground := Go.Ground.gcOnly Go.Departure.lateStores }], guard := none }) (v := _) rfl (by kernel_rfl) (by kernel_rfl) (by kernel_rfl) (fun _ _ _ h => h) (by kernel_rfl) (Or.inl ⟨by rfl, ?hy14⟩) S0 ?rest14
        case hy14 => (intro W hSw; (try dsimp only at hSw); obtain ⟨s1, s2, s3⟩ := hSw; go_simp; try (with_reducible rfl))
        try simp only [Act.put, List.setIfInBounds_toArray, List.set_cons_zero, List.set_cons_succ]
        refine' wpAnyD_take (i := 7) (oi := { dst := some 83, op := Go.Op.load 3 (Go.Operand.tmp 82), type := 3, pos := "ref.go:109", after := #[{ on := 6, ground := Go.Ground.data }, { on := 9, ground := Go.Ground.gcOnly Go.Departure.lateStores }], guard := none }) (v := _) rfl (by kernel_rfl) (by kernel_rfl) (by kernel_rfl) (fun _ _ _ h => h) (by kernel_rfl) (Or.inl ⟨by rfl, ?hy15⟩) S0 ?rest15
        case hy15 => (intro W hSw; (try dsimp only at hSw); obtain ⟨s1, s2, s3⟩ := hSw; go_simp; try (with_reducible rfl))
        try simp only [Act.put, List.setIfInBounds_toArray, List.set_cons_zero, List.set_cons_succ]
        refine wpAnyD_one (i := 8) (o := { dst := some 2, op := Go.Op.assign (Go.Operand.const (Go.Value.slice none 0 0)), type := 24, pos := "ref.go:109", after := #[{ on := 0, ground := Go.Ground.textOnly Go.Departure.lateStores }, { on := 1, ground := Go.Ground.textOnly Go.Departure.lateStores }, { on := 2, ground := Go.Ground.textOnly Go.Departure.lateStores }, { on := 3, ground := Go.Ground.textOnly Go.Departure.lateStores }, { on := 4, ground := Go.Ground.textOnly Go.Departure.lateStores }, { on := 5, ground := Go.Ground.textOnly Go.Departure.lateStores }, { on := 6, ground := Go.Ground.textOnly Go.Departure.lateStores }, { on := 7, ground := Go.Ground.textOnly Go.Departure.lateStores }], guard := none }) (by kernel_rfl) rfl (fun K hK => ?_)
        rw [if_pos (by kernel_rfl)]
        go_simp
        refine hK.out _ _ (fun hD => S0) ?_
        clear hK K
        try simp only [Act.put, List.setIfInBounds_toArray, List.set_cons_zero, List.set_cons_succ]
        refine wpAnyD_one (i := 9) (o := { dst := some 3, op := Go.Op.assign (Go.Operand.tmp 79), type := 3, pos := "ref.go:109", after := #[{ on := 3, ground := Go.Ground.data }, { on := 8, ground := Go.Ground.chain }, { on := 0, ground := Go.Ground.phase }, { on := 1, ground := Go.Ground.phase }, { on := 2, ground := Go.Ground.phase }, { on := 3, ground := Go.Ground.phase }, { on := 4, ground := Go.Ground.textOnly Go.Departure.lateStores }, { on := 5, ground := Go.Ground.textOnly Go.Departure.lateStores }, { on := 6, ground := Go.Ground.textOnly Go.Departure.lateStores }, { on := 7, ground := Go.Ground.textOnly Go.Departure.lateStores }, { on := 8, ground := Go.Ground.phase }], guard := none }) (by kernel_rfl) rfl (fun K hK => ?_)
        rw [if_pos (by kernel_rfl)]
        go_simp
        refine hK.out _ _ (fun hD => S0) ?_
        clear hK K
        try simp only [Act.put, List.setIfInBounds_toArray, List.set_cons_zero, List.set_cons_succ]
        refine wpAnyD_one (i := 10) (o := { dst := some 4, op := Go.Op.assign (Go.Operand.tmp 83), type := 3, pos := "ref.go:109", after := #[{ on := 7, ground := Go.Ground.data }, { on := 9, ground := Go.Ground.chain }, { on := 0, ground := Go.Ground.phase }, { on := 1, ground := Go.Ground.phase }, { on := 2, ground := Go.Ground.phase }, { on := 3, ground := Go.Ground.phase }, { on := 4, ground := Go.Ground.phase }, { on := 5, ground := Go.Ground.phase }, { on := 6, ground := Go.Ground.phase }, { on := 7, ground := Go.Ground.phase }, { on := 8, ground := Go.Ground.phase }, { on := 9, ground := Go.Ground.phase }], guard := none }) (by kernel_rfl) rfl (fun K hK => ?_)
        rw [if_pos (by kernel_rfl)]
        go_simp
        refine hK.out _ _ (fun hD => S0) ?_
        clear hK K
        try simp only [Act.put, List.setIfInBounds_toArray, List.set_cons_zero, List.set_cons_succ]
        refine wpAnyD_done (by kernel_rfl) ?_ _
        go_wp2_with fail
        refine bodyPost_ret (v := .tuple #[.slice none 0 0, .int .i64 (at_ : Nat), .int .i64 32]) (by simp [results, Tryd.results39, go_sem]) rfl ?_
        show Gtr _ _ _ _
        rw [HE.out]
        exact ⟨HB3.out.trans (((Gr.refl w3).drew.below).mono HB3.out.size), rfl⟩
      · have hre : re1 0 (L.drop at_) = 0 := by
          unfold re1
          rw [if_pos rfl, if_pos (by rw [List.length_drop]; omega)]
        rw [hre] at HR3
        rw [if_neg hat] at HE
        have y2 := HR3.out.c2
        have yl := HR3.out.lt
        clear hat hre
        go_wp2_with fail
        refine bodyPost_ret (v := .tuple #[.slice pl m cl, .int .i64 0, .int .i64 0]) (by simp [results, Tryd.results39, go_sem]) rfl ?_
        show Gtr _ _ _ _
        rw [HE.out]
        exact ⟨HB3.out, _, rfl, HO3.out⟩
    have hltz : (i : Int) < (n : Int) := by omega
    have HST : Hid (n - i = (n - (i + 1)) + 1) := by show _ = _; omega
    have HBO : Hid (∀ c a, bone L acc.getLast? at_ = .ok (c, a) → a = at_ + (fc c).length) := fun c a h => (bone_ok HI.out.1.rd.le h).2.2.2.2
    have y1 := HI.out.1.rd.c1
    have yl := HI.out.1.rd.lt
    go_wp2_with fail
    clear y1 yl
    refine (one_any _ HI.out.1.rd).mono ?_
    rintro r w3 ⟨k3, h3⟩
    have HK3 := hid k3
    clear k3
    rcases h3 with ⟨c, p, v3, ⟨hw1, hbo⟩, rfl, hR3, ho3⟩ | ⟨p, e, x0, x1, x2, x3, x4, hbo, hne, rfl⟩
    rotate_left 1
    · have hez : ¬ (e : Int) = 0 := by omega
      have HGG : Hid (bget L = .error (p, e)) := by
        show _ = _
        exact HG.out.1 _ (by rw [HI.out.2.1, HST.out]; exact bmany_bad (hbo _))
      have HB3 := hid (HI.out.1.bl.trans (HK3.out.below HI.out.1.bl.size (fun k hk => hk ▸ HI.out.1.nb)))
      clear hbo hne
      go_wp2_with fail
      refine bodyPost_ret (v := .tuple #[.slice none 0 0, .int .i64 (p : Nat), .int .i64 (e : Nat)]) (by simp [results, Tryd.results39, go_sem]) rfl ?_
      show Gtr _ _ _ _
      rw [HGG.out]
      have hal := (Gr.refl w3).alloc (.cells #[.int .i64 x0, .int .u64 x1, .int .u64 x2, .int .u64 x3, .int .i64 x4] 43)
      exact ⟨HB3.out.trans (hal.below.mono HB3.out.size), rfl⟩
    have G3 := hid (HI.out.1.read hR3 ho3 HK3.out)
    have HBN := hid hbo
    obtain ⟨W5, hW5⟩ : ∃ W5, W5 = w3.alloc (.cells #[.int .i64 c.pl, .int .u64 (c.A : Nat), .int .u64 (c.B : Nat), .int .u64 (c.C : Nat), .int .i64 c.N] 43) := ⟨_, rfl⟩
    obtain ⟨B1, hB1⟩ : ∃ B1, B1 = w3.heap.size := ⟨_, rfl⟩
    have G5 : Gr w3 W5 := by rw [hW5]; exact (Gr.refl _).alloc _
    have HB5 : Hid (W5.heap[B1]? = some (.cells #[.int .i64 c.pl, .int .u64 (c.A : Nat), .int .u64 (c.B : Nat), .int .u64 (c.C : Nat), .int .i64 c.N] 43 (0, 0))) := by rw [hW5, hB1]; exact heap_new' _ _
    have P5 := hid (G3.out.gr G5)
    have HNB : Hid (Value.ownBlock (.slice pl m cl) ≠ some B1) := fun e => by
      have := (G3.out.ro.lt _ e).2
      omega
    clear hR3 ho3 hbo hw1 G5
    (try unfold gv)
    go_upto_region 17 with fail
    rw [← hW5, ← hB1]
    clear hW5 hB1
    obtain ⟨y0, y1, y2, y3, y4, y5⟩ := box_at HB5.out
    by_cases qm : m = 0
    · subst qm
      have HB1 : Hid (bone L acc.getLast? at_ = .ok (c, p)) := by
        show _ = _
        rw [HBN.out, List.eq_nil_of_length_eq_zero HM.out]
        rfl
      have S0 : W5.drew.cell? ⟨B1, 0, none⟩ = some (.int .i64 c.pl) ∧ W5.drew.cell? ⟨B1, 1, none⟩ = some (.int .u64 (c.A : Nat)) ∧ W5.drew.cell? ⟨B1, 2, none⟩ = some (.int .u64 (c.B : Nat)) ∧ W5.drew.cell? ⟨B1, 3, none⟩ = some (.int .u64 (c.C : Nat)) ∧ W5.drew.cell? ⟨B1, 4, none⟩ = some (.int .i64 c.N) ∧ B1 < W5.drew.heap.size := ⟨y0, y1, y2, y3, y4, y5⟩
      clear y0 y1 y2 y3 y4 y5
      refine wp_regionD (S := fun W => (W.cell? ⟨B1, 0, none⟩ = some (.int .i64 c.pl) ∧ W.cell? ⟨B1, 1, none⟩ = some (.int .u64 (c.A : Nat)) ∧ W.cell? ⟨B1, 2, none⟩ = some (.int .u64 (c.B : Nat)) ∧ W.cell? ⟨B1, 3, none⟩ = some (.int .u64 (c.C : Nat)) ∧ W.cell? ⟨B1, 4, none⟩ = some (.int .i64 c.N) ∧ B1 < W.heap.size)) (D := []) hmx ?_
      refine' wpAnyD_take (i := 0) (oi := { dst := some 50, op := Go.Op.move (Go.Operand.tmp 7), type := 24, pos := "ref.go:102", after := #[], guard := none }) (v := _) rfl (by kernel_rfl) (by kernel_rfl) (by kernel_rfl) (fun _ _ _ h => h) (by kernel_rfl) (Or.inl ⟨by rfl, ?hy19⟩) S0 ?rest19
      case hy19 => (intro W hSw; (try dsimp only at hSw); obtain ⟨s1, s2, s3, s4, s5, s6⟩ := hSw; go_simp; try (with_reducible rfl))
      try simp only [Act.put, List.setIfInBounds_toArray, List.set_cons_zero, List.set_cons_succ]
      refine' wpAnyD_take (i := 1) (oi := { dst := some 51, op := Go.Op.call { callee := Go.Callee.builtin Go.Builtin.len, args := #[Go.Operand.tmp 50], argTypes := #[24] }, type := 3, pos := "ref.go:102", after := #[{ on := 0, ground := Go.Ground.data }], guard := none }) (v := _) rfl (by kernel_rfl) (by kernel_rfl) (by kernel_rfl) (fun _ _ _ h => h) (by kernel_rfl) (Or.inl ⟨by rfl, ?hy20⟩) S0 ?rest20
      case hy20 => (intro W hSw; (try dsimp only at hSw); obtain ⟨s1, s2, s3, s4, s5, s6⟩ := hSw; go_simp; try (with_reducible rfl))
      try simp only [Act.put, List.setIfInBounds_toArray, List.set_cons_zero, List.set_cons_succ]
      refine' wpAnyD_take (i := 2) (oi := { dst := some 52, op := Go.Op.binOp Go.BinOp.gtr 3 (Go.Operand.tmp 51) (Go.Operand.const (Go.Value.int Go.IntKind.i64 0)) 3, type := 4, pos := "ref.go:102", after := #[{ on := 1, ground := Go.Ground.data }], guard := none }) (v := _) rfl (by kernel_rfl) (by kernel_rfl) (by kernel_rfl) (fun _ _ _ h => h) (by kernel_rfl) (Or.inl ⟨by rfl, ?hy21⟩) S0 ?rest21
      case hy21 => (intro W hSw; (try dsimp only at hSw); obtain ⟨s1, s2, s3, s4, s5, s6⟩ := hSw; go_simp; try (with_reducible rfl))
      try simp only [Act.put, List.setIfInBounds_toArray, List.set_cons_zero, List.set_cons_succ]
      refine' wpAnyD_take (i := 3) (oi := { dst := some 53, op := Go.Op.move (Go.Operand.tmp 52), type := 4, pos := "ref.go:102", after := #[{ on := 2, ground := Go.Ground.data }], guard := none }) (v := _) rfl (by kernel_rfl) (by kernel_rfl) (by kernel_rfl) (fun _ _ _ h => h) (by kernel_rfl) (Or.inl ⟨by rfl, ?hy22⟩) S0 ?rest22
      case hy22 => (intro W hSw; (try dsimp only at hSw); obtain ⟨s1, s2, s3, s4, s5, s6⟩ := hSw; go_simp; try (with_reducible rfl))
      try simp only [Act.put, List.setIfInBounds_toArray, List.set_cons_zero, List.set_cons_succ]
      refine' wpAnyD_take (i := 4) (oi := { dst := some 54, op := Go.Op.load 43 (Go.Operand.tmp 10), type := 43, pos := "ref.go:102", after := #[{ on := 3, ground := Go.Ground.guard }], guard := some (3, true) }) (v := undef) rfl (by kernel_rfl) (by kernel_rfl) (by kernel_rfl) (fun _ _ _ h => h) (by kernel_rfl) (Or.inr ⟨by rfl, rfl⟩) S0 ?rest23
      try simp only [Act.put, List.setIfInBounds_toArray, List.set_cons_zero, List.set_cons_succ]
      refine' wpAnyD_take (i := 5) (oi := { dst := some 55, op := Go.Op.move (Go.Operand.tmp 7), type := 24, pos := "ref.go:102", after := #[{ on := 3, ground := Go.Ground.guard }], guard := some (3, true) }) (v := undef) rfl (by kernel_rfl) (by kernel_rfl) (by kernel_rfl) (fun _ _ _ h => h) (by kernel_rfl) (Or.inr ⟨by rfl, rfl⟩) S0 ?rest24
      try simp only [Act.put, List.setIfInBounds_toArray, List.set_cons_zero, List.set_cons_succ]
      refine' wpAnyD_take (i := 6) (oi := { dst := some 56, op := Go.Op.move (Go.Operand.tmp 7), type := 24, pos := "ref.go:102", after := #[{ on := 3, ground := Go.Ground.guard }], guard := some (3, true) }) (v := undef) rfl (by kernel_rfl) (by kernel_rfl) (by kernel_rfl) (fun _ _ _ h => h) (by kernel_rfl) (Or.inr ⟨by rfl, rfl⟩) S0 ?rest25
      try simp only [Act.put, List.setIfInBounds_toArray, List.set_cons_zero, List.set_cons_succ]
      refine' wpAnyD_take (i := 7) (oi := { dst := some 57, op := Go.Op.call { callee := Go.Callee.builtin Go.Builtin.len, args := #[Go.Operand.tmp 56], argTypes := #[24] }, type := 3, pos := "ref.go:102", after := #[{ on := 6, ground := Go.Ground.data }, { on := 3, ground := Go.Ground.guard }], guard := some (3, true) }) (v := undef) rfl (by kernel_rfl) (by kernel_rfl) (by kernel_rfl) (fun _ _ _ h => h) (by kernel_rfl) (Or.inr ⟨by rfl, rfl⟩) S0 ?rest26
      try simp only [Act.put, List.setIfInBounds_toArray, List.set_cons_zero, List.set_cons_succ]
      refine' wpAnyD_take (i := 8) (oi := { dst := some 58, op := Go.Op.binOp Go.BinOp.sub 3 (Go.Operand.tmp 57) (Go.Operand.const (Go.Value.int Go.IntKind.i64 1)) 3, type := 3, pos := "ref.go:102", after := #[{ on := 7, ground := Go.Ground.data }, { on := 3, ground := Go.Ground.guard }], guard := some (3, true) }) (v := undef) rfl (by kernel_rfl) (by kernel_rfl) (by kernel_rfl) (fun _ _ _ h => h) (by kernel_rfl) (Or.inr ⟨by rfl, rfl⟩) S0 ?rest27
      try simp only [Act.put, List.setIfInBounds_toArray, List.set_cons_zero, List.set_cons_succ]
      refine' wpAnyD_take (i := 9) (oi := { dst := some 59, op := Go.Op.indexAddr 24 (Go.Operand.tmp 55) (Go.Operand.tmp 58), type := 0, pos := "ref.go:102", after := #[{ on := 5, ground := Go.Ground.data }, { on := 8, ground := Go.Ground.data }, { on := 3, ground := Go.Ground.guard }], guard := some (3, true) }) (v := undef) rfl (by kernel_rfl) (by kernel_rfl) (by kernel_rfl) (fun _ _ _ h => h) (by kernel_rfl) (Or.inr ⟨by rfl, rfl⟩) S0 ?rest28
      try simp only [Act.put, List.setIfInBounds_toArray, List.set_cons_zero, List.set_cons_succ]
      refine' wpAnyD_take (i := 10) (oi := { dst := some 60, op := Go.Op.load 43 (Go.Operand.tmp 59), type := 43, pos := "ref.go:102", after := #[{ on := 9, ground := Go.Ground.data }, { on := 3, ground := Go.Ground.guard }], guard := some (3, true) }) (v := undef) rfl (by kernel_rfl) (by kernel_rfl) (by kernel_rfl) (fun _ _ _ h => h) (by kernel_rfl) (Or.inr ⟨by rfl, rfl⟩) S0 ?rest29
      try simp only [Act.put, List.setIfInBounds_toArray, List.set_cons_zero, List.set_cons_succ]
      refine' wpAnyD_take (i := 11) (oi := { dst := some 61, op := Go.Op.call { callee := Go.Callee.value (Go.Operand.func 36), args := #[Go.Operand.tmp 54, Go.Operand.tmp 60], argTypes := #[43, 43] }, type := 4, pos := "ref.go:102", after := #[{ on := 4, ground := Go.Ground.data }, { on := 10, ground := Go.Ground.data }, { on := 3, ground := Go.Ground.chain }, { on := 3, ground := Go.Ground.guard }], guard := some (3, true) }) (v := undef) rfl (by kernel_rfl) (by kernel_rfl) (by kernel_rfl) (fun _ _ _ h => h) (by kernel_rfl) (Or.inr ⟨by rfl, rfl⟩) S0 ?rest30
      try simp only [Act.put, List.setIfInBounds_toArray, List.set_cons_zero, List.set_cons_succ]
      refine' wpAnyD_take (i := 12) (oi := { dst := some 62, op := Go.Op.unOp Go.UnOp.not 4 (Go.Operand.tmp 61), type := 4, pos := "ref.go:102", after := #[{ on := 11, ground := Go.Ground.data }, { on := 3, ground := Go.Ground.guard }], guard := some (3, true) }) (v := undef) rfl (by kernel_rfl) (by kernel_rfl) (by kernel_rfl) (fun _ _ _ h => h) (by kernel_rfl) (Or.inr ⟨by rfl, rfl⟩) S0 ?rest31
      try simp only [Act.put, List.setIfInBounds_toArray, List.set_cons_zero, List.set_cons_succ]
      refine' wpAnyD_take (i := 13) (oi := { dst := some 63, op := Go.Op.pick (Go.Operand.tmp 53) (Go.Operand.tmp 62) (Go.Operand.const (Go.Value.bool false)), type := 4, pos := "ref.go:102", after := #[{ on := 3, ground := Go.Ground.data }, { on := 12, ground := Go.Ground.data }], guard := none }) (v := _) rfl (by kernel_rfl) (by kernel_rfl) (by kernel_rfl) (fun _ _ _ h => h) (by kernel_rfl) (Or.inl ⟨by rfl, ?hy32⟩) S0 ?rest32
      case hy32 => (intro W hSw; (try dsimp only at hSw); obtain ⟨s1, s2, s3, s4, s5, s6⟩ := hSw; go_simp; try (with_reducible rfl))
      try simp only [Act.put, List.setIfInBounds_toArray, List.set_cons_zero, List.set_cons_succ]
      refine wpAnyD_done (by kernel_rfl) ?_ _
      have P6 := hid (P5.out.gr (Gr.refl W5).drew)
      have HB6 : Hid (W5.drew.heap[B1]? = some (.cells #[.int .i64 c.pl, .int .u64 (c.A : Nat), .int .u64 (c.B : Nat), .int .u64 (c.C : Nat), .int .i64 c.N] 43 (0, 0))) := HB5.out
      clear S0
      have HA := hid (HBO.out c p HB1.out)
      have HS2 : Hid (bmany L n [] n1 = bmany L (n - (i + 1)) (acc ++ [c]) p) := by
        show _ = _
        rw [HI.out.2.1, HST.out]
        exact bmany_good HB1.out
      have hle5 : Hid (w.heap.size ≤ W5.drew.heap.size) := P6.out.bl.size
      have hbig : Hid ((acc.length + 1) * 40 ≤ 140737488355328) := by show _ ≤ _; have := hbd.out; omega
      obtain ⟨y0, y1, y2, y3, y4, y5⟩ := box_at HB6.out
      go_wp2_with (at_builtin; refine Hid.out ?_)
      refine hid ?_
      refine wpC1 (w := W5.drew) rfl _ _ rfl w.heap.size (.slice pl 0 cl) acc rfl P6.out.ro c (by show Value.slice _ 1 1 = _; simp) hbig.out hle5.out _ ?_
      intro lb w6 ho6 ht6
      have G6 := hid (P6.out.grow ho6.out ht6.out)
      have hnb2 := hnb.out
      have hwk : IntKind.u64.wrap ((i : Int) + 1) = ((i + 1 : Nat) : Int) := by rw [IntKind.wrap_u64]; omega
      clear ho6 ht6 y0 y1 y2 y3 y4 y5
      go_wp2_with fail
      go_roundw
      case rel =>
        refine ⟨i + 1, p, _, lb, acc ++ [c], by omega, rfl, by first | go_num | rw [hwk] | rfl, G6.out, HS2.out, ?_⟩
        have h1 := HA.out
        have h2 := fc_ge c
        have h3 := hbd.out.2.1
        rw [List.length_append, List.length_singleton]
        omega
      case measure =>
        (try rw [hwk])
        simp [RowKit.intOf]
        omega
    obtain ⟨j, hj⟩ : ∃ j, m - 1 = j := ⟨_, rfl⟩
    obtain ⟨d', hd⟩ : ∃ d, acc[j]? = some d := ⟨acc[j]'(by rw [HM.out]; omega), by simp⟩
    have hkz : ¬ (m : Int) = 0 := by omega
    have hkN : 0 < m := by omega
    have hkp : (0 : Int) < (m : Int) := by omega
    have hkq : ((m : Int) == 0) = false := by simpa using hkz
    have hz1 : IntKind.i64.wrap ((m : Int) - 1) = (j : Int) := by have := hmb.out; rw [IntKind.wrap_i64]; omega
    have hz2 : (0 : Int) ≤ (j : Int) := by omega
    have hz3 : (j : Int) < (m : Int) := by omega
    obtain ⟨b, off, c2, e2, z2, x0, x1, x2, x3, x4⟩ := ls_atC P5.out.list hd
    simp only [Value.slice.injEq] at e2
    obtain ⟨rfl, -, rfl⟩ := e2
    obtain ⟨o, ho⟩ : ∃ o, off + j * 5 = o := ⟨_, rfl⟩
    rw [ho] at x0 x1 x2 x3 x4
    have HLast : Hid (acc.getLast? = some d') := by
      show _ = _
      rw [List.getLast?_eq_getElem?, HM.out, hj]
      exact hd
    have hrb := fun W => rbehind_any c d' W
    have S0 : (W5.drew.cell? ⟨B1, 0, none⟩ = some (.int .i64 c.pl) ∧ W5.drew.cell? ⟨B1, 1, none⟩ = some (.int .u64 (c.A : Nat)) ∧ W5.drew.cell? ⟨B1, 2, none⟩ = some (.int .u64 (c.B : Nat)) ∧ W5.drew.cell? ⟨B1, 3, none⟩ = some (.int .u64 (c.C : Nat)) ∧ W5.drew.cell? ⟨B1, 4, none⟩ = some (.int .i64 c.N) ∧ B1 < W5.drew.heap.size) ∧ W5.drew.cell? ⟨b, o, none⟩ = some (.int .i64 d'.pl) ∧ W5.drew.cell? ⟨b, o + 1, none⟩ = some (.int .u64 (d'.A : Nat)) ∧ W5.drew.cell? ⟨b, o + 2, none⟩ = some (.int .u64 (d'.B : Nat)) ∧ W5.drew.cell? ⟨b, o + 3, none⟩ = some (.int .u64 (d'.C : Nat)) ∧ W5.drew.cell? ⟨b, o + 4, none⟩ = some (.int .i64 d'.N) ∧ b < W5.drew.heap.size := ⟨⟨y0, y1, y2, y3, y4, y5⟩, x0, x1, x2, x3, x4, z2⟩
    clear hd x0 x1 x2 x3 x4 z2 y0 y1 y2 y3 y4 y5 hj
    refine wp_regionD (S := fun W => ((W.cell? ⟨B1, 0, none⟩ = some (.int .i64 c.pl) ∧ W.cell? ⟨B1, 1, none⟩ = some (.int .u64 (c.A : Nat)) ∧ W.cell? ⟨B1, 2, none⟩ = some (.int .u64 (c.B : Nat)) ∧ W.cell? ⟨B1, 3, none⟩ = some (.int .u64 (c.C : Nat)) ∧ W.cell? ⟨B1, 4, none⟩ = some (.int .i64 c.N) ∧ B1 < W.heap.size) ∧ W.cell? ⟨b, o, none⟩ = some (.int .i64 d'.pl) ∧ W.cell? ⟨b, o + 1, none⟩ = some (.int .u64 (d'.A : Nat)) ∧ W.cell? ⟨b, o + 2, none⟩ = some (.int .u64 (d'.B : Nat)) ∧ W.cell? ⟨b, o + 3, none⟩ = some (.int .u64 (d'.C : Nat)) ∧ W.cell? ⟨b, o + 4, none⟩ = some (.int .i64 d'.N) ∧ b < W.heap.size)) (D := []) hmx ?_
    refine' wpAnyD_take (i := 0) (oi := { dst := some 50, op := Go.Op.move (Go.Operand.tmp 7), type := 24, pos := "ref.go:102", after := #[], guard := none }) (v := _) rfl (by kernel_rfl) (by kernel_rfl) (by kernel_rfl) (fun _ _ _ h => h) (by kernel_rfl) (Or.inl ⟨by rfl, ?hy33⟩) S0 ?rest33
    case hy33 => (intro W hSw; (try dsimp only at hSw); obtain ⟨⟨s1, s2, s3, s4, s5, s6⟩, r1, r2, r3, r4, r5, r6⟩ := hSw; go_simp; (try rw [ho]); try (with_reducible rfl))
    try simp only [Act.put, List.setIfInBounds_toArray, List.set_cons_zero, List.set_cons_succ]
    refine' wpAnyD_take (i := 1) (oi := { dst := some 51, op := Go.Op.call { callee := Go.Callee.builtin Go.Builtin.len, args := #[Go.Operand.tmp 50], argTypes := #[24] }, type := 3, pos := "ref.go:102", after := #[{ on := 0, ground := Go.Ground.data }], guard := none }) (v := _) rfl (by kernel_rfl) (by kernel_rfl) (by kernel_rfl) (fun _ _ _ h => h) (by kernel_rfl) (Or.inl ⟨by rfl, ?hy34⟩) S0 ?rest34
    case hy34 => (intro W hSw; (try dsimp only at hSw); obtain ⟨⟨s1, s2, s3, s4, s5, s6⟩, r1, r2, r3, r4, r5, r6⟩ := hSw; go_simp; (try rw [ho]); try (with_reducible rfl))
    try simp only [Act.put, List.setIfInBounds_toArray, List.set_cons_zero, List.set_cons_succ]
    refine' wpAnyD_take (i := 2) (oi := { dst := some 52, op := Go.Op.binOp Go.BinOp.gtr 3 (Go.Operand.tmp 51) (Go.Operand.const (Go.Value.int Go.IntKind.i64 0)) 3, type := 4, pos := "ref.go:102", after := #[{ on := 1, ground := Go.Ground.data }], guard := none }) (v := _) rfl (by kernel_rfl) (by kernel_rfl) (by kernel_rfl) (fun _ _ _ h => h) (by kernel_rfl) (Or.inl ⟨by rfl, ?hy35⟩) S0 ?rest35
    case hy35 => (intro W hSw; (try dsimp only at hSw); obtain ⟨⟨s1, s2, s3, s4, s5, s6⟩, r1, r2, r3, r4, r5, r6⟩ := hSw; go_simp; (try rw [ho]); try (with_reducible rfl))
    try simp only [Act.put, List.setIfInBounds_toArray, List.set_cons_zero, List.set_cons_succ]
    refine' wpAnyD_take (i := 3) (oi := { dst := some 53, op := Go.Op.move (Go.Operand.tmp 52), type := 4, pos := "ref.go:102", after := #[{ on := 2, ground := Go.Ground.data }], guard := none }) (v := _) rfl (by kernel_rfl) (by kernel_rfl) (by kernel_rfl) (fun _ _ _ h => h) (by kernel_rfl) (Or.inl ⟨by rfl, ?hy36⟩) S0 ?rest36
    case hy36 => (intro W hSw; (try dsimp only at hSw); obtain ⟨⟨s1, s2, s3, s4, s5, s6⟩, r1, r2, r3, r4, r5, r6⟩ := hSw; go_simp; (try rw [ho]); try (with_reducible rfl))
    try simp only [Act.put, List.setIfInBounds_toArray, List.set_cons_zero, List.set_cons_succ]
    refine' wpAnyD_take (i := 4) (oi := { dst := some 54, op := Go.Op.load 43 (Go.Operand.tmp 10), type := 43, pos := "ref.go:102", after := #[{ on := 3, ground := Go.Ground.guard }], guard := some (3, true) }) (v := _) rfl (by kernel_rfl) (by kernel_rfl) (by kernel_rfl) (fun _ _ _ h => h) (by kernel_rfl) (Or.inl ⟨by rfl, ?hy37⟩) S0 ?rest37
    case hy37 => (intro W hSw; (try dsimp only at hSw); obtain ⟨⟨s1, s2, s3, s4, s5, s6⟩, r1, r2, r3, r4, r5, r6⟩ := hSw; go_simp; (try rw [ho]); try (with_reducible rfl))
    try simp only [Act.put, List.setIfInBounds_toArray, List.set_cons_zero, List.set_cons_succ]
    refine' wpAnyD_take (i := 5) (oi := { dst := some 55, op := Go.Op.move (Go.Operand.tmp 7), type := 24, pos := "ref.go:102", after := #[{ on := 3, ground := Go.Ground.guard }], guard := some (3, true) }) (v := _) rfl (by kernel_rfl) (by kernel_rfl) (by kernel_rfl) (fun _ _ _ h => h) (by kernel_rfl) (Or.inl ⟨by rfl, ?hy38⟩) S0 ?rest38
    case hy38 => (intro W hSw; (try dsimp only at hSw); obtain ⟨⟨s1, s2, s3, s4, s5, s6⟩, r1, r2, r3, r4, r5, r6⟩ := hSw; go_simp; (try rw [ho]); try (with_reducible rfl))
    try simp only [Act.put, List.setIfInBounds_toArray, List.set_cons_zero, List.set_cons_succ]
    refine' wpAnyD_take (i := 6) (oi := { dst := some 56, op := Go.Op.move (Go.Operand.tmp 7), type := 24, pos := "ref.go:102", after := #[{ on := 3, ground := Go.Ground.guard }], guard := some (3, true) }) (v := _) rfl (by kernel_rfl) (by kernel_rfl) (by kernel_rfl) (fun _ _ _ h => h) (by kernel_rfl) (Or.inl ⟨by rfl, ?hy39⟩) S0 ?rest39
    case hy39 => (intro W hSw; (try dsimp only at hSw); obtain ⟨⟨s1, s2, s3, s4, s5, s6⟩, r1, r2, r3, r4, r5, r6⟩ := hSw; go_simp; (try rw [ho]); try (with_reducible rfl))
    try simp only [Act.put, List.setIfInBounds_toArray, List.set_cons_zero, List.set_cons_succ]
    refine' wpAnyD_take (i := 7) (oi := { dst := some 57, op := Go.Op.call { callee := Go.Callee.builtin Go.Builtin.len, args := #[Go.Operand.tmp 56], argTypes := #[24] }, type := 3, pos := "ref.go:102", after := #[{ on := 6, ground := Go.Ground.data }, { on := 3, ground := Go.Ground.guard }], guard := some (3, true) }) (v := _) rfl (by kernel_rfl) (by kernel_rfl) (by kernel_rfl) (fun _ _ _ h => h) (by kernel_rfl) (Or.inl ⟨by rfl, ?hy40⟩) S0 ?rest40
    case hy40 => (intro W hSw; (try dsimp only at hSw); obtain ⟨⟨s1, s2, s3, s4, s5, s6⟩, r1, r2, r3, r4, r5, r6⟩ := hSw; go_simp; (try rw [ho]); try (with_reducible rfl))
    try simp only [Act.put, List.setIfInBounds_toArray, List.set_cons_zero, List.set_cons_succ]
    refine' wpAnyD_take (i := 8) (oi := { dst := some 58, op := Go.Op.binOp Go.BinOp.sub 3 (Go.Operand.tmp 57) (Go.Operand.const (Go.Value.int Go.IntKind.i64 1)) 3, type := 3, pos := "ref.go:102", after := #[{ on := 7, ground := Go.Ground.data }, { on := 3, ground := Go.Ground.guard }], guard := some (3, true) }) (v := _) rfl (by kernel_rfl) (by kernel_rfl) (by kernel_rfl) (fun _ _ _ h => h) (by kernel_rfl) (Or.inl ⟨by rfl, ?hy41⟩) S0 ?rest41
    case hy41 => (intro W hSw; (try dsimp only at hSw); obtain ⟨⟨s1, s2, s3, s4, s5, s6⟩, r1, r2, r3, r4, r5, r6⟩ := hSw; go_simp; (try rw [ho]); try (with_reducible rfl))
    try simp only [Act.put, List.setIfInBounds_toArray, List.set_cons_zero, List.set_cons_succ]
    refine' wpAnyD_take (i := 9) (oi := { dst := some 59, op := Go.Op.indexAddr 24 (Go.Operand.tmp 55) (Go.Operand.tmp 58), type := 0, pos := "ref.go:102", after := #[{ on := 5, ground := Go.Ground.data }, { on := 8, ground := Go.Ground.data }, { on := 3, ground := Go.Ground.guard }], guard := some (3, true) }) (v := _) rfl (by kernel_rfl) (by kernel_rfl) (by kernel_rfl) (fun _ _ _ h => h) (by kernel_rfl) (Or.inl ⟨by rfl, ?hy42⟩) S0 ?rest42
    case hy42 => (intro W hSw; (try dsimp only at hSw); obtain ⟨⟨s1, s2, s3, s4, s5, s6⟩, r1, r2, r3, r4, r5, r6⟩ := hSw; go_simp; (try rw [ho]); try (with_reducible rfl))
    try simp only [Act.put, List.setIfInBounds_toArray, List.set_cons_zero, List.set_cons_succ]
    refine' wpAnyD_take (i := 10) (oi := { dst := some 60, op := Go.Op.load 43 (Go.Operand.tmp 59), type := 43, pos := "ref.go:102", after := #[{ on := 9, ground := Go.Ground.data }, { on := 3, ground := Go.Ground.guard }], guard := some (3, true) }) (v := _) rfl (by kernel_rfl) (by kernel_rfl) (by kernel_rfl) (fun _ _ _ h => h) (by kernel_rfl) (Or.inl ⟨by rfl, ?hy43⟩) S0 ?rest43
    case hy43 => (intro W hSw; (try dsimp only at hSw); obtain ⟨⟨s1, s2, s3, s4, s5, s6⟩, r1, r2, r3, r4, r5, r6⟩ := hSw; go_simp; (try rw [ho]); try (with_reducible rfl))
    try simp only [Act.put, List.setIfInBounds_toArray, List.set_cons_zero, List.set_cons_succ]
    refine wpAnyD_one (i := 11) (o := { dst := some 61, op := Go.Op.call { callee := Go.Callee.value (Go.Operand.func 36), args := #[Go.Operand.tmp 54, Go.Operand.tmp 60], argTypes := #[43, 43] }, type := 4, pos := "ref.go:102", after := #[{ on := 4, ground := Go.Ground.data }, { on := 10, ground := Go.Ground.data }, { on := 3, ground := Go.Ground.chain }, { on := 3, ground := Go.Ground.guard }], guard := some (3, true) }) (by kernel_rfl) rfl (fun K hK => ?_)
    rw [if_pos (by kernel_rfl)]
    go_simp
    refine (hrb _).mono ?_
    rintro e w9 ⟨rfl, g9⟩
    have G9 := hid ((Gr.refl W5).drew.trans g9)
    have S9 : (w9.cell? ⟨B1, 0, none⟩ = some (.int .i64 c.pl) ∧ w9.cell? ⟨B1, 1, none⟩ = some (.int .u64 (c.A : Nat)) ∧ w9.cell? ⟨B1, 2, none⟩ = some (.int .u64 (c.B : Nat)) ∧ w9.cell? ⟨B1, 3, none⟩ = some (.int .u64 (c.C : Nat)) ∧ w9.cell? ⟨B1, 4, none⟩ = some (.int .i64 c.N) ∧ B1 < w9.heap.size) ∧ w9.cell? ⟨b, o, none⟩ = some (.int .i64 d'.pl) ∧ w9.cell? ⟨b, o + 1, none⟩ = some (.int .u64 (d'.A : Nat)) ∧ w9.cell? ⟨b, o + 2, none⟩ = some (.int .u64 (d'.B : Nat)) ∧ w9.cell? ⟨b, o + 3, none⟩ = some (.int .u64 (d'.C : Nat)) ∧ w9.cell? ⟨b, o + 4, none⟩ = some (.int .i64 d'.N) ∧ b < w9.heap.size := by
      obtain ⟨⟨s1, s2, s3, s4, s5, s6⟩, r1, r2, r3, r4, r5, r6⟩ := S0
      exact ⟨⟨(g9.cell s6).trans s1, (g9.cell s6).trans s2, (g9.cell s6).trans s3, (g9.cell s6).trans s4, (g9.cell s6).trans s5, Nat.lt_of_lt_of_le s6 g9.size⟩, (g9.cell r6).trans r1, (g9.cell r6).trans r2, (g9.cell r6).trans r3, (g9.cell r6).trans r4, (g9.cell r6).trans r5, Nat.lt_of_lt_of_le r6 g9.size⟩
    dsimp only
    refine hK.out _ _ (fun hD => S9) ?_
    clear hK K
    try simp only [Act.put, List.setIfInBounds_toArray, List.set_cons_zero, List.set_cons_succ]
    refine wpAnyD_one (i := 12) (o := { dst := some 62, op := Go.Op.unOp Go.UnOp.not 4 (Go.Operand.tmp 61), type := 4, pos := "ref.go:102", after := #[{ on := 11, ground := Go.Ground.data }, { on := 3, ground := Go.Ground.guard }], guard := some (3, true) }) (by kernel_rfl) rfl (fun K hK => ?_)
    rw [if_pos (by kernel_rfl)]
    go_simp
    refine hK.out _ _ (fun hD => S9) ?_
    clear hK K
    try simp only [Act.put, List.setIfInBounds_toArray, List.set_cons_zero, List.set_cons_succ]
    refine wpAnyD_one (i := 13) (o := { dst := some 63, op := Go.Op.pick (Go.Operand.tmp 53) (Go.Operand.tmp 62) (Go.Operand.const (Go.Value.bool false)), type := 4, pos := "ref.go:102", after := #[{ on := 3, ground := Go.Ground.data }, { on := 12, ground := Go.Ground.data }], guard := none }) (by kernel_rfl) rfl (fun K hK => ?_)
    rw [if_pos (by kernel_rfl)]
    go_simp
    refine hK.out _ _ (fun hD => S9) ?_
    clear hK K
    try simp only [Act.put, List.setIfInBounds_toArray, List.set_cons_zero, List.set_cons_succ]
    refine wpAnyD_done (by kernel_rfl) ?_ _
    have P6 := hid (P5.out.gr G9.out)
    have HB6 := hid ((G9.out.below.block B1 (box_at HB5.out).2.2.2.2.2).trans HB5.out)
    clear S0 S9 g9 hz1 hz2 hz3 ho hrb hkN hkp hkq hkz
    by_cases hbh : lt4 d' c
    rotate_left 1
    · have HGG : Hid (bget L = .error (at_, 31)) := by
        show _ = _
        refine HG.out.1 _ ?_
        rw [HI.out.2.1, HST.out]
        refine bmany_bad ?_
        rw [HBN.out, HLast.out, show bh (some d') c = false from decide_eq_false hbh, if_pos rfl]
      rw [decide_eq_false hbh]
      go_wp2_with fail
      refine bodyPost_ret (v := .tuple #[.slice none 0 0, .int .i64 (at_ : Nat), .int .i64 31]) (by simp [results, Tryd.results39, go_sem]) rfl ?_
      show Gtr _ _ _ _
      rw [HGG.out]
      exact ⟨P6.out.bl, rfl⟩
    have HB1 : Hid (bone L acc.getLast? at_ = .ok (c, p)) := by
      show _ = _
      rw [HBN.out, HLast.out, show bh (some d') c = true from decide_eq_true hbh]
      rfl
    rw [decide_eq_true hbh]
    clear hbh
    have HA := hid (HBO.out c p HB1.out)
    have HS2 : Hid (bmany L n [] n1 = bmany L (n - (i + 1)) (acc ++ [c]) p) := by
      show _ = _
      rw [HI.out.2.1, HST.out]
      exact bmany_good HB1.out
    have hle5 : Hid (w.heap.size ≤ w9.heap.size) := P6.out.bl.size
    have hbig : Hid ((acc.length + 1) * 40 ≤ 140737488355328) := by show _ ≤ _; have := hbd.out; omega
    obtain ⟨y0, y1, y2, y3, y4, y5⟩ := box_at HB6.out
    go_wp2_with (at_builtin; refine Hid.out ?_)
    refine hid ?_
    refine wpC1 (w := w9) rfl _ _ rfl w.heap.size (.slice (some ⟨b, off, none⟩) m _) acc rfl P6.out.ro c (by show Value.slice _ 1 1 = _; simp) hbig.out hle5.out _ ?_
    intro lb w6 ho6 ht6
    have G6 := hid (P6.out.grow ho6.out ht6.out)
    have hnb2 := hnb.out
    have hwk : IntKind.u64.wrap ((i : Int) + 1) = ((i + 1 : Nat) : Int) := by rw [IntKind.wrap_u64]; omega
    clear ho6 ht6 y0 y1 y2 y3 y4 y5
    go_wp2_with fail
    go_roundw
    case rel =>
      refine ⟨i + 1, p, _, lb, acc ++ [c], by omega, rfl, by first | go_num | rw [hwk] | rfl, G6.out, HS2.out, ?_⟩
      have h1 := HA.out
      have h2 := fc_ge c
      have h3 := hbd.out.2.1
      rw [List.length_append, List.length_singleton]
      omega
    case measure =>
      (try rw [hwk])
      simp [RowKit.intOf]
      omega
end Go.Proofs.YtghofmhlmkpkcaaDoor.Wi
