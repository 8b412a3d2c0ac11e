import Derived.Test.YtghofmhlmkpkcaaDoorBTake
namespace Go.Proofs.YtghofmhlmkpkcaaDoor.Wi
open Go.RowKit Go.Sort
attribute [local go_sem ↓] Go.wp_at_zero Go.wp_at_succ
section
variable {w : World} {ops : Array Oper} {rest : List Oper} {o : Oper} {a : Act} {Q : Exit → Act → World → Prop}
/-- 'append(own, c)' of changes. -/
theorem wpC1 (hgd : o.guard = none) (s x : Operand) (ho : o.op = .call { callee := .builtin .append, args := #[s, x], argTypes := #[24, 24] })
    (base : Nat) (v : Value) (l : List Cx) (hs : a.eval s = v) (hown : w.ownsRow base 43 5 v l.length (fl EC l)) (c : Cx) (hx : a.eval x = .slice (some ⟨w.heap.size, 0, none⟩) 1 1) (hbig : (l.length + 1) * 40 ≤ 140737488355328) (hbase : base ≤ w.heap.size) (te : TypeId)
    (h : ∀ v' w', Hid (w'.ownsRow base 43 5 v' (l ++ [c]).length (fl EC (l ++ [c]))) → Hid (Tn v v' w w') → wpList Tryd.prog ops Q rest (a.put o.dst v') w') :
    wpList Tryd.prog ops Q (o :: rest) a (w.alloc (.cells #[.int .i64 c.pl, .int .u64 (c.A : Nat), .int .u64 (c.B : Nat), .int .u64 (c.C : Nat), .int .i64 c.N] te)) := by
  refine wpApp1 EC Tryd.underlying24 infoC rfl (by decide) hgd s x ho base v l.length _ hs hown c hx hbig (by unfold maxLen; omega) hbase _ rfl te ?_
  intro g cap w' h1 h2 h3
  refine h _ w' (owns_re h1 (by simp) (by rw [fl_append, fl_one])) ⟨Kp.grownBy h2 (fun _ h => h), fun k hk => ?_⟩
  simp [Value.ownBlock] at hk
  subst hk
  exact h3
end
theorem bget_many {L : List UInt8} {n a : Nat} (h0 : L ≠ []) (h1 : num L mx 0 = .ok (n, a)) (hn : n ≠ 0) : (∀ e, bmany L n [] a = .error e → bget L = .error e) ∧ ∀ l a', bmany L n [] a = .ok (l, a') → bget L = if a' < L.length then .error (a', 32) else .ok l := by
  constructor
  · intro e h
    unfold bget
    rw [if_neg h0, h1]
    simp only [if_neg hn, h]
  · intro l a' h
    unfold bget
    rw [if_neg h0, h1]
    simp only [if_neg hn, h]
theorem bmany_bad {L : List UInt8} {n at_ : Nat} {acc : List Cx} {e : Er} (h : bone L acc.getLast? at_ = .error e) : bmany L (n + 1) acc at_ = .error e := by rw [bmany, h]
theorem bmany_good {L : List UInt8} {n at_ a : Nat} {acc : List Cx} {c : Cx} (h : bone L acc.getLast? at_ = .ok (c, a)) : bmany L (n + 1) acc at_ = bmany L n (acc ++ [c]) a := by rw [bmany, h]
/-- While a list is got. -/
structure Gf (w wr : World) (rb : Nat) (d la : Value) (L : List UInt8) (at_ : Nat) (acc : List Cx) : Prop where
  rd : Rd wr rb d L at_ 0
  bl : Below w.heap.size w wr
  nb : w.heap.size ≤ rb
  od : ∀ g, d.ownBlock = some g → w.heap.size ≤ g
  ro : wr.ownsRow w.heap.size 43 5 la acc.length (fl EC acc)
  ne : la.ownBlock ≠ some rb
  nd : ∀ g, la.ownBlock = some g → d.ownBlock ≠ some g
section
variable {w wr : World} {rb at_ : Nat} {d la : Value} {L : List UInt8} {acc : List Cx}
theorem Gf.read (h : Gf w wr rb d la L at_ acc) {w2 : World} {a2 : Nat} (hR : Rd w2 rb d L a2 0) (hk : Kp (fun k => k = rb) wr w2) : Gf w w2 rb d la L a2 acc :=
  ⟨hR, h.bl.trans (hk.below h.bl.size (fun _ hk => hk ▸ h.nb)), h.nb, h.od, owns_kp hk h.ro (fun _ hk e => h.ne (e ▸ hk)), h.ne, h.nd⟩
theorem Gf.gr (h : Gf w wr rb d la L at_ acc) {w2 : World} (hg : Gr wr w2) : Gf w w2 rb d la L at_ acc := h.read (h.rd.gr hg) (Kp.of_gr hg)
theorem Gf.grow (h : Gf w wr rb d la L at_ acc) {w2 : World} {lb : Value} {acc2 : List Cx} (ho : w2.ownsRow w.heap.size 43 5 lb acc2.length (fl EC acc2)) (ht : Tn la lb wr w2) : Gf w w2 rb d lb L at_ acc2 := by
  refine ⟨h.rd.kp ht.1 h.ne (fun k hk e => h.nd k e hk), h.bl.trans (ht.1.below h.bl.size (fun k hk => (h.ro.lt k hk).1)), h.nb, h.od, ho, fun e => ?_, fun g hg e => ?_⟩
  · rcases ht.2 _ e with h1 | h1
    · exact h.ne h1
    · have := h.rd.lt; omega
  · rcases ht.2 _ hg with h1 | h1
    · exact h.nd g h1 e
    · have := h.rd.ls.blk g e; omega
theorem Gf.list (h : Gf w wr rb d la L at_ acc) : Ls EC wr la acc := owns_ls (E := EC) h.ro
end
/-- What Get leaves. -/
def Gtd (w : World) (x : Except Er (List Cx)) (r : Ending) (w' : World) : Prop :=
  Below w.heap.size w w' ∧ match x with
  | .ok l => ∃ d, r = .returned (.tuple #[d, .nilIface]) ∧ w'.ownsRow w.heap.size 43 5 d l.length (fl EC l)
  | .error (p, e) => ∃ fb, r = .returned (.tuple #[.slice none 0 0, .iface 51 (.pointer (some ⟨fb, 0, none⟩))]) ∧ w.heap.size ≤ fb ∧ w'.heap[fb]? = some (.cells #[.int .i64 (p : Nat), .int .i64 (e : Nat)] 60 (0, 0))
set_option maxHeartbeats 8000000 in
set_option maxRecDepth 100000 in
theorem get_any {v : Value} {L : List UInt8} (w : World) (hL : Ls EB w v L) (hl : 8 * L.length + 100 ≤ 140737488355328) :
    Calls Tryd.prog 8 #[v] w fun r w' => Gtd w (bget L) r w' := by
  obtain ⟨pv, cv, rfl⟩ := hL.form
  by_cases h0 : L = []
  · subst h0
    clear hL
    go_enter Tryd.func8, Tryd.ntmps8
    go_wp2_with fail
    go_ret2
    exact ⟨Below.refl _ _, _, rfl, World.ownsRow_nil _ _ _ _⟩
  have hnr := newreader_any w hL (by omega)
  have hz0 : ¬ (L.length : Int) = 0 := fun e => h0 (List.eq_nil_of_length_eq_zero (by omega))
  have HNE := hid h0
  have HLL := hid hl
  clear hL h0 hl
  obtain ⟨ll, hll⟩ : ∃ ll, L.length = ll := ⟨_, rfl⟩
  rw [hll] at hz0 hnr ⊢
  clear hll
  go_enter Tryd.func8, Tryd.ntmps8
  go_wp2_with fail
  refine hnr.mono ?_
  rintro r w1 ⟨rb, d, rfl, hge, hR, hd, hb⟩
  have G1 : Hid (Gf w w1 rb d (.slice none 0 0) L 0 []) := ⟨hR, hb, hge, hd, World.ownsRow_nil _ _ _ _, by simp [Value.ownBlock], by simp [Value.ownBlock]⟩
  clear hnr hge hR hd hb
  go_wp2_with fail
  obtain ⟨⟨n, n1, e1⟩, hs1⟩ : ∃ S, rn 0 mx (L.drop 0) = S := ⟨_, rfl⟩
  have hb1 := rn_le 0 mx (L.drop 0)
  have hnr := num_rn L mx 0
  have hc1 := rnum_any mx _ G1.out.rd
  rw [hs1] at hb1 hc1 hnr
  simp only at hb1 hc1 hnr
  rw [show ((mx : Nat) : Int) = 18446744073709551615 from rfl, Nat.zero_add] at hc1
  rw [Nat.zero_add] at hnr
  refine hc1.mono ?_
  rintro r w2 ⟨rfl, hR2, k2⟩
  have HNR := hid hnr
  have HB1 := hid hb1
  have HK2 := hid k2
  have HR2 := hid hR2
  clear hc1 hs1 hb1 hnr hR2 k2
  go_wp2_with fail
  refine (rerr_any _ HR2.out).mono ?_
  rintro r wx ⟨rfl, rfl⟩
  by_cases he : e1 = 0
  · subst he
    have G2 := hid (G1.out.read HR2.out HK2.out)
    have HNM : Hid (num L mx 0 = .ok (n, n1)) := by
      show _ = _
      rcases HNR.out with ⟨_, h⟩ | ⟨h, _⟩
      · exact h
      · exact absurd rfl h
    by_cases hn0 : n = 0
    · subst hn0
      have HG : Hid (bget L = .error (0, 31)) := by
        show _ = _
        unfold bget
        rw [if_neg HNE.out, HNM.out]
        rfl
      go_wp2_with fail
      go_ret2
      rw [HG.out]
      have hal := (Gr.refl wx).alloc (.cells #[.int .i64 0, .int .i64 31] 60)
      exact ⟨G2.out.bl.trans (hal.below.mono G2.out.bl.size), _, rfl, G2.out.bl.size, heap_new' _ _⟩
    · have hnz : ¬ (n : Int) = 0 := by omega
      have hnq : ((n : Int) == 0) = false := by simpa using hnz
      have HG := hid (bget_many HNE.out HNM.out hn0)
      have hnb : Hid (n < 18446744073709551616) := HB1.out.2.1
      go_wp2_with fail
      go_loopw [6, 28] (fun s6 s28 wr => ∃ (i at_ : Nat) (la : Value) (acc : List Cx), i ≤ n ∧ la = s6 ∧ s28 = .int .u64 i ∧ Hid (Gf w wr rb d la L at_ acc ∧ bmany L n [] n1 = bmany L (n - i) acc at_ ∧ 5 * acc.length ≤ at_)) (fun _ s28 _ => n - (RowKit.intOf s28).toNat)
      case atStart => exact ⟨0, n1, _, [], Nat.zero_le _, rfl, rfl, G2.out, rfl, Nat.zero_le _⟩
      case round =>
        obtain ⟨i, at_, la, acc, hi, rfl, rfl, HI⟩ := hrel
        have hbd : Hid (at_ ≤ L.length ∧ 5 * acc.length ≤ at_ ∧ 8 * L.length + 100 ≤ 140737488355328) := ⟨HI.out.1.rd.le, HI.out.2.2, HLL.out⟩
        by_cases hlt : i < n
        · have hltz : (i : Int) < (n : Int) := by omega
          have htk := take_one wr HI.out.1.rd HI.out.1.list HI.out.1.ne (by have := hbd.out; omega)
          have HST : Hid (n - i = (n - (i + 1)) + 1) := by show _ = _; omega
          have HBO : Hid (∀ c a, bone L acc.getLast? at_ = .ok (c, a) → a = at_ + (fc c).length) := fun c a h => (bone_ok HI.out.1.rd.le h).2.2.2.2
          go_wp2_with fail
          refine htk.mono ?_
          rintro r w3 ⟨k3, h3⟩
          clear htk
          have HK3 := hid k3
          cases hbo : bone L acc.getLast? at_ with
          | error pe =>
            obtain ⟨p, e⟩ := pe
            rw [hbo] at h3
            obtain ⟨fb, rfl, hfb, hf⟩ := h3
            have HF := hid hf
            have HFB := hid hfb
            have HGG : Hid (bget L = .error (p, e)) := by
              show _ = _
              exact HG.out.1 _ (by rw [HI.out.2.1, HST.out]; exact bmany_bad hbo)
            clear k3 hf hfb
            go_wp2_with fail
            go_ret2
            rw [HGG.out]
            have hal := (Gr.refl w3).alloc (.cells #[.int .i64 0, .int .u64 0, .int .u64 0, .int .u64 0, .int .i64 0] 43)
            have hb3 := HI.out.1.bl.trans (HK3.out.below HI.out.1.bl.size (fun k hk => hk ▸ HI.out.1.nb))
            exact ⟨hb3.trans (hal.below.mono hb3.size), fb, rfl, Nat.le_trans HI.out.1.bl.size HFB.out, (hal.below.block fb (Array.getElem?_eq_some_iff.1 HF.out).1).trans HF.out⟩
          | ok ca =>
            obtain ⟨c, a⟩ := ca
            rw [hbo] at h3
            obtain ⟨rfl, hR3⟩ := h3
            have G3 := hid (HI.out.1.read hR3 HK3.out)
            have HA := hid (HBO.out c a hbo)
            have HS2 : Hid (bmany L n [] n1 = bmany L (n - (i + 1)) (acc ++ [c]) a) := by
              show _ = _
              rw [HI.out.2.1, HST.out]
              exact bmany_good hbo
            have GR5 : Gr w3 (w3.alloc (.cells #[.int .i64 c.pl, .int .u64 (c.A : Nat), .int .u64 (c.B : Nat), .int .u64 (c.C : Nat), .int .i64 c.N] 43)) := (Gr.refl _).alloc _
            have G5 := hid (G3.out.gr GR5)
            have hle5 : Hid (w.heap.size ≤ (w3.alloc (.cells #[.int .i64 c.pl, .int .u64 (c.A : Nat), .int .u64 (c.B : Nat), .int .u64 (c.C : Nat), .int .i64 c.N] 43)).heap.size) := G5.out.bl.size
            have hbig : Hid ((acc.length + 1) * 40 ≤ 140737488355328) := by show _ ≤ _; have := hbd.out; omega
            obtain ⟨pl, nl, cl, rfl⟩ : ∃ p n c, la = .slice p n c := by
              obtain ⟨p, c, h⟩ := HI.out.1.list.form
              exact ⟨p, _, c, h⟩
            clear k3 hR3 GR5 hbo
            go_wp2_with (at_builtin; refine Hid.out ?_)
            refine hid ?_
            refine wpC1 (w := (w3.alloc (.cells #[.int .i64 c.pl, .int .u64 (c.A : Nat), .int .u64 (c.B : Nat), .int .u64 (c.C : Nat), .int .i64 c.N] 43))) rfl _ _ rfl w.heap.size (.slice pl nl cl) acc rfl G5.out.ro c (by show Value.slice _ 1 1 = _; simp) hbig.out hle5.out _ ?_
            intro lb w6 ho6 ht6
            have G6 := hid (G5.out.grow ho6.out ht6.out)
            have hnb2 := hnb.out
            have hwk : IntKind.u64.wrap ((i : Int) + 1) = ((i + 1 : Nat) : Int) := by rw [IntKind.wrap_u64]; omega
            clear ho6 ht6
            go_wp2_with fail
            go_roundw
            case rel =>
              refine ⟨i + 1, a, lb, acc ++ [c], by omega, rfl, by first | go_num | rw [hwk] | rfl, G6.out, HS2.out, ?_⟩
              have h1 := HA.out
              have h2 := fc_ge c
              have h3 := hbd.out.2.1
              rw [List.length_append, List.length_singleton]
              omega
            case measure =>
              (try rw [hwk])
              simp [RowKit.intOf]
              omega
        · have hltz : ¬ (i : Int) < (n : Int) := by omega
          have HE : Hid (bget L = if at_ < L.length then .error (at_, 32) else .ok acc) := by
            show _ = _
            refine HG.out.2 _ _ ?_
            rw [HI.out.2.1, show n - i = 0 by omega, bmany]
          go_wp2_with fail
          refine (rend_any _ HI.out.1.rd).mono ?_
          rintro r w3 ⟨rfl, hR3, k3⟩
          have HR3 := hid hR3
          have HB3 := hid (HI.out.1.bl.trans (k3.below HI.out.1.bl.size (fun k hk => hk ▸ HI.out.1.nb)))
          have HO3 := hid (owns_kp k3 HI.out.1.ro (fun k hk e => HI.out.1.ne (e ▸ hk)))
          clear hR3 k3
          go_wp2_with fail
          refine (rerr_any _ HR3.out).mono ?_
          rintro r wx4 ⟨rfl, rfl⟩
          by_cases hat : at_ < L.length
          · have hre : re1 0 (L.drop at_) = 32 := by
              unfold re1
              rw [if_pos rfl, if_neg (by rw [List.length_drop]; omega)]
            rw [hre] at HR3 ⊢
            rw [if_pos hat] at HE
            go_wp2_with fail
            refine (refused_any _ HR3.out).mono ?_
            rintro r w5 ⟨rfl, hw5⟩
            have G5 : Gr wx4 w5 := by rw [hw5]; exact (Gr.refl _).alloc _
            obtain ⟨fb, hfb⟩ : ∃ fb, fb = wx4.heap.size := ⟨_, rfl⟩
            have HF : Hid (w5.heap[fb]? = some (.cells #[.int .i64 (at_ : Nat), .int .i64 ((32 : Nat) : Int)] 60 (0, 0))) := by rw [hw5, hfb]; exact heap_new' _ _
            have HFB : Hid (w.heap.size ≤ fb ∧ Below w.heap.size w w5) := ⟨by rw [hfb]; exact HB3.out.size, HB3.out.trans (G5.below.mono HB3.out.size)⟩
            rw [← hfb]
            clear hw5 hfb G5
            go_wp2_with fail
            go_ret2
            rw [HE.out]
            exact ⟨HFB.out.2, fb, rfl, HFB.out.1, HF.out⟩
          · have hre : re1 0 (L.drop at_) = 0 := by
              unfold re1
              rw [if_pos rfl, if_pos (by rw [List.length_drop]; omega)]
            rw [hre] at HR3 ⊢
            rw [if_neg hat] at HE
            go_wp2_with fail
            go_ret2
            rw [HE.out]
            exact ⟨HB3.out, _, rfl, HO3.out⟩
  · have hez : ¬ (e1 : Int) = 0 := by omega
    have HE : Hid (bget L = .error (0, e1) ∧ n1 = 0) := by
      rcases HNR.out with ⟨h, _⟩ | ⟨_, h, h2⟩
      · exact absurd h he
      · refine ⟨?_, h2⟩
        unfold bget
        rw [if_neg HNE.out, h]
    have HB2 : Hid (Below w.heap.size w wx) := G1.out.bl.trans (HK2.out.below G1.out.bl.size (fun k hk => hk ▸ G1.out.nb))
    go_wp2_with fail
    refine (refused_any _ HR2.out).mono ?_
    rintro r w5 ⟨rfl, hw5⟩
    have G5 : Gr wx w5 := by rw [hw5]; exact (Gr.refl _).alloc _
    obtain ⟨fb, hfb⟩ : ∃ fb, fb = wx.heap.size := ⟨_, rfl⟩
    have HF : Hid (w5.heap[fb]? = some (.cells #[.int .i64 (n1 : Nat), .int .i64 (e1 : Nat)] 60 (0, 0))) := by rw [hw5, hfb]; exact heap_new' _ _
    have HFB : Hid (w.heap.size ≤ fb ∧ Below w.heap.size w w5) := ⟨by rw [hfb]; exact HB2.out.size, HB2.out.trans (G5.below.mono HB2.out.size)⟩
    rw [← hfb]
    clear hw5 hfb G5
    go_wp2_with fail
    go_ret2
    rw [HE.out.1]
    have hf := HF.out
    rw [HE.out.2] at hf
    exact ⟨HFB.out.2, fb, rfl, HFB.out.1, hf⟩
end Go.Proofs.YtghofmhlmkpkcaaDoor.Wi
