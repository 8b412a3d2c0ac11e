import Derived.Test.YtplbcamliiajdaaYRef5
import Derived.Test.YtplbcamliiajdaaYKeeps
namespace Go.Proofs.Ytplbcamliiajdaa
open Go.RowKit Go.Sort Go.Maps
attribute [local go_sem ↓] Go.wp_at_zero Go.wp_at_succ

/-- The counts of texts are those of the document. -/
structure Rel (f : BS → Int) (N : List Rk) (C : List Int) : Prop where
  eq : ∀ x, f x = rget N C (x, 0)
  zero : ∀ y ∈ N, y.2 = 0
theorem keys_rel {f : BS → Int} {N : List Rk} {C : List Int} {kind : Int} (hk : kind = 0 ∨ kind = 1 ∨ kind = 2) (hr : Rel f N C) (hl : C.length = N.length) (hn : N.Nodup) {ks : List BS} (hs : Sup f ks) :
    rkeys kind N C N.length = (srt (cf kind) ks).map fun x => (x, (0 : Int)) := by
  have hsrt := srt_rkeys kind hk hl hn N.length (Nat.le_refl _)
  have hmem := fun y => mem_rk (kind := kind) hl hn y
  generalize rkeys kind N C N.length = R at *
  have hz : ∀ y ∈ R, y.2 = 0 := fun y hy => by
    have h0 := (hmem y).1 hy
    exact hr.zero y (Classical.byContradiction fun hm => h0 (rget_not hl hm))
  have e1 : R = (R.map (·.1)).map fun x => (x, (0 : Int)) := by
    rw [List.map_map]
    conv => lhs; rw [← List.map_id R]
    refine List.map_congr_left fun y hy => ?_
    show y = (y.1, 0)
    rw [← hz y hy]
  have hp : (R.map (·.1)).Pairwise fun x y => ltOf (cf kind) x y = true := by
    rw [List.pairwise_map]
    refine hsrt.imp_of_mem fun {a b} ha hb hab => ?_
    have := ltk_cf kind a.1 b.1
    rw [← this]
    have ea : a = (a.1, 0) := by rw [← hz a ha]
    have eb : b = (b.1, 0) := by rw [← hz b hb]
    rw [← ea, ← eb]
    exact hab
  have hO := order_swo kind hk
  have hnd : (R.map (·.1)).Nodup := hp.imp fun {a b} hab e => by
    subst e
    rw [hO.1.irrefl] at hab
    cases hab
  have hperm : ks.Perm (R.map (·.1)) := by
    refine (List.perm_ext_iff_of_nodup hs.1 hnd).2 fun x => ?_
    rw [hs.2 x, hr.eq x, ← hmem (x, 0), List.mem_map]
    constructor
    · intro h; exact ⟨_, h, rfl⟩
    · rintro ⟨y, hy, rfl⟩
      rw [show ((y.1, 0) : Rk) = y by rw [← hz y hy]]
      exact hy
  rw [srt_eq hO.1 hO.2 hperm (hp.imp fun {a b} hab => by
    cases hq : ltOf (cf kind) b a with
    | false => rfl
    | true => have := hO.1.trans _ _ _ hab hq; rw [hO.1.irrefl] at this; cases this)]
  exact e1

set_option maxHeartbeats 8000000 in
set_option maxRecDepth 100000 in
theorem alike_any {x : Tb} {r : Rf} {n : Nat} {f : BS → Int} {kind : Int} {N : List Rk} {C : List Int} (key : BS) (w : World) (ht : Tl w x.t x.b x.g n f) (hO : OrdOk x.g (cf kind)) (hr : RT w r kind N C) (hk : kind = 0 ∨ kind = 1 ∨ kind = 2) (hrel : Rel f N C) (hn : n * 16 ≤ 140737488355328) :
    Calls Try.prog 20 #[tp x, rp r, .string key.1] w fun e w' => e = .returned (.bool true) ∧ Below w.heap.size w w' := by
  have hmx : Try.prog.follows .mixedOrders = true := by kernel_rfl
  have HT : Hid (Tl w x.t x.b x.g n f) := ht
  have HR : Hid (RT w r kind N C) := hr
  have HREL : Hid (Rel f N C) := hrel
  have HKS : Hid (∀ ks, Sup f ks → rkeys kind N C N.length = (srt (cf kind) ks).map fun x => (x, (0 : Int))) := fun ks hs => keys_rel hk hrel hr.len hr.nd hs
  have hke := rkeys_any w hr
  have hfew := hr.few
  have hlen := rkeys_len kind hr.len N.length (Nat.le_refl _)
  clear ht hr hrel
  go_enter Try.func20, Try.ntmps20
  go_wp2_with fail
  refine hke.mono ?_
  rintro e w1 ⟨vk, rfl, H1⟩
  obtain ⟨R, hR⟩ : ∃ R, R = rkeys kind N C N.length := ⟨_, rfl⟩
  rw [← hR] at hlen
  have HK1 : Hid (Lk w1 vk R) := by rw [hR]; exact H1.out.1
  have HKS' : Hid (∀ ks, Sup f ks → R = (srt (cf kind) ks).map fun x => (x, (0 : Int))) := fun ks hs => by rw [hR]; exact HKS.out ks hs
  have HB1 : Hid (Below w.heap.size w w1) := H1.out.2.1
  obtain ⟨pk, ck, rfl, _⟩ := HK1.out.form
  have hle := len_any w1 (HT.out.below HB1.out)
  clear hke H1 hR HKS
  go_wp2_with fail
  refine hle.mono ?_
  rintro e w2 ⟨ks, hks, rfl, rfl⟩
  have hkl : ks.length = R.length := by rw [HKS'.out ks hks, List.length_map, srt_length]
  rw [hkl]
  clear hks hkl hle
  have hge := get_any key w2 (HT.out.below HB1.out)
  have hrg := fun W (hW : RT W r kind N C) => rget_any (key, 0) W hW
  have hfk := HREL.out.eq key
  obtain ⟨a, ha⟩ : ∃ a, a = rget N C (key, 0) := ⟨_, rfl⟩
  rw [hfk, ← ha] at hge
  rw [← ha] at hrg
  clear hfk ha
  go_wp2_with fail
  refine hge.mono ?_
  rintro e w3 ⟨rfl, rfl⟩
  go_wp2_with fail
  refine (text_any key _).mono ?_
  rintro e w4 ⟨rfl, g4⟩
  have HB4 : Hid (Below w.heap.size w w4) := HB1.out.trans (g4.below.mono HB1.out.size)
  have HK4 : Hid (Lk w4 (.slice pk R.length ck) R) := HK1.out.below g4.below
  have hrg4 := hrg w4 (HR.out.bel HB4.out)
  clear g4 HB1 HK1 hge hrg
  go_wp2_with fail
  refine hrg4.mono ?_
  rintro e w5 ⟨rfl, g5⟩
  have HB5 : Hid (Below w.heap.size w w5) := HB4.out.trans (g5.below.mono HB4.out.size)
  have HK5 : Hid (Lk w5 (.slice pk R.length ck) R) := HK4.out.below g5.below
  have hka := keys_any w5 (HT.out.below HB5.out) hO hn
  clear g5 hrg4 HB4 HK4
  go_wp2_with fail
  refine hka.mono ?_
  rintro e w6 ⟨gb, cap, ks2, hs2, rfl, how, hb6⟩
  have HB6 : Hid (Below w.heap.size w w6) := HB5.out.trans (hb6.mono HB5.out.size)
  have HK6 : Hid (Lk w6 (.slice pk R.length ck) R) := HK5.out.below hb6
  have HRK := HKS'.out ks2 hs2
  obtain ⟨K, hK⟩ : ∃ K, K = srt (cf kind) ks2 := ⟨_, rfl⟩
  have HL6 : Hid (Ls w6 (.slice (some ⟨gb, 0, none⟩) K.length cap) K) := by rw [hK]; exact owns_ls how
  rw [← hK] at HRK ⊢
  have HRK' : Hid (R = K.map fun x => (x, (0 : Int))) := HRK
  have hKl : R.length = K.length := by rw [HRK, List.length_map]
  have hKl0 : K.length ≤ 100000 := by omega
  rw [hKl] at HK6 ⊢
  clear HRK hK how hb6 hs2 hka HB5 HK5 hKl hlen
  go_wp2_with fail
  go_loopw [9, 40] (fun _ s40 wr => ∃ i : Nat, i ≤ K.length ∧ s40 = .int .i64 i ∧ Gr w6 wr) (fun _ s40 _ => K.length - (RowKit.intOf s40).toNat)
  case atStart => exact ⟨0, Nat.zero_le _, rfl, Gr.refl _⟩
  case round =>
    obtain ⟨i, hi, rfl, hgr⟩ := hrel
    by_cases hlt : i < K.length
    · have hltz : (i : Int) < (K.length : Int) := by omega
      obtain ⟨y, hy⟩ : ∃ y, K[i]? = some y := ⟨K[i], by simp⟩
      obtain ⟨b1, o1, c1, e1, z1, x1⟩ := (HL6.out.below hgr.below).at1 hy
      simp only [Value.slice.injEq, Option.some.injEq, Addr.mk.injEq] at e1
      obtain ⟨⟨rfl, rfl, -⟩, -, rfl⟩ := e1
      rw [Nat.zero_add] at x1
      obtain ⟨b2, o2, c2, e2, z2, y1, y2⟩ := (HK6.out.below hgr.below).at2 (j := i) (x := (y, 0)) (by rw [HRK'.out, List.getElem?_map, hy]; rfl)
      simp only [Value.slice.injEq] at e2
      obtain ⟨rfl, -, rfl⟩ := e2
      have hself : (y.1.toList == y.1.toList) = true := by simp
      have hBr : Below w.heap.size w wr := HB6.out.trans (hgr.below.mono HB6.out.size)
      have hg1 := get_any y wr.drew ((HT.out.below hBr).gr (Gr.refl _).drew)
      have hg2 := rget_any (y, 0) wr.drew ((HR.out.bel hBr).gr (Gr.refl _).drew)
      have hfk := HREL.out.eq y
      obtain ⟨s, hs⟩ : ∃ s, s = rget N C (y, 0) := ⟨_, rfl⟩
      rw [hfk, ← hs] at hg1
      rw [← hs] at hg2
      have S0 : wr.cell? ⟨gb, i, none⟩ = some (.string y.1) ∧ wr.cell? ⟨b2, o2 + i * 2, none⟩ = some (.string y.1) ∧ wr.cell? ⟨b2, o2 + i * 2 + 1, none⟩ = some (.int .i64 0) ∧ gb < wr.heap.size ∧ b2 < wr.heap.size := ⟨x1, y1, y2, z1, z2⟩
      have keepB : ∀ W W' : World, (W.cell? ⟨gb, i, none⟩ = some (.string y.1) ∧ W.cell? ⟨b2, o2 + i * 2, none⟩ = some (.string y.1) ∧ W.cell? ⟨b2, o2 + i * 2 + 1, none⟩ = some (.int .i64 0) ∧ gb < W.heap.size ∧ b2 < W.heap.size) → Gr W W' → (W'.cell? ⟨gb, i, none⟩ = some (.string y.1) ∧ W'.cell? ⟨b2, o2 + i * 2, none⟩ = some (.string y.1) ∧ W'.cell? ⟨b2, o2 + i * 2 + 1, none⟩ = some (.int .i64 0) ∧ gb < W'.heap.size ∧ b2 < W'.heap.size) := fun W W' h hb =>
        ⟨(hb.cell h.2.2.2.1).trans h.1, (hb.cell h.2.2.2.2).trans h.2.1, (hb.cell h.2.2.2.2).trans h.2.2.1, Nat.lt_of_lt_of_le h.2.2.2.1 hb.size, Nat.lt_of_lt_of_le h.2.2.2.2 hb.size⟩
      clear hy hfk hs hBr x1 y1 y2
      go_wp2_with fail
      go_region_held3 (fun w' => w'.cell? ⟨gb, i, none⟩ = some (.string y.1) ∧ w'.cell? ⟨b2, o2 + i * 2, none⟩ = some (.string y.1) ∧ w'.cell? ⟨b2, o2 + i * 2 + 1, none⟩ = some (.int .i64 0) ∧ gb < w'.heap.size ∧ b2 < w'.heap.size)
        (first | exact S0 | exact keepB _ _ (by assumption) (Gr.refl _).drew | exact keepB _ _ (by assumption) (by assumption))
        (first | (go_at_call 13; refine hg1.mono ?_; rintro e w7 ⟨rfl, rfl⟩) | (go_at_call 36; refine hg2.mono ?_; rintro e w8 ⟨rfl, g8⟩))
      have G9 : Gr w6 w8 := hgr.trans ((Gr.refl wr).drew.trans g8)
      clear g8 S0 keepB hg1 hg2 hgr
      go_wp2
      exact ⟨⟨i + 1, by omega, by go_num, G9⟩, by simp [RowKit.intOf]; omega⟩
    · have hltz : ¬ (i : Int) < (K.length : Int) := by omega
      go_wp2
      go_ret
      exact ⟨rfl, HB6.out.trans (hgr.below.mono HB6.out.size)⟩
end Go.Proofs.Ytplbcamliiajdaa
