import Derived.Test.YthbdbmbdfhbeiaaGreatYKnU
namespace Go.Proofs.YthbdbmbdfhbeiaaGreat
open Go.RowKit Go.Sort Go.Maps
attribute [local go_sem ↓] Go.wp_at_zero Go.wp_at_succ

theorem add_ok {f : BS → Int} {x : BS} {v : Int} (h1 : byd v = false) (h2 : byd (f x + v) = false) : addc f x v = 0 ∧ addf f x v = upd f x (f x + v) := by
  unfold addc addf; simp [h1, h2]
theorem add_bad {f : BS → Int} {x : BS} {v : Int} (h2 : byd (f x + v) = true) : addc f x v = 12 ∧ addf f x v = f := by
  unfold addc addf; simp [h2]
theorem srt_eq {cf : BS → BS → Int} (hO : SWO (ltOf cf)) (hT : ∀ x y, ltOf cf x y = false → ltOf cf y x = false → x = y) {ks l : List BS} (hp : ks.Perm l) (hl : l.Pairwise fun x y => ltOf cf y x = false) : srt cf ks = l := by
  have tr : ∀ x y z : BS, (!(ltOf cf) y x) = true → (!(ltOf cf) z y) = true → (!(ltOf cf) z x) = true := fun x y z h1 h2 => by
    simp only [Bool.not_eq_true'] at *
    exact hO.ntrans z y x h2 h1
  have ttl : ∀ x y : BS, ((!(ltOf cf) y x) || (!(ltOf cf) x y)) = true := fun x y => by
    cases h1 : ltOf cf y x with
    | false => simp
    | true =>
      cases h2 : ltOf cf x y with
      | false => simp
      | true => have := hO.trans x y x h2 h1; rw [hO.irrefl] at this; cases this
  refine List.Perm.eq_of_pairwise (le := fun x y => (!(ltOf cf) y x) = true) (fun x y _ _ h1 h2 => ?_) (List.pairwise_mergeSort tr ttl ks) (hl.imp fun h => by simp [h]) ((srt_perm cf ks).trans hp)
  simp only [Bool.not_eq_true'] at h1 h2
  exact hT x y h2 h1

/-- Some texts of one letter. -/
abbrev la : BS := ⟨⟨#[97]⟩, by decide⟩
abbrev lb : BS := ⟨⟨#[98]⟩, by decide⟩
abbrev lc : BS := ⟨⟨#[99]⟩, by decide⟩
theorem lab : la ≠ lb := by decide
theorem lac : la ≠ lc := by decide
theorem lbc : lb ≠ lc := by decide
def kf1 : BS → Int := upd (fun _ => 0) lb 2
def kf2 : BS → Int := upd kf1 la (-1)
def kf : BS → Int := upd kf2 lc 0
theorem kn1 : addc (fun _ => 0) lb 2 = 0 ∧ addf (fun _ => 0) lb 2 = kf1 := add_ok (by decide) (by decide)
theorem kn2 : addc kf1 la (-1) = 0 ∧ addf kf1 la (-1) = kf2 := by
  have h := add_ok (f := kf1) (x := la) (v := -1) (by decide) (by decide)
  rw [show kf1 la + -1 = -1 by decide] at h
  exact h
theorem kn3 : addc kf2 lc 0 = 0 ∧ addf kf2 lc 0 = kf := by
  have h := add_ok (f := kf2) (x := lc) (v := 0) (by decide) (by decide)
  rw [show kf2 lc + 0 = 0 by decide] at h
  exact h
theorem kf_sup : Sup kf [la, lb] := by
  refine ⟨by simp, fun s => ?_⟩
  unfold kf kf2 kf1 upd
  by_cases h1 : s = lc
  · subst h1; simp [lac.symm, lbc.symm]
  · by_cases h2 : s = la
    · subst h2; simp
    · by_cases h3 : s = lb
      · subst h3; simp [lab.symm]
      · simp [h1, h2, h3]
theorem kf_b : kf lb = 2 := by unfold kf kf2 kf1 upd; simp [lab.symm]
theorem kf_a : kf la = -1 := by unfold kf kf2 kf1 upd; simp
theorem bl_ba : bl lb la = false := by unfold bl; rw [ByteArray.toList_eq, ByteArray.toList_eq]; decide
theorem kn4 : addc kf lb 2147483647 = 12 ∧ addf kf lb 2147483647 = kf := add_bad (by rw [kf_b]; decide)
theorem kf_srt {ks : List BS} (h : Sup kf ks) : srt (cf 0) ks = [la, lb] := by
  refine srt_eq (order_swo 0 (by decide)).1 (order_swo 0 (by decide)).2 (h.perm kf_sup) ?_
  simp [lt0, bl_ba]
theorem kf_all (x : BS) : byd (kf x + kf x) = false := by
  rw [byd_f]
  unfold kf kf2 kf1 upd
  by_cases h1 : x = lc
  · simp [h1]
  · by_cases h2 : x = la
    · subst h2; simp
    · by_cases h3 : x = lb
      · subst h3; simp [lab.symm]
      · simp [h1, h2, h3]

set_option maxHeartbeats 4000000 in
set_option maxRecDepth 100000 in
theorem known_any (w : World) : Calls Tryz.prog 8 #[] w fun e w' => e = .returned (.bool true) ∧ Below w.heap.size w w' := by
  have hm := made_any 0 (by decide) w
  go_enter Tryz.func8, Tryz.ntmps8
  go_wp2_with fail
  refine hm.mono ?_
  rintro e w1 ⟨tb, b, g, rfl, htb, hb, ho, ht, hg⟩
  clear hm
  have h1 := add_any lb 2 w1 ht (by decide)
  rw [kn1.1, kn1.2] at h1
  go_wp2_with fail
  refine h1.mono ?_
  rintro e w2 ⟨rfl, ht2, hk2⟩
  have h2 := add_any la (-1) w2 ht2 (by decide)
  rw [kn2.1, kn2.2] at h2
  clear h1
  go_wp2_with fail
  refine h2.mono ?_
  rintro e w3 ⟨rfl, ht3, hk3⟩
  have h3 := add_any lc 0 w3 ht3 (by decide)
  rw [kn3.1, kn3.2] at h3
  clear h2
  go_wp2_with fail
  refine h3.mono ?_
  rintro e w4 ⟨rfl, ht4, hk4⟩
  clear h3
  have HB4 : Hid (Below w.heap.size w w4) := hg.below.trans (((hk2.trans hk3 (fun _ _ h => h)).trans hk4 (fun _ _ h => h)).below hg.size (fun k hk => by rw [hk]; exact hb))
  have HT4 : Hid (Tl w4 tb b g 3 kf) := ht4
  have hle := len_any w4 ht4
  have hge := get_any la w4 ht4
  rw [kf_a] at hge
  have h4 := fun W (hW : Tl W tb b g 3 kf) => add_any lb 2147483647 W hW (by decide)
  rw [kn4.1, kn4.2] at h4
  clear ht ht2 ht3 ht4 hk2 hk3 hk4 hg
  go_wp2_with fail
  refine hle.mono ?_
  rintro e w5 ⟨ks, hks, rfl, rfl⟩
  have hkl : ks.length = 2 := (hks.perm kf_sup).length_eq
  rw [hkl]
  clear hks hkl hle
  go_wp2_with fail
  refine hge.mono ?_
  rintro e w6 ⟨rfl, rfl⟩
  clear hge
  go_wp2_with fail
  refine (clear_nil _).mono ?_
  rintro e w7 ⟨rfl, rfl⟩
  go_wp2_with fail
  refine (add_nil la 1 _).mono ?_
  rintro e w8 ⟨rfl, rfl⟩
  go_wp2_with fail
  refine (get_nil la _).mono ?_
  rintro e w9 ⟨rfl, rfl⟩
  go_wp2_with fail
  refine (len_nil _).mono ?_
  rintro e w10 ⟨rfl, rfl⟩
  go_wp2_with fail
  refine (keys_nil _).mono ?_
  rintro e w11 ⟨rfl, rfl⟩
  go_wp2_with fail
  refine (join_nil _ _).mono ?_
  rintro e w12 ⟨rfl, rfl⟩
  go_wp2_with fail
  refine (copy_nil _).mono ?_
  rintro e w13 ⟨rfl, rfl⟩
  have hke := keys_any w13 HT4.out ho (by decide)
  go_wp2_with fail
  refine hke.mono ?_
  rintro e w14 ⟨gb, cap, ks, hks, rfl, how, hbw⟩
  have hL := owns_ls how
  rw [kf_srt hks] at hL ⊢
  obtain ⟨b1, o1, c1, e1, z1, x1⟩ := hL.at1 (j := 0) (x := la) rfl
  simp only [Value.slice.injEq, Option.some.injEq, Addr.mk.injEq] at e1
  obtain ⟨⟨rfl, rfl, -⟩, -, rfl⟩ := e1
  have x2 : w14.cell? ⟨gb, 0 + 1, none⟩ = some (sv lb) := by
    obtain ⟨b2, o2, c2, e2, z2, x2⟩ := hL.at1 (j := 1) (x := lb) rfl
    simp only [Value.slice.injEq, Option.some.injEq, Addr.mk.injEq] at e2
    obtain ⟨⟨rfl, rfl, -⟩, -, rfl⟩ := e2
    exact x2
  have eab : ((ByteArray.mk #[97]).toList == (ByteArray.mk #[97]).toList) = true := by simp
  have HB14 : Hid (Below w.heap.size w w14) := HB4.out.trans (hbw.mono HB4.out.size)
  have ht14 := HT4.out.below hbw
  have h5 := h4 w14 ht14
  have HT14 : Hid (Tl w14 tb b g 3 kf) := ht14
  clear hL how hbw hks HT4 HB4 hke ht14 h4
  go_wp2_with fail
  refine h5.mono ?_
  rintro e w15 ⟨rfl, ht15, hk15⟩
  have HT15 : Hid (Tl w15 tb b g 4 kf) := ht15
  have HB15 : Hid (Below w.heap.size w w15) := HB14.out.trans (hk15.below HB14.out.size (fun k hk => by rw [hk]; exact hb))
  clear ht15 hk15 h5 HT14 HB14 x1 x2 z1
  go_wp2_with fail
  refine (join_none tb _).mono ?_
  rintro e w16 ⟨rfl, rfl⟩
  have hj := join_any w16 HT15.out HT15.out (by decide)
  go_wp2_with fail
  refine hj.mono ?_
  rintro e w17 (⟨⟨x, hx⟩, rfl, _⟩ | ⟨_, rfl, ht17, hk17⟩)
  · rw [kf_all] at hx; cases hx
  have hge := get_any lb w17 ht17
  rw [show kf lb + kf lb = 4 by rw [kf_b]; rfl] at hge
  have HB17 : Hid (Below w.heap.size w w17) := HB15.out.trans (hk17.below HB15.out.size (fun k hk => by rw [hk]; exact hb))
  clear ht17 hk17 hj
  go_wp2_with fail
  refine hge.mono ?_
  rintro e w18 ⟨rfl, rfl⟩
  go_wp2
  go_ret
  exact ⟨rfl, HB17.out⟩
end Go.Proofs.YthbdbmbdfhbeiaaGreat
