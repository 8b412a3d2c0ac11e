import Derived.Test.YtmhbpelbkeclpaaGreatDoorPOps
import Derived.Test.YtmhbpelbkeclpaaGreatDoorPApp
namespace Go.Proofs.YtmhbpelbkeclpaaGreatDoor
open Go.RowKit Go.Shelf Go.Lib
open Go.Sort hiding Below

theorem tfront_len (ts : List T3) : (tfront ts).length ≤ ts.length := by
  have h := tfold_length (tsort ts)
  rwa [tsort_length] at h
theorem take_flat {ts : List T3} {k : Nat} {s : T3} (hs : ts[k]? = some s) : flat (ts.take (k + 1)) = flat (ts.take k) ++ encT s := by
  rw [List.take_add_one, hs, flat_append]; simp [flat]

set_option maxHeartbeats 2000000 in
set_option maxRecDepth 100000 in
theorem Least_any (v : Value) (ts : List T3) (w : World) (hv : Lst w v ts) (hbig : ts.length * 24 ≤ 140737488355328) :
    Calls Tryz.prog 17 #[v] w fun e w' => ∃ v', e = .returned v' ∧ w'.ownsRow w.heap.size 34 3 v' (tfront ts).length (flat (tfront ts)) ∧ Below w.heap.size w w' := by
  obtain ⟨pl, cl, rfl⟩ := hv.form
  have HL : Hid (Lst w (.slice pl ts.length cl) ts) := hv
  clear hv
  obtain ⟨i0, hi, hz0, hz1, hz2⟩ := info_parts infoT
  obtain ⟨w1, hmk, hown1, hgb1⟩ := run_make_own (P := Tryz.prog) w w.heap.size 22 25 i0 _ 3 Tryz.underlying22 hi hz0 hz1 .i64 .i64 ts.length (by rw [hz2]; omega) (by unfold maxLen; omega) (Nat.le_refl _)
  have hb1 : Below w.heap.size w w1 := (Below.refl w.heap.size w).grown hgb1 (Nat.le_refl _) (fun k hk => by cases hk)
  have HI : Hid (Tryz.prog.info? 25 = some i0) := hi
  clear hi hz0 hz1 hz2 hgb1
  go_enter Tryz.func17, Tryz.ntmps17
  go_wp2_with fail
  go_loopw [3, 14] (fun s3 s14 wr => ∃ k : Nat, k ≤ ts.length ∧ s14 = .int .i64 k ∧ wr.ownsRow w.heap.size 25 3 s3 k (flat (ts.take k)) ∧ Below w.heap.size w wr) (fun _ s14 _ => ts.length - (RowKit.intOf s14).toNat)
  case atStart => exact ⟨0, Nat.zero_le _, rfl, hown1, hb1⟩
  case round =>
    obtain ⟨k, hk, rfl, hown, hbw⟩ := hrel
    clear hmk hown1 hb1
    have hsz := hbw.size
    by_cases hlt : k < ts.length
    · have hltz : (k : Int) < (ts.length : Int) := by omega
      obtain ⟨s, hs⟩ : ∃ s, ts[k]? = some s := ⟨ts[k], by simp⟩
      obtain ⟨b1, o1, c1, e1, z1, x1, x2, x3⟩ := (HL.out.below hbw).at2 hs
      simp only [Value.slice.injEq] at e1
      obtain ⟨rfl, _, rfl⟩ := e1
      have HS : Hid (ts[k]? = some s) := hs
      clear hs
      go_wp2_with (at_builtin; refine wpApp1 Tryz.underlying22 infoT rfl _ _ rfl w.heap.size _ k (flat (ts.take k)) rfl (hown.alloc _) s (by show Value.slice (some ⟨wr.heap.size + 1, 0, none⟩) 1 1 = _; simp) (by omega) (by simp; omega) ?_)
      intro vn wm hom hbm
      go_wp2
      refine ⟨⟨k + 1, by omega, by go_num, by rw [take_flat HS.out]; exact hom, (hbw.alloc hsz _).trans hbm⟩, by simp [RowKit.intOf]; omega⟩
    · have hltz : ¬ (k : Int) < (ts.length : Int) := by omega
      have hk' : k = ts.length := by omega
      subst hk'
      rw [List.take_length] at hown
      have hF := Front_any _ ts wr (owns_lst hown) hbig
      have hfl := tfront_len ts
      clear hown
      obtain ⟨fs, hfs⟩ : ∃ fs, fs = tfront ts := ⟨_, rfl⟩
      rw [← hfs] at hF hfl
      have HFS : Hid (fs = tfront ts) := hfs
      clear hfs
      go_wp2_with fail
      refine hF.mono ?_
      rintro e w2 ⟨v', rfl, ho2, hb2⟩
      have hb2' : Below w.heap.size w w2 := hbw.trans (hb2.mono hsz)
      have HL2 : Hid (Lst w2 v' fs) := owns_lst ho2
      obtain ⟨pf, cf, rfl⟩ := HL2.out.form
      have hsz2 := hb2'.size
      clear hF ho2 hb2 hbw
      go_wp2_with fail
      go_loopw [6, 26] (fun s6 s26 wr => ∃ k : Nat, k ≤ fs.length ∧ s26 = .int .i64 k ∧ wr.ownsRow w2.heap.size 34 3 s6 k (flat (fs.take k)) ∧ Below w2.heap.size w2 wr) (fun _ s26 _ => fs.length - (RowKit.intOf s26).toNat)
      case atStart => exact ⟨0, Nat.zero_le _, rfl, ⟨rfl, Or.inl ⟨rfl, rfl⟩⟩, Below.refl _ _⟩
      case round =>
        obtain ⟨k, hk2, rfl, hown, hbw⟩ := hrel
        have hsz3 := hbw.size
        by_cases hlt2 : k < fs.length
        · have hltz2 : (k : Int) < (fs.length : Int) := by omega
          obtain ⟨s, hs⟩ : ∃ s, fs[k]? = some s := ⟨fs[k], by simp⟩
          obtain ⟨b1, o1, c1, e1, z1, x1, x2, x3⟩ := (HL2.out.below hbw).at2 hs
          simp only [Value.slice.injEq] at e1
          obtain ⟨rfl, _, rfl⟩ := e1
          have HS : Hid (fs[k]? = some s) := hs
          clear hs
          go_wp2_with (at_builtin; refine wpApp1 Tryz.underlying33 infoP rfl _ _ rfl w2.heap.size _ k (flat (fs.take k)) rfl (hown.alloc _) s (by show Value.slice (some ⟨wr.heap.size + 1, 0, none⟩) 1 1 = _; simp) (by omega) (by simp; omega) ?_)
          intro vn wm hom hbm
          go_wp2
          refine ⟨⟨k + 1, by omega, by go_num, by rw [take_flat HS.out]; exact hom, (hbw.alloc hsz3 _).trans hbm⟩, by simp [RowKit.intOf]; omega⟩
        · have hltz2 : ¬ (k : Int) < (fs.length : Int) := by omega
          have hk2' : k = fs.length := by omega
          subst hk2'
          rw [List.take_length] at hown
          go_wp2
          have hfin := owns_base2 hown hsz2
          rw [HFS.out] at hfin
          go_ret
          exact ⟨u6, by first | rfl | simp, hfin, hb2'.trans (hbw.mono hsz2)⟩
end Go.Proofs.YtmhbpelbkeclpaaGreatDoor
