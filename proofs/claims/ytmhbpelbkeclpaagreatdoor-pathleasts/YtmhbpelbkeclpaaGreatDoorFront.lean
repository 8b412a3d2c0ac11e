import Derived.Test.YtmhbpelbkeclpaaGreatDoorSorted
import Derived.Deep.AppendLies
import Derived.Deep.LoopGhost
namespace Go.Proofs.YtmhbpelbkeclpaaGreatDoor
open Go.RowKit Go.Shelf Go.Lib
open Go.Sort hiding Below

theorem below_putRow {w : World} (g off : Nat) (d : Array Value) : Below g w (putRow id w g off d) := by
  refine ⟨rfl, rfl, rfl, by simp [putRow, mapBlock], fun k hk => ?_⟩
  simp only [putRow, mapBlock, Array.getElem?_modify]
  rw [if_neg (by omega)]

theorem below_sortWorld (w : World) (g off n : Nat) (d : Array T3) (os : Array Obj) (hg : g < w.heap.size) : Below g w (sortWorldK encT 3 w g off n d os) := by
  unfold sortWorldK putRowK
  have h1 : Below g w (Sort.ahead w n) := ⟨rfl, rfl, rfl, Nat.le_refl _, fun _ _ => rfl⟩
  have h2 := h1.trans (below_putRow (w := Sort.ahead w n) g off (flatK encT 3 d))
  refine h2.trans ⟨rfl, rfl, rfl, by simp [grow], fun k hk => ?_⟩
  exact heap_grow_old _ os (by have := h2.size; omega)

set_option maxHeartbeats 1000000 in
theorem sort_any (g cap : Nat) (ts : List T3) (w : World) (hH : HoldsK encT 3 w g 0 ts.toArray) (hg : g < w.heap.size) (hsz : ts.length < 4611686018427387904) :
    Calls Tryz.prog 28 #[.slice (some ⟨g, 0, none⟩) ts.length cap, .func (.func 29) #[] #[]] w fun e w' => e = .returned (.tuple #[]) ∧ TimesAt w' g 0 (tsort ts) ∧ Below g w w' := by
  have eg : ∀ args w, (callFunc 29 args).run Tryz.prog w = .ok (.enter 29 args) w := enters_of Tryz.func29 (by kernel_rfl) rfl
  have hcon := AnyQ.slices_SortFunc_total Tryz.lSort 3 Tryz.isAgg25 Tryz.sizeOf25 encT (fun _ => rfl) (fun x v hv => by simp [encT] at hv; rcases hv with rfl | rfl | rfl <;> rfl) cmp3 swo3 29 #[] g 0 cap ts.toArray w eg (cmpLays3 g 0 _ w) hH hg (by simpa using hsz) tot3
  change Calls Tryz.prog 28 _ _ _ at hcon
  rw [List.size_toArray] at hcon
  refine hcon.mono ?_
  rintro e w' ⟨rfl, n, os, rfl⟩
  refine ⟨rfl, ?_, below_sortWorld _ _ _ _ _ _ hg⟩
  have hs : (tsort ts).toArray.size = ts.toArray.size := by simp [tsort_length]
  have h1 : HoldsK encT 3 (putRowK encT 3 (Sort.ahead w n) g 0 (tsort ts).toArray) g 0 (tsort ts).toArray := holdsK_putRowK encT 3 (Sort.ahead w n) g 0 ts.toArray _ (holdsK_ahead encT 3 w n g 0 _ hH) hs
  have h2 := holdsK_grow encT 3 _ os g 0 _ (show g < (putRowK encT 3 (Sort.ahead w n) g 0 (tsort ts).toArray).heap.size from Nat.lt_of_lt_of_le hg (by simp [putRowK, putRow, mapBlock, Sort.ahead])) h1
  unfold HoldsK at h2
  rw [flatK_eq] at h2
  intro j u hj
  have hj' : j < (flat (tsort ts)).length := (List.getElem?_eq_some_iff.1 hj).1
  have := (h2 j (by simpa using hj')).1
  rw [show ((flat (tsort ts)).toArray)[j]! = u by rw [List.getElem?_eq_getElem hj'] at hj; simp at hj; simp [hj', hj]] at this
  exact this

/-- What a round does. -/
def fstep (f : List T3) (t : T3) : List T3 := if topen f t then f else f ++ [t]
/-- Front of what is told in order. -/
def tfold (ts : List T3) : List T3 := ts.foldl fstep []
def tfront (ts : List T3) : List T3 := tfold (tsort ts)
theorem tfront_nil : tfront [] = [] := by simp [tfront, tsort, tfold]
theorem tfold_take_succ (ts : List T3) (k : Nat) (t : T3) (h : ts[k]? = some t) : tfold (ts.take (k + 1)) = fstep (tfold (ts.take k)) t := by
  unfold tfold
  rw [List.take_add_one, h, List.foldl_append]
  rfl
theorem fstep_length (f : List T3) (t : T3) : (fstep f t).length ≤ f.length + 1 := by
  unfold fstep; split <;> simp
theorem foldl_fstep_length (ts f : List T3) : (ts.foldl fstep f).length ≤ f.length + ts.length := by
  induction ts generalizing f with
  | nil => simp
  | cons t ts ih =>
    have h1 := ih (fstep f t)
    have h2 := fstep_length f t
    simp only [List.foldl_cons, List.length_cons]; omega
theorem tfold_length (ts : List T3) : (tfold ts).length ≤ ts.length := by
  have := foldl_fstep_length ts []
  simpa [tfold] using this

/-- What is owned stays owned while nothing below the heap's end turns. -/
theorem owns_below {w w' : World} {base : Nat} {e : TypeId} {size : Nat} {v : Value} {n : Nat} {xs : List Value} (h : w.ownsRow base e size v n xs) (hb : Below w.heap.size w w') : w'.ownsRow base e size v n xs := by
  obtain ⟨h1, h2⟩ := h
  refine ⟨h1, ?_⟩
  rcases h2 with h2 | ⟨g, cap, cur, hv, hg, hh, r⟩
  · exact Or.inl h2
  · exact Or.inr ⟨g, cap, cur, hv, hg, by rw [hb.block g (Array.getElem?_eq_some_iff.1 hh).1]; exact hh, r⟩
theorem owns_lst {w : World} {base : Nat} {e : TypeId} {v : Value} {ts : List T3} (h : w.ownsRow base e 3 v ts.length (flat ts)) : Lst w v ts := by
  rcases owns_at h with ⟨hv, ht⟩ | ⟨g, cap, hv, _, hg, ht, _⟩
  · exact Or.inl ⟨ht, hv⟩
  · exact Or.inr ⟨g, 0, cap, hv, hg, ht⟩

theorem own_block {w : World} {base : Nat} {e : TypeId} {size : Nat} {v : Value} {n : Nat} {xs : List Value} (h : w.ownsRow base e size v n xs) : ∀ k, v.ownBlock = some k → base ≤ k := by
  intro k hk
  obtain ⟨_, ⟨rfl, _⟩ | ⟨g, cap, cur, rfl, hg, _⟩⟩ := h
  · simp [Value.ownBlock] at hk
  · simp [Value.ownBlock] at hk; omega
theorem own_base {w : World} {base base' : Nat} {e : TypeId} {size : Nat} {v : Value} {n : Nat} {xs : List Value} (h : w.ownsRow base e size v n xs) (hb : base' ≤ base) : w.ownsRow base' e size v n xs := by
  obtain ⟨h1, h2⟩ := h
  refine ⟨h1, ?_⟩
  rcases h2 with h2 | ⟨g, cap, cur, hv, hg, r⟩
  · exact Or.inl h2
  · exact Or.inr ⟨g, cap, cur, hv, by omega, r⟩
theorem infoT : (Tryz.prog.info? 25).map (fun i => (i.zero, i.size, i.bytes)) = some (some (.agg #[.int .u64 0, .int .u64 0, .int .u64 0]), 3, 24) := by kernel_rfl

set_option maxHeartbeats 2000000 in
set_option maxRecDepth 100000 in
/-- The loop of Front over what was sorted, and its end. -/
theorem Front_any (v : Value) (ts : List T3) (w : World) (hv : Lst w v ts) (hbig : ts.length * 24 ≤ 140737488355328) :
    Calls Tryz.prog 8 #[v] w fun e w' => ∃ v', e = .returned v' ∧ w'.ownsRow w.heap.size 25 3 v' (tfront ts).length (flat (tfront ts)) ∧ Below w.heap.size w w' := by
  rcases hv with ⟨rfl, rfl⟩ | ⟨bk, off, cap, rfl, hb, ht⟩
  · have hc := AnyE.slices_Clone_nil Tryz.lClone 0 0 w
    change Calls Tryz.prog 27 _ _ _ at hc
    have hs := fun W => AnyF.slices_SortFunc_none Tryz.lSort none 0 (.func (.func 29) #[] #[]) W
    change ∀ W, Calls Tryz.prog 28 _ _ _ at hs
    go_enter Tryz.func8, Tryz.ntmps8
    go_wp2_with fail
    refine hc.mono ?_
    rintro e w1 ⟨rfl, rfl⟩
    go_wp2_with fail
    refine (hs _).mono ?_
    rintro e w2 ⟨rfl, rfl⟩
    go_wp2
    refine wp_loop_rounds 1 ?_
    rw [rounds_succ]
    go_wp2
    go_ret
    rw [tfront_nil]
    exact ⟨_, rfl, ⟨rfl, Or.inl ⟨rfl, rfl⟩⟩, Below.refl _ _⟩
  · obtain ⟨i0, hi, hz0, hz1, hz2⟩ := info_parts infoT
    have hc := AnyE.slices_Clone Tryz.lClone i0 (.agg #[.int .u64 0, .int .u64 0, .int .u64 0]) 3 24 hi hz0 hz1 hz2 rfl (by decide) Tryz.sizeOf25 bk off ts.length cap (flat ts) w (flat_length ts) (by unfold maxLen; omega) hbig ht (flat_oneCell ts)
    change Calls Tryz.prog 27 _ _ _ at hc
    clear ht
    have hso := fun g cap1 w1 hH hg2 => sort_any g cap1 ts w1 hH hg2 (by omega)
    have hSl := tsort_length ts
    have hfr : Hid (tfront ts = tfold (tsort ts)) := rfl
    rw [hfr.out]
    generalize tsort ts = S at *
    generalize hn : ts.length = n at *
    have Hown : ∀ {v : Value} {W : World}, W.ownsRow w.heap.size 25 3 v n (flat ts) → _ := fun {v W} h => owns_at (ts := ts) (hn ▸ h)
    rw [hn] at Hown
    clear hn
    go_enter Tryz.func8, Tryz.ntmps8
    go_wp2_with fail
    refine hc.mono ?_
    rintro e w1 ⟨v1, rfl, hown, hnn, hb1⟩
    rcases Hown hown with ⟨hv, _⟩ | ⟨g, cap1, rfl, hg1, hg2, hat, hH⟩
    · exact absurd hv hnn
    go_wp2_with fail
    refine (hso g cap1 w1 hH hg2).mono ?_
    rintro e w2 ⟨rfl, hat2, hb2⟩
    clear hso hc Hown hH hat hnn
    go_wp2
    go_loopw [4, 13] (fun s4 s13 wr => ∃ k : Nat, k ≤ n ∧ s13 = .int .i64 k ∧ wr.ownsRow w2.heap.size 25 3 s4 (tfold (S.take k)).length (flat (tfold (S.take k))) ∧ Below w2.heap.size w2 wr) (fun _ s13 _ => n - (intOf s13).toNat)
    case atStart => exact ⟨0, Nat.zero_le _, rfl, ⟨rfl, Or.inl ⟨rfl, rfl⟩⟩, Below.refl _ _⟩
    case round =>
      obtain ⟨k, hk, rfl, hown1, hbw⟩ := hrel
      by_cases hlt : k < n
      · have hltz : (k : Int) < (n : Int) := by omega
        obtain ⟨t, hS⟩ : ∃ t, S[k]? = some t := ⟨S[k]'(by omega), by simp⟩
        have hgw : g < w2.heap.size := Nat.lt_of_lt_of_le hg2 hb2.size
        obtain ⟨c0, c1, c2⟩ := (hat2.below hbw hgw).three hS
        rw [Nat.zero_add] at c0 c1 c2
        have HT : Hid (tfold (S.take (k + 1)) = fstep (tfold (S.take k)) t) := tfold_take_succ S k t hS
        have hfl : (tfold (S.take k)).length ≤ k := Nat.le_trans (tfold_length _) (List.length_take_le _ _)
        clear hS
        generalize tfold (S.take k) = f at *
        have hown2 := hown1.alloc (.cells #[.int .u64 t.1, .int .u64 t.2.1, .int .u64 t.2.2] 25)
        have hO := Open_any u4 f t.1 t.2.1 t.2.2 (wr.alloc (.cells #[.int .u64 t.1, .int .u64 t.2.1, .int .u64 t.2.2] 25)) (owns_lst hown2) (by unfold maxLen; omega)
        have hO : Calls Tryz.prog 9 _ _ fun e w' => e = .returned (.bool (topen f t)) ∧ _ := hO
        cases ho : topen f t
        · have HF : Hid (fstep f t = f ++ [t]) := by unfold fstep; rw [ho]; rfl
          rw [ho] at hO
          clear ho
          go_wp2_with fail
          refine hO.mono ?_
          rintro e w3 ⟨rfl, hb3⟩
          have hown3 := owns_below hown2 hb3
          obtain ⟨hc3, hf3⟩ := below_cells hb3
          have hz3 : wr.heap.size < w3.heap.size := by have := hb3.size; simp at this; omega
          go_wp2_with (at_builtin; refine wpList_append_own _ rfl _ _ 22 rfl w2.heap.size 25 i0 (.agg #[.int .u64 0, .int .u64 0, .int .u64 0]) 3 24 Tryz.underlying22 hi hz0 hz1 hz2 rfl (by decide) _ _ _ rfl (hown3.alloc _) ⟨w3.heap.size, 0, none⟩ 1 1 (encT t) rfl rfl ?qc ?qo (by unfold maxLen; omega) (by omega) (by have := hbw.size; simp; omega) ?_)
          case qc =>
            intro j u hj
            match j, hj with
            | 0, hj => simp [encT] at hj; subst hj; simp [Addr.add]
            | 1, hj => simp [encT] at hj; subst hj; simp [Addr.add]
            | 2, hj => simp [encT] at hj; subst hj; simp [Addr.add]
            | j + 3, hj => simp [encT] at hj
          case qo => intro u hu; simp [encT] at hu; rcases hu with rfl | rfl | rfl <;> rfl
          intro v' w4 hown4 hgrow hnil
          go_wp2
          have z1 := hbw.size
          have z3 := hb3.size
          simp at z3
          refine ⟨⟨k + 1, by omega, by go_num, ?_, ?_⟩, by simp [intOf]; omega⟩
          · rw [HT.out, HF.out, flat_append]
            simpa [flat] using hown4
          · exact ((((hbw.alloc z1 _).trans (hb3.mono (by simp; omega))).alloc (by omega) _).grown hgrow (by simp; omega) (own_block hown3))
        · have HF : Hid (fstep f t = f) := by unfold fstep; rw [ho]; rfl
          rw [ho] at hO
          clear ho
          go_wp2_with fail
          refine hO.mono ?_
          rintro e w3 ⟨rfl, hb3⟩
          have hown3 := owns_below hown2 hb3
          go_wp2
          have z1 := hbw.size
          refine ⟨⟨k + 1, by omega, by go_num, ?_, ?_⟩, by simp [intOf]; omega⟩
          · rw [HT.out, HF.out]; exact hown3
          · exact (hbw.alloc z1 _).trans (hb3.mono (by simp; omega))
      · have hltz : ¬ (k : Int) < (n : Int) := by omega
        have hkS : S.take k = S := List.take_of_length_le (by omega)
        rw [hkS] at hown1
        clear hkS
        go_wp2
        go_ret
        have z1 := hb1.size
        have z2 := hb2.size
        exact ⟨_, rfl, own_base hown1 (by omega), (hb1.trans (hb2.mono hg1)).trans (hbw.mono (by omega))⟩
end Go.Proofs.YtmhbpelbkeclpaaGreatDoor
