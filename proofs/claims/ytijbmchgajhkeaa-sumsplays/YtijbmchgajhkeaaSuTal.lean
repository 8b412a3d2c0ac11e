import Derived.Test.YtijbmchgajhkeaaSuKey
import Derived.Test.YtijbmchgajhkeaaSuCl
import Derived.Sort.KeysCollected
import Derived.Shelf.SlMaps.Clone
import Derived.Defers
import Derived.Recover
import Derived.Deep.RegionHeld3
namespace Go.Proofs.Ytijbmchgajhkeaa
open Go.RowKit
theorem heap_alloc2_new (w : World) (o p : Obj) : (((w.alloc o).alloc p)).heap[w.heap.size + 1]? = some p := by
  have := heap_new' (w.alloc o) p
  simpa using this
theorem heap_alloc2_old (w : World) (o p : Obj) : (((w.alloc o).alloc p)).heap[w.heap.size]? = some o := by
  rw [Below.heap_alloc _ _ _ (by simp)]
  exact heap_new' _ _
end Go.Proofs.Ytijbmchgajhkeaa
namespace Go.Proofs.Ytijbmchgajhkeaa.Tt
open Go.RowKit Go.Sort Go.Maps
attribute [local go_sem ↓] Go.wp_at_zero Go.wp_at_succ

theorem zeroE (w : World) : (zeroValue 2).run Try.prog w = .ok (.int .i64 0) w := by kernel_rfl

/-- A tally: its order's function, its counts. -/
structure Tl (w : World) (tb b g n : Nat) (f : Ku → Int) : Prop where
  blk : w.heap[tb]? = some (.cells #[fv g, .map (some b)] 95 (0, 0))
  ta : Ta ZU 2 w b n f
  bd : ∀ s, -2147483647 ≤ f s ∧ f s ≤ 2147483647
section
variable {w w' : World} {tb b g n : Nat} {f : Ku → Int}
theorem Tl.lt (h : Tl w tb b g n f) : tb < w.heap.size := (Array.getElem?_eq_some_iff.1 h.blk).1
theorem Tl.c0 (h : Tl w tb b g n f) : w.cell? ⟨tb, 0, none⟩ = some (fv g) := by simp [World.cell?, h.blk]
theorem Tl.c1 (h : Tl w tb b g n f) : w.cell? ⟨tb, 1, none⟩ = some (.map (some b)) := by simp [World.cell?, h.blk]
theorem Tl.fz (h : Tl w tb b g n f) : w.frozen? ⟨tb, 1, none⟩ = false := by simp [World.frozen?, h.blk]
theorem Tl.ne (h : Tl w tb b g n f) : tb ≠ b := fun e => by
  obtain ⟨D, ⟨es, clock, hb, _⟩, _⟩ := h.ta
  rw [← e, h.blk] at hb
  cases hb
theorem Tl.kp {S : Nat → Prop} (h : Tl w tb b g n f) (hk : Kp S w w') (h1 : ¬ S tb) (h2 : ¬ S b) : Tl w' tb b g n f :=
  ⟨(hk.block tb h.lt h1).trans h.blk, h.ta.kept (hk.block b h.ta.lt h2), h.bd⟩
theorem Tl.below (h : Tl w tb b g n f) (hb : Below w.heap.size w w') : Tl w' tb b g n f := h.kp (S := fun _ => False) (Kp.of_below hb) (fun h => h) (fun h => h)
theorem Tl.gr (h : Tl w tb b g n f) (hb : Gr w w') : Tl w' tb b g n f := h.below hb.below
end

theorem new_any (g : Nat) (w : World) : Calls Try.prog 51 #[fv g] w fun e w' => e = .returned (.pointer (some ⟨w.heap.size + 1, 0, none⟩)) ∧ Tl w' (w.heap.size + 1) w.heap.size g 0 (fun _ => 0) ∧ Gr w w' := by
  have hmm := @run_makeMap Try.prog
  go_enter Try.func51, Try.ntmps51
  go_wp2
  go_ret
  refine ⟨rfl, ⟨?_, ?_, fun _ => ?_⟩, ((Gr.refl _).alloc _).alloc _⟩
  · exact heap_alloc2_new _ _ _
  · exact (Ta.made w).kept ((heap_alloc2_old _ _ _).trans (MapKept.heap_alloc w _).1.symm)
  · decide

theorem recover_idle (w : World) : CallsD Try.prog 64 #[] .returning w fun e u' w' => e = .returned (.tuple #[]) ∧ u' = .returning ∧ w' = w := by
  refine callsD_of_wpS Try.func64 rfl fun c₀ cs hu => ?_
  apply wpS_region
  simp [wpOpsS, go_sem, recoverD, hu, Try.ntmps64, bodyPostS, results, Try.results64]
  cases c₀
  simp_all
set_option maxHeartbeats 1000000 in
theorem count_any {tb b g n : Nat} {f : Ku → Int} (x : Ku) (w : World) (h : Tl w tb b g n f) :
    Calls Try.prog 53 #[.pointer (some ⟨tb, 0, none⟩), uv x] w fun e w' => e = .returned (.tuple #[.int .i64 (f x), .bool true]) ∧ w' = w := by
  have c1 := h.c1
  obtain ⟨D, hown, h1, h2⟩ := h.ta
  have hx := h1 x
  obtain ⟨c, hrun, hat, _⟩ := hown.lookup_int ZU.law Try.underlying93 Try.underlying2 (zeroE _) (ZU.key x)
  have e0 : c = f x := by
    rw [hx] at hat
    simpa using hat.symm
  subst e0
  have hrun : (Instr.lookup 93 (.map (some b)) (uv x) false).run Try.prog w = .ok (.int .i64 (f x)) w := hrun
  clear hx hat h1 h2 hown h
  generalize f x = r at hrun ⊢
  go_enter_defers Try.func53, Try.ntmps53
  go_wp2
  refine leaves_cons (f := 64) (args := #[]) (by simp) (by simp [go_sem]) ?_
  refine (recover_idle _).mono ?_
  rintro e u' w'' ⟨rfl, rfl, rfl⟩
  simp [Leaves, settle, results, Try.results53, go_sem]

/-- Beyond what a count may be. -/
def byd (n : Int) : Bool := decide (n < -2147483647) || decide (2147483647 < n)
theorem byd_f {n : Int} : byd n = false ↔ -2147483647 ≤ n ∧ n ≤ 2147483647 := by unfold byd; simp
theorem byd_t {n : Int} : byd n = true ↔ n < -2147483647 ∨ 2147483647 < n := by unfold byd; simp
theorem beyond_any (n : Int) (w : World) : Calls Try.prog 52 #[.int .i64 n] w fun e w' => e = .returned (.bool (byd n)) ∧ w' = w := by
  unfold byd
  go_enter Try.func52, Try.ntmps52
  go_wp2
  all_goals (go_ret; refine ⟨?_, rfl⟩; simp_all)

set_option maxHeartbeats 1000000 in
theorem set_any {tb b g n : Nat} {f : Ku → Int} (x : Ku) (v : Int) (w : World) (h : Tl w tb b g n f) (hn : n < maxLen) (hv : -2147483647 ≤ v ∧ v ≤ 2147483647) :
    Calls Try.prog 54 #[.pointer (some ⟨tb, 0, none⟩), uv x, .int .i64 v] w fun e w' => e = .returned (.tuple #[]) ∧ Tl w' tb b g (n + 1) (upd f x v) ∧ Kp (fun k => k = b) w w' := by
  have c1 := h.c1
  have hne := h.ne
  have hlt := h.lt
  have hblk := h.blk
  have hbd := h.bd
  obtain ⟨D, hown, h1, h2⟩ := h.ta
  clear h
  have hbd' : ∀ s, -2147483647 ≤ upd f x v s ∧ upd f x v s ≤ 2147483647 := fun s => by unfold upd; split; exact hv; exact hbd s
  by_cases h0 : v = 0
  · subst h0
    have ht := del_tied h1 h2 x
    clear h1 h2
    go_enter Try.func54, Try.ntmps54
    go_wp2_with (at_delete; refine wpList_delete_own _ rfl _ _ 93 30 rfl 2 ZU.law Try.underlying93 _ b n D rfl hown _ _ rfl (ZU.key x) ?_; intro w1 hown1 hturn1)
    refine bodyPost_ret (results_none rfl _ _ _) rfl ?_
    have hg := hturn1.grown
    exact ⟨rfl, ⟨(hg.block tb hlt (by simp [hne])).trans hblk, ⟨_, hown1.mono (Nat.le_succ _), ht.1, ht.2⟩, hbd'⟩, Kp.grownBy hg (fun k hk => by simpa using hk.symm)⟩
  · have ht := put_tied (hown.isMap) h1 h2 x v h0
    clear h1 h2
    have hwf : (Lit.int .i64 v).wf = true := WalkArith.wf_i64 (by omega)
    go_enter Try.func54, Try.ntmps54
    go_wp2_with (at_mapUpdate; refine wpList_mapUpdate_own _ rfl _ _ _ 93 rfl 30 2 ZU.law Try.underlying93 _ b n D rfl hown hn _ _ _ rfl rfl (ZU.key x) _ [] (plainElem_int Try.underlying2 hwf) ?_; intro w1 hown1 hg)
    go_end0
    exact ⟨rfl, ⟨(hg.block tb hlt (by simp [hne])).trans hblk, ⟨_, hown1, ht.1, ht.2⟩, hbd'⟩, Kp.grownBy hg (fun k hk => by simpa using hk.symm)⟩

/-- What Add answers, and what it leaves. -/
def addc (f : Ku → Int) (x : Ku) (v : Int) : Int := if byd v = true ∨ byd (f x + v) = true then 12 else 0
def addf (f : Ku → Int) (x : Ku) (v : Int) : Ku → Int := if byd v = true ∨ byd (f x + v) = true then f else upd f x (f x + v)
set_option maxHeartbeats 1000000 in
theorem add_any {tb b g n : Nat} {f : Ku → Int} (x : Ku) (v : Int) (w : World) (h : Tl w tb b g n f) (hn : n < maxLen) :
    Calls Try.prog 33 #[.pointer (some ⟨tb, 0, none⟩), uv x, .int .i64 v] w fun e w' => e = .returned (.int .i64 (addc f x v)) ∧ Tl w' tb b g (n + 1) (addf f x v) ∧ Kp (fun k => k = b) w w' := by
  have hb := h.bd x
  have HT : Hid (Tl w tb b g n f) := h
  have hco := count_any x w h
  have h1 := fun W => beyond_any v W
  have h2 := fun W => beyond_any (f x + v) W
  unfold addc addf
  clear h
  cases hv : byd v with
  | true =>
    rw [hv] at h1
    clear hv
    rw [if_pos (Or.inl rfl), if_pos (Or.inl rfl)]
    go_enter Try.func33, Try.ntmps33
    go_wp2_with fail
    refine (h1 _).mono ?_
    rintro e w1 ⟨rfl, rfl⟩
    go_wp2
    go_ret
    exact ⟨rfl, ⟨HT.out.blk, HT.out.ta.mono (Nat.le_succ _), HT.out.bd⟩, Kp.refl _ _⟩
  | false =>
    have hv' := byd_f.1 hv
    rw [hv] at h1
    clear hv
    cases hv2 : byd (f x + v) with
    | true =>
      rw [hv2] at h2
      clear hv2
      rw [if_pos (Or.inr rfl), if_pos (Or.inr rfl)]
      generalize f x = c at *
      go_enter Try.func33, Try.ntmps33
      go_wp2_with fail
      refine (h1 _).mono ?_
      rintro e w1 ⟨rfl, rfl⟩
      go_wp2_with fail
      refine hco.mono ?_
      rintro e w1 ⟨rfl, rfl⟩
      go_wp2_with fail
      refine (h2 _).mono ?_
      rintro e w1 ⟨rfl, rfl⟩
      go_wp2
      go_ret
      exact ⟨rfl, ⟨HT.out.blk, HT.out.ta.mono (Nat.le_succ _), HT.out.bd⟩, Kp.refl _ _⟩
    | false =>
      have hv3 := byd_f.1 hv2
      rw [hv2] at h2
      clear hv2
      rw [if_neg (by simp), if_neg (by simp)]
      have hset := set_any x (f x + v) w HT.out hn hv3
      generalize f x = c at *
      go_enter Try.func33, Try.ntmps33
      go_wp2_with fail
      refine (h1 _).mono ?_
      rintro e w1 ⟨rfl, rfl⟩
      go_wp2_with fail
      refine hco.mono ?_
      rintro e w1 ⟨rfl, rfl⟩
      go_wp2_with fail
      refine (h2 _).mono ?_
      rintro e w1 ⟨rfl, rfl⟩
      go_wp2_with fail
      refine hset.mono ?_
      rintro e w1 ⟨rfl, ht, hk⟩
      go_wp2
      go_ret
      exact ⟨rfl, ht, hk⟩
theorem keys_nil (w : World) : Calls Try.prog 29 #[.pointer none] w fun e w' => e = .returned (.slice none 0 0) ∧ w' = w := by
  go_enter Try.func29, Try.ntmps29
  go_wp2
  go_ret
  exact ⟨rfl, rfl⟩

set_option maxHeartbeats 1000000 in
theorem copy_any {tb b g n : Nat} {f : Ku → Int} (w : World) (h : Tl w tb b g n f) :
    Calls Try.prog 30 #[.pointer (some ⟨tb, 0, none⟩)] w fun e w' => e = .returned (.pointer (some ⟨w.heap.size + 1, 0, none⟩)) ∧ Tl w' (w.heap.size + 1) w.heap.size g n f ∧ Gr w w' := by
  have hmx : Try.prog.follows .mixedOrders = true := by kernel_rfl
  have HC : Hid (Tl w tb b g n f) := h
  obtain ⟨D, hown, h1, h2⟩ := h.ta
  obtain ⟨es, clock, hb, F, hs, hD⟩ := hown
  have hbl := (Array.getElem?_eq_some_iff.1 hb).1
  have S0 : w.cell? ⟨tb, 0, none⟩ = some (fv g) ∧ w.cell? ⟨tb, 1, none⟩ = some (.map (some b)) ∧ tb < w.heap.size := ⟨h.c0, h.c1, h.lt⟩
  have keepB : ∀ W W' : World, (W.cell? ⟨tb, 0, none⟩ = some (fv g) ∧ W.cell? ⟨tb, 1, none⟩ = some (.map (some b)) ∧ tb < W.heap.size) → Below W.heap.size W W' → (W'.cell? ⟨tb, 0, none⟩ = some (fv g) ∧ W'.cell? ⟨tb, 1, none⟩ = some (.map (some b)) ∧ tb < W'.heap.size) := fun W W' h hb =>
    ⟨(hb.cell (p := ⟨tb, 0, none⟩) h.2.2).trans h.1, (hb.cell (p := ⟨tb, 1, none⟩) h.2.2).trans h.2.1, Nat.lt_of_lt_of_le h.2.2 hb.size⟩
  have hcl := AnyW.maps_Clone Try.lClone b es clock w.drew hb
  have hdr : ∀ o : Obj, Below w.drew.heap.size w.drew (w.drew.alloc o) := fun o => ((Gr.refl w.drew).alloc o).below
  clear h
  go_enter Try.func30, Try.ntmps30
  go_wp2_with fail
  go_region_held3 (fun w' => w'.cell? ⟨tb, 0, none⟩ = some (fv g) ∧ w'.cell? ⟨tb, 1, none⟩ = some (.map (some b)) ∧ tb < w'.heap.size)
    (first | exact S0 | exact keepB _ _ (by assumption) (Gr.refl _).drew.below | exact keepB _ _ (by assumption) (by assumption) | exact keepB _ _ (by assumption) ((Gr.refl _).alloc _).below)
    (first | (go_at_call 49; refine hcl.mono ?_; rintro e w5 ⟨rfl, rfl⟩))
  go_wp2
  go_ret
  refine ⟨rfl, ⟨heap_alloc2_new _ _ _, ⟨D, ⟨es, clock, heap_alloc2_old _ _ _, F, hs, hD⟩, h1, h2⟩, HC.out.bd⟩, (((Gr.refl _).alloc _).alloc _).drew⟩
end Go.Proofs.Ytijbmchgajhkeaa.Tt
