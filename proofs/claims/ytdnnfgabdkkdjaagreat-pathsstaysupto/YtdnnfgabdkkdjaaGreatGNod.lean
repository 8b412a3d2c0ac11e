import Derived.Test.YtdnnfgabdkkdjaaGreatGConns
import Derived.Laws.EntriesVeiled
namespace Go.Proofs.YtdnnfgabdkkdjaaGreat.Df
open Go.RowKit Go.Sort
attribute [local go_sem ↓] Go.wp_at_zero Go.wp_at_succ
abbrev fv1 (f b : Nat) : Value := .func (.func f) #[] #[.pointer (some ⟨b, 0, none⟩)]
abbrev fv0 (f : Nat) : Value := .func (.func f) #[] #[]
structure Ks (F1 F2 fw ff fc : Nat) (i o : Int) (pI pO : Bool) (w : World) (r : Ending) (w' : World) : Prop where
 ex : ∃ b1 b2 : Nat, r = .returned (.tuple #[.agg #[fv1 F1 b1, fv1 F2 b2, fv0 fw, fv0 ff, fv0 fc], .bool true]) ∧ Below w.heap.size w w' ∧ (∀ W, Below w'.heap.size w' W → Calls Tryz.prog F1 #[.int .i64 i, .pointer (some ⟨b1, 0, none⟩)] W fun r w2 => r = .returned (.bool pI) ∧ w2 = W) ∧ (∀ W, Below w'.heap.size w' W → Calls Tryz.prog F2 #[.int .i64 o, .pointer (some ⟨b2, 0, none⟩)] W fun r w2 => r = .returned (.bool pO) ∧ w2 = W)
def Nz (pI pO h : Bool) (PF : Int → Prop) (z : Int) : Prop := (¬ (pI = true ∧ pO = true) ∧ z = 21) ∨ (pI = true ∧ pO = true ∧ h = true ∧ z = 22) ∨ (pI = true ∧ pO = true ∧ h = false ∧ PF z)
set_option maxHeartbeats 4000000 in
theorem nodegen {k i o : Int} {cq : Option Addr} {cm cc : Nat} {via : Pth} {bd : Nat} {dq : Option Addr} {dm dc : Nat} {st : Bool} {a : Int} {w : World} {F1 F2 fw ff fc : Nat} {pI pO : Bool} {cq' : Option Addr} {cm' cc' : Nat} {via' : Pth} {bd' : Nat} {dq' : Option Addr} {dm' dc' : Nat} {st' : Bool} {PF : Int → Prop}
    (e1 : ∀ args w, (callFunc F1 args).run Tryz.prog w = .ok (.enter F1 args) w) (e2 : ∀ args w, (callFunc F2 args).run Tryz.prog w = .ok (.enter F2 args) w) (e3 : ∀ args w, (callFunc fw args).run Tryz.prog w = .ok (.enter fw args) w) (e4 : ∀ args w, (callFunc ff args).run Tryz.prog w = .ok (.enter ff args) w)
    (hK : ∀ W, Calls Tryz.prog 111 #[.int .i64 k] W (Ks F1 F2 fw ff fc i o pI pO W))
    (hW : ∀ W, Calls Tryz.prog fw #[.agg (ncells k i o (.slice cq cm cc) via bd (.slice dq dm dc) st)] W fun r w' => r = .returned (.agg (ncells k i o (.slice cq' cm' cc') via' bd' (.slice dq' dm' dc') st')) ∧ Below W.heap.size W w')
    (hF : ∀ W, Below w.heap.size w W → Calls Tryz.prog ff #[.agg (ncells k i o (.slice cq cm cc) via bd (.slice dq dm dc) st), .int .i64 a] W fun r w' => ∃ z : Int, r = .returned (.int .i64 z) ∧ PF z ∧ Below W.heap.size W w') :
    Calls Tryz.prog 77 #[.agg (ncells k i o (.slice cq cm cc) via bd (.slice dq dm dc) st), .int .i64 a] w fun r w' => ∃ z : Int, r = .returned (.int .i64 z) ∧ Nz pI pO (has cm' via' bd' dm' st') PF z ∧ Below w.heap.size w w' := by
 have B0 := hid ((Gr.refl w).alloc (.cells (ncells k i o (.slice cq cm cc) via bd (.slice dq dm dc) st) 89)).below
 have N0 := hid (heap_new' w (.cells (ncells k i o (.slice cq cm cc) via bd (.slice dq dm dc) st) 89))
 obtain ⟨W0, hW0⟩ : ∃ W, W = w.alloc (.cells (ncells k i o (.slice cq cm cc) via bd (.slice dq dm dc) st) 89) := ⟨_, rfl⟩
 have HW : Hid (w.alloc (.cells #[.int .i64 k, .int .i64 i, .int .i64 o, .slice cq cm cc, .int .u64 (via.1 : Nat), .int .u64 (via.2.1 : Nat), .int .u64 (via.2.2 : Nat), .int .u64 (bd : Nat), .slice dq dm dc, .bool st] 89) = W0) := hW0.symm
 rw [← hW0] at B0 N0
 clear hW0
 have c0 := (tk_store N0.out).1
 have l0 := tk_lt N0.out
 go_enter Tryz.func77, Tryz.ntmps77
 go_upto_region 1 with fail
 rw [HW.out]
 clear HW
 go_wp2_with fail
 refine (hK _).mono ?_
 rintro r w1 ⟨b1, b2, rfl, b, h1, h2⟩
 have B1 := hid (B0.out.trans (b.mono B0.out.size))
 have N1 := hid ((b.block _ l0).trans N0.out)
 have H1 := hid h1
 have H2 := hid h2
 obtain ⟨kb, hkb⟩ : ∃ kb, kb = w1.heap.size := ⟨_, rfl⟩
 obtain ⟨W2, hW2⟩ : ∃ W, W = w1.alloc (.cells #[fv1 F1 b1, fv1 F2 b2, fv0 fw, fv0 ff, fv0 fc] 175) := ⟨_, rfl⟩
 have P2 : Hid (Below w1.heap.size w1 W2 ∧ Below w.heap.size w W2 ∧ W2.heap[w.heap.size]? = some (.cells (ncells k i o (.slice cq cm cc) via bd (.slice dq dm dc) st) 89 (0, 0)) ∧ W2.heap[kb]? = some (.cells #[fv1 F1 b1, fv1 F2 b2, fv0 fw, fv0 ff, fv0 fc] 175 (0, 0))) := by
  have g := ((Gr.refl w1).alloc (.cells #[fv1 F1 b1, fv1 F2 b2, fv0 fw, fv0 ff, fv0 fc] 175)).below
  rw [hW2, hkb]
  exact ⟨g, B1.out.trans (g.mono B1.out.size), (g.block _ (tk_lt N1.out)).trans N1.out, heap_new' _ _⟩
 have HW2 : Hid (w1.alloc (.cells #[.func (.func F1) #[] #[.pointer (some ⟨b1, 0, none⟩)], .func (.func F2) #[] #[.pointer (some ⟨b2, 0, none⟩)], .func (.func fw) #[] #[], .func (.func ff) #[] #[], .func (.func fc) #[] #[]] 175) = W2 ∧ w1.heap.size = kb) := ⟨hW2.symm, hkb.symm⟩
 clear c0 l0 b hK h1 h2 hW2 hkb
 go_upto_region 2 with fail
 rw [HW2.out.1, HW2.out.2]
 have c2 := (tk_store P2.out.2.2.1).1
 have l2 := tk_lt P2.out.2.2.1
 have k2 := (tk_store P2.out.2.2.2).1
 have m2 := tk_lt P2.out.2.2.2
 have q1 := H1.out W2 P2.out.1
 have q2 := H2.out W2 P2.out.1
 clear HW2
 cases pI with
 | false =>
  go_wp2_with fail
  refine q1.mono ?_
  rintro r w3 ⟨rfl, rfl⟩
  go_wp2_with fail
  go_ret
  exact ⟨21, rfl, Or.inl ⟨by simp, rfl⟩, P2.out.2.1⟩
 | true =>
  cases pO with
  | false =>
   go_wp2_with fail
   refine q1.mono ?_
   rintro r w3 ⟨rfl, rfl⟩
   go_wp2_with fail
   refine q2.mono ?_
   rintro r w3 ⟨rfl, rfl⟩
   go_wp2_with fail
   go_ret
   exact ⟨21, rfl, Or.inl ⟨by simp, rfl⟩, P2.out.2.1⟩
  | true =>
   have hh := fun W => hasfields_any k i o cq' cm' cc' via' bd' dq' dm' dc' st' W
   cases eh : has cm' via' bd' dm' st' with
   | true =>
    rw [eh] at hh
    have HE := hid eh
    clear eh
    go_wp2_with fail
    refine q1.mono ?_
    rintro r w3 ⟨rfl, rfl⟩
    go_wp2_with fail
    refine q2.mono ?_
    rintro r w3 ⟨rfl, rfl⟩
    go_wp2_with fail
    refine (hW _).mono ?_
    rintro r w3 ⟨rfl, b3⟩
    go_wp2_with fail
    refine (hh _).mono ?_
    rintro r w4 ⟨rfl, b4⟩
    have B4 := hid (P2.out.2.1.trans ((b3.trans (b4.mono b3.size)).mono P2.out.2.1.size))
    clear b3 b4
    go_wp2_with fail
    go_ret
    exact ⟨22, rfl, Or.inr (Or.inl ⟨rfl, rfl, HE.out, rfl⟩), B4.out⟩
   | false =>
    rw [eh] at hh
    have HE := hid eh
    clear eh
    go_wp2_with fail
    refine q1.mono ?_
    rintro r w3 ⟨rfl, rfl⟩
    go_wp2_with fail
    refine q2.mono ?_
    rintro r w3 ⟨rfl, rfl⟩
    go_wp2_with fail
    refine (hW _).mono ?_
    rintro r w3 ⟨rfl, b3⟩
    go_wp2_with fail
    refine (hh _).mono ?_
    rintro r w4 ⟨rfl, b4⟩
    have b5 := b3.trans (b4.mono b3.size)
    have B4 := hid (P2.out.2.1.trans (b5.mono P2.out.2.1.size))
    have c4 := (tk_store ((b5.block _ l2).trans P2.out.2.2.1)).1
    have l4 := tk_lt ((b5.block _ l2).trans P2.out.2.2.1)
    have k4 := (tk_store ((b5.block _ m2).trans P2.out.2.2.2)).1
    have m4 := tk_lt ((b5.block _ m2).trans P2.out.2.2.2)
    have q4 := hF w4 B4.out
    clear b3 b4 b5 q1 q2 hF hh c2 l2 k2 m2
    go_wp2_with fail
    refine q4.mono ?_
    rintro r w6 ⟨z, rfl, hz, b6⟩
    have B6 := hid (B4.out.trans (b6.mono B4.out.size))
    clear b6 q4
    go_wp2_with fail
    go_ret
    exact ⟨z, rfl, Or.inr (Or.inr ⟨rfl, rfl, HE.out, hz⟩), B6.out⟩
end Go.Proofs.YtdnnfgabdkkdjaaGreat.Df
