/- PrepPlays' walk: the book and the document's beside one another. Conditions: none but the arguments' own sizes. -/
import Derived.Test.YtkifmhdceobfhaaDoorPpzb
import Derived.Test.YtkifmhdceobfhaaDoorPpq
import Derived.Deep.CutBlock
namespace Go.Proofs.YtkifmhdceobfhaaDoor.PP
open Go.ChangeShapes Go.WideShapes Go.ChangeAt Go.RowKit Go.Maps Go.ChangeMaps
open Go.Proofs.YtkifmhdceobfhaaDoor.SL Go.Proofs.YtkifmhdceobfhaaDoor.RW
set_option maxRecDepth 100000
set_option linter.unusedVariables false
set_option linter.unusedSimpArgs false

section
variable {B : Nat} {w w' : World} {r a N : Nat} {S : St}
theorem rb_find (h : RBk B w r N S) (hN : N ≤ 1000) (c : Int) (n : Tx) : Calls Tryd.prog 21 #[ptr r, nV c, .string n] w fun e w' => e = .returned (.tuple #[.string ((fnd S.L c n).getD ByteArray.empty), .bool (fnd S.L c n).isSome]) ∧ w = w' := by
  obtain ⟨_, _, _, h⟩ := h; exact rfind_any h (by omega) c n
theorem rb_def (h : RBk B w r N S) (hN : N ≤ 1000) (c : Int) (n s : Tx) : Calls Tryd.prog 10 #[ptr r, nV c, .string n, .string s] w (RetR B r (N + 1) (defS c n s S) (nV (defA c n s S)) w) := by
  obtain ⟨_, _, _, h⟩ := h; exact rdef_any h (by omega) c n s
theorem rb_close (h : RBk B w r N S) (hN : N ≤ 1000) (c : Int) (n : Tx) : Calls Tryd.prog 12 #[ptr r, nV c, .string n] w (RetR B r N (clsS c n S) (.bool (fnd S.L c n).isSome) w) := by
  obtain ⟨_, _, _, h⟩ := h; exact rclose_any h (by omega) c n
theorem rb_leave (h : RBk B w r N S) (hN : N ≤ 1000) (c : Int) : Calls Tryd.prog 14 #[ptr r, nV c] w (RetR B r N (leaS c S) (nV ((ofE c S.L).length : Int)) w) := by
  obtain ⟨_, _, _, h⟩ := h; exact rleave_any h (by omega) c
theorem rb_forget (h : RBk B w r N S) (hN : N ≤ 1000) (c : Int) : Calls Tryd.prog 18 #[ptr r, nV c] w (RetR B r N (forS c S) (nV ((nms S.D c).length : Int)) w) := by
  obtain ⟨_, _, _, h⟩ := h; exact rforget_any h (by omega) c
theorem rb_need (h : RBk B w r N S) (hN : N ≤ 1000) (c : Int) (t : Tx) : Calls Tryd.prog 16 #[ptr r, nV c, .string t] w (RetR B r (N + 2) (neeS c t S) (.tuple #[.string (nm (numA t S)), .bool (!hasA c t S)]) w) := by
  obtain ⟨_, _, _, h⟩ := h; exact rneed_any h (by omega) c t
theorem rb_has (h : RBk B w r N S) (hN : N ≤ 1000) (c : Int) : Calls Tryd.prog 24 #[ptr r, nV c] w fun e w' => ∃ v, e = .returned v ∧ OT w.heap.size w' v ((nms S.D c).map nm) ∧ Below w.heap.size w w' := by
  obtain ⟨_, _, _, h⟩ := h; exact rhas_any h (by omega) c
/-- a book, and another one apart from it -/
def Two (B : Nat) (w : World) (a N : Nat) (S : St) (a2 N2 : Nat) (S2 : St) : Prop := ∃ C C2, CB B w a N C S ∧ CB B w a2 N2 C2 S2 ∧ ∀ b, C2.own b → ¬ C.own b
theorem Two.second {a2 N2 : Nat} {S2 : St} (h : Two B w a N S a2 N2 S2) : LB B w a2 N2 S2 := by obtain ⟨_, C2, _, h2, _⟩ := h; exact ⟨C2, h2⟩
theorem two_step {a2 N2 N' : Nat} {S2 S' : St} {fid : FuncId} {vs : Array Value} {v : Value} (h : Two B w a N S a2 N2 S2) (hs : ∀ C, CB B w a N C S → Calls Tryd.prog fid vs w fun e w' => e = .returned v ∧ StC B a N' C S' w w') :
    Calls Tryd.prog fid vs w fun e w' => e = .returned v ∧ Two B w' a N' S' a2 N2 S2 ∧ Fr B w w' := by
  obtain ⟨C, C2, h1, h2, hd⟩ := h
  refine (hs C h1).mono ?_
  rintro e w' ⟨rfl, hst⟩
  have h3 := hst.apart h2 hd
  have hf := hst.fr h1
  obtain ⟨C', k1, k2, k3, k4⟩ := hst
  refine ⟨rfl, ⟨C', C2, k1, h3, fun b hb hb' => ?_⟩, hf, k3⟩
  rcases k4 b hb' with e | e
  · exact hd b hb e
  · have := h2.lt hb; omega
theorem two_copy (h : LB B w a N S) (hN : N ≤ 1000) : Calls Tryd.prog 19 #[ptr a] w fun e w' => ∃ a2, e = .returned (ptr a2) ∧ Two B w' a N S a2 N S ∧ Fr B w w' := by
  obtain ⟨C, h⟩ := h
  refine (copy_any h (by omega)).mono ?_
  rintro e w' ⟨a2, C2, rfl, h2, hb⟩
  exact ⟨a2, rfl, ⟨C, C2, h.below hb, h2.lower h.le, fun b hb2 hb1 => by have := h2.ge.2 b hb2; have := h.lt hb1; omega⟩, Fr.below hb h.le⟩
theorem two_def {a2 N2 : Nat} {S2 : St} (h : Two B w a N S a2 N2 S2) (hN : N ≤ 1000) (c : Int) (hI : I9 c) (n s : Tx) (hn : n.size ≤ 281474976710656) (hs : s.size ≤ 281474976710656) : Calls Tryd.prog 9 #[ptr a, nV c, .string n, .string s] w fun e w' => e = .returned (nV (defA c n s S)) ∧ Two B w' a (N + 1) (defS c n s S) a2 N2 S2 ∧ Fr B w w' :=
  two_step h fun C hc => define_any hc (by omega) c hI n s hn hs
theorem two_need {a2 N2 : Nat} {S2 : St} (h : Two B w a N S a2 N2 S2) (hN : N ≤ 1000) (c : Int) (hI : I9 c) (t : Tx) (ht : t.size ≤ 281474976710656) (hk : S.T.length ≤ 98) : Calls Tryd.prog 15 #[ptr a, nV c, .string t] w fun e w' => e = .returned (.tuple #[.string (nm (numA t S)), .bool (!hasA c t S)]) ∧ Two B w' a (N + 2) (neeS c t S) a2 N2 S2 ∧ Fr B w w' :=
  two_step h fun C hc => need_any hc (by omega) c hI t ht hk
theorem two_forget {a2 N2 : Nat} {S2 : St} (h : Two B w a N S a2 N2 S2) (c : Int) (hI : I9 c) : Calls Tryd.prog 17 #[ptr a, nV c] w fun e w' => e = .returned (nV ((nms S.D c).length : Int)) ∧ Two B w' a N (forS c S) a2 N2 S2 ∧ Fr B w w' :=
  two_step h fun C hc => forget_any hc c hI
theorem two_leave {a2 N2 : Nat} {S2 : St} (h : Two B w a N S a2 N2 S2) (c : Int) (hI : I9 c) : Calls Tryd.prog 13 #[ptr a, nV c] w fun e w' => e = .returned (nV ((ofE c S.L).length : Int)) ∧ Two B w' a N (leaS c S) a2 N2 S2 ∧ Fr B w w' :=
  two_step h fun C hc => leave_any hc c hI
theorem op_not : ¬ Rt 32 := by unfold Rt; decide
end
set_option maxHeartbeats 64000000 in
theorem plays_any (v : Value) (l : List Opq) (w : World) (hv : OpR w v l) :
    Calls Tryd.prog 3 #[v] w fun e w' => e = .returned (.bool true) ∧ Below w.heap.size w w' := by
  have HV := Lib.hid hv
  obtain ⟨va, vc, rfl⟩ := hv.form
  clear hv
  go_enter Tryd.func3, Tryd.ntmps3
  go_wp2_with fail
  refine (lb_new w).mono ?_
  rintro e w1 ⟨a, rfl, hl, hb⟩
  obtain ⟨W1, hW1⟩ : ∃ W, w1.alloc (.cells #[.slice none 0 0, .slice none 0 0, .slice none 0 0] 30) = W := ⟨_, rfl⟩
  obtain ⟨r, hr⟩ : ∃ b, w1.heap.size = b := ⟨_, rfl⟩
  have hb1 : Below w1.heap.size w1 W1 := by rw [← hW1]; exact (Below.refl _ _).alloc (Nat.le_refl _) _
  have k1 : Bk W1 r 30 #[.slice none 0 0, .slice none 0 0, .slice none 0 0] := by rw [← hW1, ← hr]; exact Bk.new _ _ _
  have HL := Lib.hid (hl.below hb1)
  have HR : Hid (RBk w.heap.size W1 r 0 S0) := Lib.hid ⟨_, _, _, k1, OM.nil _ _, SL.OT.nil _ _, OC.nil _ _, by have := hb.size; omega, Inv.zero, Nat.le_refl _, Nat.le_refl _, Nat.le_refl _⟩
  have HB := Lib.hid (hb.trans (hb1.mono hb.size))
  clear hl hb hb1 k1
  go_wp2_with fail
  try rw [hr]
  try rw [hW1]
  try clear hr hW1
  go_loopg [3, 5] (min l.length 60) (fun gk u3 u5 wx => ∃ (i a N : Nat) (S : St), u5 = .int .i64 (i : Int) ∧ u3 = ptr a ∧ i + gk = min l.length 60 ∧ Hid (LB w.heap.size wx a N S) ∧ Hid (RBk w.heap.size wx r N S) ∧ Hid (N ≤ 2 * i ∧ S.T.length ≤ i) ∧ Hid (Below w.heap.size w wx))
  case atStart => exact ⟨0, a, 0, S0, rfl, rfl, by omega, HL, HR, Lib.hid ⟨Nat.le_refl _, Nat.le_refl _⟩, HB⟩
  case round =>
    clear HL HR HB
    obtain ⟨i, a, N, S, rfl, rfl, hi, HL, HR, HNN, HB⟩ := hrel
    cases gk with
    | zero =>
      by_cases hlt : i < l.length
      · have l3 : (i : Int) < (l.length : Int) := by omega
        have l4 : ¬ ((i : Int) < 60) := by omega
        clear hi hlt
        go_wp2_with fail
        refine (known_any _).mono ?_
        rintro e wz ⟨rfl, hb⟩
        have HB := Lib.hid (HB.out.trans (hb.mono HB.out.size))
        clear hb
        go_wp2
        go_ret
        exact ⟨rfl, HB.out⟩
      · have l3 : ¬ ((i : Int) < (l.length : Int)) := by omega
        clear hi hlt
        go_wp2_with fail
        refine (known_any _).mono ?_
        rintro e wz ⟨rfl, hb⟩
        have HB := Lib.hid (HB.out.trans (hb.mono HB.out.size))
        clear hb
        go_wp2
        go_ret
        exact ⟨rfl, HB.out⟩
    | succ gk1 =>
      have hlt : i < l.length := by omega
      have l0 : (0 : Int) ≤ (i : Int) := by omega
      have l1 : (i : Int) < (l.length : Int) := by omega
      have l2 : (i : Int) < 60 := by omega
      obtain ⟨i1, hi1⟩ : ∃ i1, i + 1 = i1 := ⟨_, rfl⟩
      have wk : IntKind.i64.wrap ((i : Int) + 1) = (i1 : Int) := by rw [show (i : Int) + 1 = (i1 : Int) by omega]; exact IntWalk.i64_in _ (by omega)
      have HI1 : Hid (i1 + gk1 = min l.length 60) := Lib.hid (by omega)
      have HI1E : Hid (i + 1 = i1) := Lib.hid hi1
      have HI60 : Hid (i ≤ 59) := Lib.hid (by omega)
      obtain ⟨bb, off, cap, he, hcp, hx⟩ := (HV.out.below HB.out).inv (by omega)
      injection he with e1 _ e3
      subst e1 e3
      obtain ⟨op, hop⟩ : ∃ o, l[i] = o := ⟨_, rfl⟩
      have hyi : l[i]? = some op := by rw [List.getElem?_eq_getElem hlt, hop]
      obtain ⟨hob, hxx⟩ := hx i op hyi
      obtain ⟨kd, id, gr, tx⟩ := op
      have HOB : Hid (I9 id) := Lib.hid hob
      have x0 := hxx 0 _ rfl
      have x1 := hxx 1 _ rfl
      have x2 := hxx 2 _ rfl
      have x3 := hxx 3 _ rfl
      rw [Nat.add_zero] at x0
      obtain ⟨W0, hW0⟩ : ∃ W, wr.alloc (.cells #[nV kd, nV id, .string gr, .string tx] 32) = W := ⟨_, rfl⟩
      obtain ⟨cb, hcb⟩ : ∃ b, wr.heap.size = b := ⟨_, rfl⟩
      have HBN : Hid (Below wr.heap.size wr W0) := Lib.hid (by rw [← hW0]; exact (Below.refl _ _).alloc (Nat.le_refl _) _)
      have HK : Hid (Bk W0 cb 32 #[nV kd, nV id, .string gr, .string tx]) := Lib.hid (by rw [← hW0, ← hcb]; exact Bk.new _ _ _)
      have HL := Lib.hid (HL.out.below HBN.out)
      have HR := Lib.hid (HR.out.below HBN.out)
      have HB := Lib.hid (HB.out.trans (HBN.out.mono HB.out.size))
      clear HBN hi hi1 hlt hcp hx hop hyi hob hxx
      have k0 := HK.out
      have q0 := k0.cell 0
      have qf0 := k0.frozen 0
      have q1 := k0.cell 1
      have qf1 := k0.frozen 1
      have q2 := k0.cell 2
      have qf2 := k0.frozen 2
      have q3 := k0.cell 3
      have qf3 := k0.frozen 3
      simp at q0 q1 q2 q3
      clear k0
      by_cases hg : 100 < gr.size
      · have l5 : (100 : Int) < (gr.size : Int) := by omega
        clear hg
        have HNN1 : Hid (N ≤ 2 * i1 ∧ S.T.length ≤ i1) := Lib.hid ⟨by have h1 := HNN.out.1; have h2 := HI1E.out; omega, by have h1 := HNN.out.2; have h2 := HI1E.out; omega⟩
        go_wp2_with fail
        try rw [hW0]
        try rw [hcb]
        go_roundg gk1
        case measure => exact Nat.lt_succ_self _
        case rel => exact ⟨i1, a, N, S, rfl, rfl, HI1.out, HL, HR, HNN1, HB⟩
      have l5 : ¬ (100 : Int) < (gr.size : Int) := by omega
      have HGR : Hid (gr.size ≤ 281474976710656) := Lib.hid (by omega)
      clear hg
      by_cases hg : 2100 < tx.size
      · have l6 : (2100 : Int) < (tx.size : Int) := by omega
        clear hg
        have HNN1 : Hid (N ≤ 2 * i1 ∧ S.T.length ≤ i1) := Lib.hid ⟨by have h1 := HNN.out.1; have h2 := HI1E.out; omega, by have h1 := HNN.out.2; have h2 := HI1E.out; omega⟩
        go_wp2_with fail
        try rw [hW0]
        try rw [hcb]
        go_roundg gk1
        case measure => exact Nat.lt_succ_self _
        case rel => exact ⟨i1, a, N, S, rfl, rfl, HI1.out, HL, HR, HNN1, HB⟩
      have l6 : ¬ (2100 : Int) < (tx.size : Int) := by omega
      have HTX : Hid (tx.size ≤ 281474976710656) := Lib.hid (by omega)
      have HNB : Hid (N ≤ 200) := Lib.hid (by have h1 := HNN.out.1; have h2 := HI60.out; omega)
      clear hg
      go_upto_block 2 with fail
      try rw [hW0]
      try rw [hcb]
      try clear hW0 hcb
      go_cut [3, 7, 8, 9, 10, 11] from 21 to 189 (fun u3 _ _ _ _ _ wx => ∃ (A N9 : Nat) (S9 : St), u3 = ptr A ∧ Hid (LB w.heap.size wx A N9 S9) ∧ Hid (RBk w.heap.size wx r N9 S9) ∧ Hid (N9 ≤ 2 * i1 ∧ S9.T.length ≤ i1) ∧ Hid (Bk wx cb 32 #[nV kd, nV id, .string gr, .string tx]) ∧ Hid (Below w.heap.size w wx))
      case first =>
        by_cases e0 : kd = 0
        · subst e0
          have HDT : Hid ((defS id gr tx S).T = S.T) := Lib.hid (by unfold defS; split; rfl; split <;> rfl)
          go_upto_region 20 with fail
          refine wp_region_held_drew (S := fun W => Bk W cb 32 #[nV 0, nV id, .string gr, .string tx]) (by kernel_rfl) ?_ (fun hS => ?_)
          · exact HK.out.drew
          have hb0 : Below W0.heap.size W0 W0.drew := (Below.refl _ _).drew
          obtain ⟨WD, hWD⟩ : ∃ W, W0.drew = W := ⟨_, rfl⟩
          rw [hWD] at hb0 hS ⊢
          clear hWD
          have HL := Lib.hid (HL.out.below hb0)
          have HR := Lib.hid (HR.out.below hb0)
          have HB := Lib.hid (HB.out.trans (hb0.mono HB.out.size))
          have HC := Lib.hid (lb_def HL.out (by have := HNB.out; omega) id HOB.out gr tx HGR.out HTX.out)
          clear hb0
          refine tkY 0 ?_ rfl hS ?_ ?_
          rotate_left
          · intro wz hz
            have k0 := hz
            have q0 := k0.cell 0
            have q1 := k0.cell 1
            have q2 := k0.cell 2
            have q3 := k0.cell 3
            simp at q0 q1 q2 q3
            clear k0
            go_simp
            all_goals first | with_reducible rfl | omega
          try simp only [Act.put, pu]
          refine tkY 1 ?_ rfl hS ?_ ?_
          rotate_left
          · intro wz hz
            have k0 := hz
            have q0 := k0.cell 0
            have q1 := k0.cell 1
            have q2 := k0.cell 2
            have q3 := k0.cell 3
            simp at q0 q1 q2 q3
            clear k0
            go_simp
            all_goals first | with_reducible rfl | omega
          try simp only [Act.put, pu]
          refine tkY 2 ?_ rfl hS ?_ ?_
          rotate_left
          · intro wz hz
            have k0 := hz
            have q0 := k0.cell 0
            have q1 := k0.cell 1
            have q2 := k0.cell 2
            have q3 := k0.cell 3
            simp at q0 q1 q2 q3
            clear k0
            go_simp
            all_goals first | with_reducible rfl | omega
          try simp only [Act.put, pu]
          refine tkY 3 ?_ rfl hS ?_ ?_
          rotate_left
          · intro wz hz
            have k0 := hz
            have q0 := k0.cell 0
            have q1 := k0.cell 1
            have q2 := k0.cell 2
            have q3 := k0.cell 3
            simp at q0 q1 q2 q3
            clear k0
            go_simp
            all_goals first | with_reducible rfl | omega
          try simp only [Act.put, pu]
          refine tkY 4 ?_ rfl hS ?_ ?_
          rotate_left
          · intro wz hz
            have k0 := hz
            have q0 := k0.cell 0
            have q1 := k0.cell 1
            have q2 := k0.cell 2
            have q3 := k0.cell 3
            simp at q0 q1 q2 q3
            clear k0
            go_simp
            all_goals first | with_reducible rfl | omega
          try simp only [Act.put, pu]
          refine tkY 5 ?_ rfl hS ?_ ?_
          rotate_left
          · intro wz hz
            have k0 := hz
            have q0 := k0.cell 0
            have q1 := k0.cell 1
            have q2 := k0.cell 2
            have q3 := k0.cell 3
            simp at q0 q1 q2 q3
            clear k0
            go_simp
            all_goals first | with_reducible rfl | omega
          try simp only [Act.put, pu]
          refine tkY 6 ?_ rfl hS ?_ ?_
          rotate_left
          · intro wz hz
            have k0 := hz
            have q0 := k0.cell 0
            have q1 := k0.cell 1
            have q2 := k0.cell 2
            have q3 := k0.cell 3
            simp at q0 q1 q2 q3
            clear k0
            go_simp
            all_goals first | with_reducible rfl | omega
          try simp only [Act.put, pu]
          refine tkY 8 ?_ rfl hS ?_ ?_
          rotate_left
          · intro wz hz
            have k0 := hz
            have q0 := k0.cell 0
            have q1 := k0.cell 1
            have q2 := k0.cell 2
            have q3 := k0.cell 3
            simp at q0 q1 q2 q3
            clear k0
            go_simp
            all_goals first | with_reducible rfl | omega
          try simp only [Act.put, pu]
          refine tkY 9 ?_ rfl hS ?_ ?_
          rotate_left
          · intro wz hz
            have k0 := hz
            have q0 := k0.cell 0
            have q1 := k0.cell 1
            have q2 := k0.cell 2
            have q3 := k0.cell 3
            simp at q0 q1 q2 q3
            clear k0
            go_simp
            all_goals first | with_reducible rfl | omega
          try simp only [Act.put, pu]
          refine tkY 10 ?_ rfl hS ?_ ?_
          rotate_left
          · intro wz hz
            have k0 := hz
            have q0 := k0.cell 0
            have q1 := k0.cell 1
            have q2 := k0.cell 2
            have q3 := k0.cell 3
            simp at q0 q1 q2 q3
            clear k0
            go_simp
            all_goals first | with_reducible rfl | omega
          try simp only [Act.put, pu]
          refine tkY 11 ?_ rfl hS ?_ ?_
          rotate_left
          · intro wz hz
            have k0 := hz
            have q0 := k0.cell 0
            have q1 := k0.cell 1
            have q2 := k0.cell 2
            have q3 := k0.cell 3
            simp at q0 q1 q2 q3
            clear k0
            go_simp
            all_goals first | with_reducible rfl | omega
          try simp only [Act.put, pu]
          refine tkY 12 ?_ rfl hS ?_ ?_
          rotate_left
          · intro wz hz
            have k0 := hz
            have q0 := k0.cell 0
            have q1 := k0.cell 1
            have q2 := k0.cell 2
            have q3 := k0.cell 3
            simp at q0 q1 q2 q3
            clear k0
            go_simp
            all_goals first | with_reducible rfl | omega
          try simp only [Act.put, pu]
          refine tkY 13 ?_ rfl hS ?_ ?_
          rotate_left
          · intro wz hz
            have k0 := hz
            have q0 := k0.cell 0
            have q1 := k0.cell 1
            have q2 := k0.cell 2
            have q3 := k0.cell 3
            simp at q0 q1 q2 q3
            clear k0
            go_simp
            all_goals first | with_reducible rfl | omega
          try simp only [Act.put, pu]
          refine tkY 14 ?_ rfl hS ?_ ?_
          rotate_left
          · intro wz hz
            have k0 := hz
            have q0 := k0.cell 0
            have q1 := k0.cell 1
            have q2 := k0.cell 2
            have q3 := k0.cell 3
            simp at q0 q1 q2 q3
            clear k0
            go_simp
            all_goals first | with_reducible rfl | omega
          try simp only [Act.put, pu]
          refine wpAnyH_ready (rs := [7]) (by kernel_rfl) (by simp) (AllReadyH.cons rfl (fun K' hK' => ?_) AllReadyH.nil)
          go_simp
          refine HC.out.mono ?_
          rintro e w5 ⟨rfl, hl, hf⟩
          have HL := Lib.hid hl
          have HR := Lib.hid (HR.out.kc hf.2)
          have HB := Lib.hid (HB.out.trans hf.1)
          have HC := Lib.hid (rb_def HR.out (by have := HNB.out; omega) id gr tx)
          have hk5 := hf.2.bk hS
          refine hK'.out _ _ hk5 (fun hSn => ?_)
          clear hK' K' hS hl hf hk5
          have hS := hSn
          clear hSn
          try simp only [Act.put, pu]
          refine wpAnyH_ready (rs := [15]) (by kernel_rfl) (by simp) (AllReadyH.cons rfl (fun K' hK' => ?_) AllReadyH.nil)
          go_simp
          refine HC.out.mono ?_
          rintro e w6 ⟨rfl, hr, hf⟩
          have HR := Lib.hid hr
          have HL := Lib.hid (HL.out.kr hf.2)
          have HB := Lib.hid (HB.out.trans hf.1)
          have hk6 := hf.2.bk hS op_not
          have HK := Lib.hid hk6
          refine hK'.out _ _ hk6 (fun hSn => ?_)
          clear hK' K' hS hr hf hk6 HC
          have hS := hSn
          clear hSn
          try simp only [Act.put, pu]
          refine tkY 16 ?_ rfl hS ?_ ?_
          rotate_left
          · intro wz hz
            go_simp
            all_goals first | with_reducible rfl | omega
          try simp only [Act.put, pu]
          refine wpAnyH_done (by kernel_rfl) ?_ _
          clear hS
          go_wp2
          go_meet
          case rel => exact ⟨a, _, _, rfl, HL, HR, Lib.hid ⟨by have h1 := HNN.out.1; have h2 := HI1E.out; omega, by have h1 := HNN.out.2; have h2 := HI1E.out; rw [HDT.out]; omega⟩, HK, HB⟩
        · by_cases e1 : kd = 1
          · subst e1
            go_upto_region 23 with fail
            refine wp_region_held_drew (S := fun W => Bk W cb 32 #[nV 1, nV id, .string gr, .string tx]) (by kernel_rfl) ?_ (fun hS => ?_)
            · exact HK.out.drew
            have hb0 : Below W0.heap.size W0 W0.drew := (Below.refl _ _).drew
            obtain ⟨WD, hWD⟩ : ∃ W, W0.drew = W := ⟨_, rfl⟩
            rw [hWD] at hb0 hS ⊢
            clear hWD
            have HL := Lib.hid (HL.out.below hb0)
            have HR := Lib.hid (HR.out.below hb0)
            have HB := Lib.hid (HB.out.trans (hb0.mono HB.out.size))
            have HC := Lib.hid (lb_close HL.out (by have := HNB.out; omega) id HOB.out gr HGR.out)
            clear hb0
            refine tkY 0 ?_ rfl hS ?_ ?_
            rotate_left
            · intro wz hz
              have k0 := hz
              have q0 := k0.cell 0
              have q1 := k0.cell 1
              have q2 := k0.cell 2
              have q3 := k0.cell 3
              simp at q0 q1 q2 q3
              clear k0
              go_simp
              all_goals first | with_reducible rfl | omega
            try simp only [Act.put, pu]
            refine tkY 1 ?_ rfl hS ?_ ?_
            rotate_left
            · intro wz hz
              have k0 := hz
              have q0 := k0.cell 0
              have q1 := k0.cell 1
              have q2 := k0.cell 2
              have q3 := k0.cell 3
              simp at q0 q1 q2 q3
              clear k0
              go_simp
              all_goals first | with_reducible rfl | omega
            try simp only [Act.put, pu]
            refine tkY 2 ?_ rfl hS ?_ ?_
            rotate_left
            · intro wz hz
              have k0 := hz
              have q0 := k0.cell 0
              have q1 := k0.cell 1
              have q2 := k0.cell 2
              have q3 := k0.cell 3
              simp at q0 q1 q2 q3
              clear k0
              go_simp
              all_goals first | with_reducible rfl | omega
            try simp only [Act.put, pu]
            refine tkY 3 ?_ rfl hS ?_ ?_
            rotate_left
            · intro wz hz
              have k0 := hz
              have q0 := k0.cell 0
              have q1 := k0.cell 1
              have q2 := k0.cell 2
              have q3 := k0.cell 3
              simp at q0 q1 q2 q3
              clear k0
              go_simp
              all_goals first | with_reducible rfl | omega
            try simp only [Act.put, pu]
            refine tkY 4 ?_ rfl hS ?_ ?_
            rotate_left
            · intro wz hz
              have k0 := hz
              have q0 := k0.cell 0
              have q1 := k0.cell 1
              have q2 := k0.cell 2
              have q3 := k0.cell 3
              simp at q0 q1 q2 q3
              clear k0
              go_simp
              all_goals first | with_reducible rfl | omega
            try simp only [Act.put, pu]
            refine tkY 6 ?_ rfl hS ?_ ?_
            rotate_left
            · intro wz hz
              have k0 := hz
              have q0 := k0.cell 0
              have q1 := k0.cell 1
              have q2 := k0.cell 2
              have q3 := k0.cell 3
              simp at q0 q1 q2 q3
              clear k0
              go_simp
              all_goals first | with_reducible rfl | omega
            try simp only [Act.put, pu]
            refine tkY 7 ?_ rfl hS ?_ ?_
            rotate_left
            · intro wz hz
              have k0 := hz
              have q0 := k0.cell 0
              have q1 := k0.cell 1
              have q2 := k0.cell 2
              have q3 := k0.cell 3
              simp at q0 q1 q2 q3
              clear k0
              go_simp
              all_goals first | with_reducible rfl | omega
            try simp only [Act.put, pu]
            refine tkY 8 ?_ rfl hS ?_ ?_
            rotate_left
            · intro wz hz
              have k0 := hz
              have q0 := k0.cell 0
              have q1 := k0.cell 1
              have q2 := k0.cell 2
              have q3 := k0.cell 3
              simp at q0 q1 q2 q3
              clear k0
              go_simp
              all_goals first | with_reducible rfl | omega
            try simp only [Act.put, pu]
            refine tkY 9 ?_ rfl hS ?_ ?_
            rotate_left
            · intro wz hz
              have k0 := hz
              have q0 := k0.cell 0
              have q1 := k0.cell 1
              have q2 := k0.cell 2
              have q3 := k0.cell 3
              simp at q0 q1 q2 q3
              clear k0
              go_simp
              all_goals first | with_reducible rfl | omega
            try simp only [Act.put, pu]
            refine tkY 10 ?_ rfl hS ?_ ?_
            rotate_left
            · intro wz hz
              have k0 := hz
              have q0 := k0.cell 0
              have q1 := k0.cell 1
              have q2 := k0.cell 2
              have q3 := k0.cell 3
              simp at q0 q1 q2 q3
              clear k0
              go_simp
              all_goals first | with_reducible rfl | omega
            try simp only [Act.put, pu]
            refine wpAnyH_ready (rs := [5]) (by kernel_rfl) (by simp) (AllReadyH.cons rfl (fun K' hK' => ?_) AllReadyH.nil)
            go_simp
            refine HC.out.mono ?_
            rintro e w5 ⟨rfl, hl, hf⟩
            have HL := Lib.hid hl
            have HR := Lib.hid (HR.out.kc hf.2)
            have HB := Lib.hid (HB.out.trans hf.1)
            have HC := Lib.hid (rb_close HR.out (by have := HNB.out; omega) id gr)
            have hk5 := hf.2.bk hS
            refine hK'.out _ _ hk5 (fun hSn => ?_)
            clear hK' K' hS hl hf hk5
            have hS := hSn
            clear hSn
            try simp only [Act.put, pu]
            refine wpAnyH_ready (rs := [11]) (by kernel_rfl) (by simp) (AllReadyH.cons rfl (fun K' hK' => ?_) AllReadyH.nil)
            go_simp
            refine HC.out.mono ?_
            rintro e w6 ⟨rfl, hr, hf⟩
            have HR := Lib.hid hr
            have HL := Lib.hid (HL.out.kr hf.2)
            have HB := Lib.hid (HB.out.trans hf.1)
            have hk6 := hf.2.bk hS op_not
            have HK := Lib.hid hk6
            refine hK'.out _ _ hk6 (fun hSn => ?_)
            clear hK' K' hS hr hf hk6 HC
            have hS := hSn
            clear hSn
            try simp only [Act.put, pu]
            refine tkY 12 ?_ rfl hS ?_ ?_
            rotate_left
            · intro wz hz
              go_simp
              all_goals first | with_reducible rfl | omega
            try simp only [Act.put, pu]
            refine wpAnyH_done (by kernel_rfl) ?_ _
            clear hS
            go_wp2
            go_meet
            case rel => exact ⟨a, _, _, rfl, HL, HR, Lib.hid ⟨by have h1 := HNN.out.1; have h2 := HI1E.out; omega, by have h1 := HNN.out.2; have h2 := HI1E.out; show S.T.length ≤ i1; omega⟩, HK, HB⟩
          · by_cases e2 : kd = 2
            · subst e2
              go_upto_region 26 with fail
              refine wp_region_held_drew (S := fun W => Bk W cb 32 #[nV 2, nV id, .string gr, .string tx]) (by kernel_rfl) ?_ (fun hS => ?_)
              · exact HK.out.drew
              have hb0 : Below W0.heap.size W0 W0.drew := (Below.refl _ _).drew
              obtain ⟨WD, hWD⟩ : ∃ W, W0.drew = W := ⟨_, rfl⟩
              rw [hWD] at hb0 hS ⊢
              clear hWD
              have HL := Lib.hid (HL.out.below hb0)
              have HR := Lib.hid (HR.out.below hb0)
              have HB := Lib.hid (HB.out.trans (hb0.mono HB.out.size))
              have HC := Lib.hid (lb_leave HL.out id HOB.out)
              clear hb0
              refine tkY 0 ?_ rfl hS ?_ ?_
              rotate_left
              · intro wz hz
                have k0 := hz
                have q0 := k0.cell 0
                have q1 := k0.cell 1
                have q2 := k0.cell 2
                have q3 := k0.cell 3
                simp at q0 q1 q2 q3
                clear k0
                go_simp
                all_goals first | with_reducible rfl | omega
              try simp only [Act.put, pu]
              refine tkY 1 ?_ rfl hS ?_ ?_
              rotate_left
              · intro wz hz
                have k0 := hz
                have q0 := k0.cell 0
                have q1 := k0.cell 1
                have q2 := k0.cell 2
                have q3 := k0.cell 3
                simp at q0 q1 q2 q3
                clear k0
                go_simp
                all_goals first | with_reducible rfl | omega
              try simp only [Act.put, pu]
              refine tkY 2 ?_ rfl hS ?_ ?_
              rotate_left
              · intro wz hz
                have k0 := hz
                have q0 := k0.cell 0
                have q1 := k0.cell 1
                have q2 := k0.cell 2
                have q3 := k0.cell 3
                simp at q0 q1 q2 q3
                clear k0
                go_simp
                all_goals first | with_reducible rfl | omega
              try simp only [Act.put, pu]
              refine tkY 4 ?_ rfl hS ?_ ?_
              rotate_left
              · intro wz hz
                have k0 := hz
                have q0 := k0.cell 0
                have q1 := k0.cell 1
                have q2 := k0.cell 2
                have q3 := k0.cell 3
                simp at q0 q1 q2 q3
                clear k0
                go_simp
                all_goals first | with_reducible rfl | omega
              try simp only [Act.put, pu]
              refine tkY 5 ?_ rfl hS ?_ ?_
              rotate_left
              · intro wz hz
                have k0 := hz
                have q0 := k0.cell 0
                have q1 := k0.cell 1
                have q2 := k0.cell 2
                have q3 := k0.cell 3
                simp at q0 q1 q2 q3
                clear k0
                go_simp
                all_goals first | with_reducible rfl | omega
              try simp only [Act.put, pu]
              refine tkY 6 ?_ rfl hS ?_ ?_
              rotate_left
              · intro wz hz
                have k0 := hz
                have q0 := k0.cell 0
                have q1 := k0.cell 1
                have q2 := k0.cell 2
                have q3 := k0.cell 3
                simp at q0 q1 q2 q3
                clear k0
                go_simp
                all_goals first | with_reducible rfl | omega
              try simp only [Act.put, pu]
              refine wpAnyH_ready (rs := [3]) (by kernel_rfl) (by simp) (AllReadyH.cons rfl (fun K' hK' => ?_) AllReadyH.nil)
              go_simp
              refine HC.out.mono ?_
              rintro e w5 ⟨rfl, hl, hf⟩
              have HL := Lib.hid hl
              have HR := Lib.hid (HR.out.kc hf.2)
              have HB := Lib.hid (HB.out.trans hf.1)
              have HC := Lib.hid (rb_leave HR.out (by have := HNB.out; omega) id)
              have hk5 := hf.2.bk hS
              refine hK'.out _ _ hk5 (fun hSn => ?_)
              clear hK' K' hS hl hf hk5
              have hS := hSn
              clear hSn
              try simp only [Act.put, pu]
              refine wpAnyH_ready (rs := [7]) (by kernel_rfl) (by simp) (AllReadyH.cons rfl (fun K' hK' => ?_) AllReadyH.nil)
              go_simp
              refine HC.out.mono ?_
              rintro e w6 ⟨rfl, hr, hf⟩
              have HR := Lib.hid hr
              have HL := Lib.hid (HL.out.kr hf.2)
              have HB := Lib.hid (HB.out.trans hf.1)
              have hk6 := hf.2.bk hS op_not
              have HK := Lib.hid hk6
              refine hK'.out _ _ hk6 (fun hSn => ?_)
              clear hK' K' hS hr hf hk6 HC
              have hS := hSn
              clear hSn
              try simp only [Act.put, pu]
              refine tkY 8 ?_ rfl hS ?_ ?_
              rotate_left
              · intro wz hz
                go_simp
                all_goals first | with_reducible rfl | omega
              try simp only [Act.put, pu]
              refine wpAnyH_done (by kernel_rfl) ?_ _
              clear hS
              go_wp2
              go_meet
              case rel => exact ⟨a, _, _, rfl, HL, HR, Lib.hid ⟨by have h1 := HNN.out.1; have h2 := HI1E.out; omega, by have h1 := HNN.out.2; have h2 := HI1E.out; show S.T.length ≤ i1; omega⟩, HK, HB⟩
            · by_cases e3 : kd = 3
              · subst e3
                have HC := Lib.hid (lb_need HL.out (by have := HNB.out; omega) id HOB.out tx HTX.out (by have := HNN.out.2; have := HI60.out; omega))
                have HNT := Lib.hid ((numS_len tx S).1)
                obtain ⟨nz, hnz⟩ : ∃ z, nm (numA tx S) = z := ⟨_, rfl⟩
                obtain ⟨nf, hnf⟩ : ∃ z, (!hasA id tx S) = z := ⟨_, rfl⟩
                rw [hnz, hnf] at HC
                have HCR : Hid (∀ W, RBk w.heap.size W r N S → Calls Tryd.prog 16 #[ptr r, nV id, .string tx] W (RetR w.heap.size r (N + 2) (neeS id tx S) (.tuple #[.string nz, .bool nf]) W)) := Lib.hid fun W h => by
                  have := rb_need h (by have := HNB.out; omega) id tx
                  rw [hnz, hnf] at this
                  exact this
                clear hnz hnf
                go_wp2_with fail
                refine HC.out.mono ?_
                rintro e w5 ⟨rfl, hl, hf⟩
                have HL := Lib.hid hl
                have HR := Lib.hid (HR.out.kc hf.2)
                have HB := Lib.hid (HB.out.trans hf.1)
                have HK := Lib.hid (hf.2.bk HK.out)
                have HC2 := Lib.hid (HCR.out _ HR.out)
                have k0 := HK.out
                have q0 := k0.cell 0
                have qf0 := k0.frozen 0
                have q1 := k0.cell 1
                have qf1 := k0.frozen 1
                have q2 := k0.cell 2
                have qf2 := k0.frozen 2
                have q3 := k0.cell 3
                have qf3 := k0.frozen 3
                simp at q0 q1 q2 q3
                clear k0
                clear hl hf HC HCR
                go_wp2_with fail
                refine HC2.out.mono ?_
                rintro e w6 ⟨rfl, hr, hf⟩
                have HR := Lib.hid hr
                have HL := Lib.hid (HL.out.kr hf.2)
                have HB := Lib.hid (HB.out.trans hf.1)
                have HK := Lib.hid (hf.2.bk HK.out op_not)
                clear hr hf HC2
                go_wp2
                go_meet
                case rel => exact ⟨a, _, _, rfl, HL, HR, Lib.hid ⟨by have h1 := HNN.out.1; have h2 := HI1E.out; omega, by have h1 := HNN.out.2; have h2 := HI1E.out; show (numS tx S).T.length ≤ i1; have := HNT.out; omega⟩, HK, HB⟩
              · by_cases e4 : kd = 4
                · subst e4
                  go_upto_region 34 with fail
                  refine wp_region_held_drew (S := fun W => Bk W cb 32 #[nV 4, nV id, .string gr, .string tx]) (by kernel_rfl) ?_ (fun hS => ?_)
                  · exact HK.out.drew
                  have hb0 : Below W0.heap.size W0 W0.drew := (Below.refl _ _).drew
                  obtain ⟨WD, hWD⟩ : ∃ W, W0.drew = W := ⟨_, rfl⟩
                  rw [hWD] at hb0 hS ⊢
                  clear hWD
                  have HL := Lib.hid (HL.out.below hb0)
                  have HR := Lib.hid (HR.out.below hb0)
                  have HB := Lib.hid (HB.out.trans (hb0.mono HB.out.size))
                  have HC := Lib.hid (lb_forget HL.out id HOB.out)
                  clear hb0
                  refine tkY 0 ?_ rfl hS ?_ ?_
                  rotate_left
                  · intro wz hz
                    have k0 := hz
                    have q0 := k0.cell 0
                    have q1 := k0.cell 1
                    have q2 := k0.cell 2
                    have q3 := k0.cell 3
                    simp at q0 q1 q2 q3
                    clear k0
                    go_simp
                    all_goals first | with_reducible rfl | omega
                  try simp only [Act.put, pu]
                  refine tkY 1 ?_ rfl hS ?_ ?_
                  rotate_left
                  · intro wz hz
                    have k0 := hz
                    have q0 := k0.cell 0
                    have q1 := k0.cell 1
                    have q2 := k0.cell 2
                    have q3 := k0.cell 3
                    simp at q0 q1 q2 q3
                    clear k0
                    go_simp
                    all_goals first | with_reducible rfl | omega
                  try simp only [Act.put, pu]
                  refine tkY 2 ?_ rfl hS ?_ ?_
                  rotate_left
                  · intro wz hz
                    have k0 := hz
                    have q0 := k0.cell 0
                    have q1 := k0.cell 1
                    have q2 := k0.cell 2
                    have q3 := k0.cell 3
                    simp at q0 q1 q2 q3
                    clear k0
                    go_simp
                    all_goals first | with_reducible rfl | omega
                  try simp only [Act.put, pu]
                  refine tkY 4 ?_ rfl hS ?_ ?_
                  rotate_left
                  · intro wz hz
                    have k0 := hz
                    have q0 := k0.cell 0
                    have q1 := k0.cell 1
                    have q2 := k0.cell 2
                    have q3 := k0.cell 3
                    simp at q0 q1 q2 q3
                    clear k0
                    go_simp
                    all_goals first | with_reducible rfl | omega
                  try simp only [Act.put, pu]
                  refine tkY 5 ?_ rfl hS ?_ ?_
                  rotate_left
                  · intro wz hz
                    have k0 := hz
                    have q0 := k0.cell 0
                    have q1 := k0.cell 1
                    have q2 := k0.cell 2
                    have q3 := k0.cell 3
                    simp at q0 q1 q2 q3
                    clear k0
                    go_simp
                    all_goals first | with_reducible rfl | omega
                  try simp only [Act.put, pu]
                  refine tkY 6 ?_ rfl hS ?_ ?_
                  rotate_left
                  · intro wz hz
                    have k0 := hz
                    have q0 := k0.cell 0
                    have q1 := k0.cell 1
                    have q2 := k0.cell 2
                    have q3 := k0.cell 3
                    simp at q0 q1 q2 q3
                    clear k0
                    go_simp
                    all_goals first | with_reducible rfl | omega
                  try simp only [Act.put, pu]
                  refine wpAnyH_ready (rs := [3]) (by kernel_rfl) (by simp) (AllReadyH.cons rfl (fun K' hK' => ?_) AllReadyH.nil)
                  go_simp
                  refine HC.out.mono ?_
                  rintro e w5 ⟨rfl, hl, hf⟩
                  have HL := Lib.hid hl
                  have HR := Lib.hid (HR.out.kc hf.2)
                  have HB := Lib.hid (HB.out.trans hf.1)
                  have HC := Lib.hid (rb_forget HR.out (by have := HNB.out; omega) id)
                  have hk5 := hf.2.bk hS
                  refine hK'.out _ _ hk5 (fun hSn => ?_)
                  clear hK' K' hS hl hf hk5
                  have hS := hSn
                  clear hSn
                  try simp only [Act.put, pu]
                  refine wpAnyH_ready (rs := [7]) (by kernel_rfl) (by simp) (AllReadyH.cons rfl (fun K' hK' => ?_) AllReadyH.nil)
                  go_simp
                  refine HC.out.mono ?_
                  rintro e w6 ⟨rfl, hr, hf⟩
                  have HR := Lib.hid hr
                  have HL := Lib.hid (HL.out.kr hf.2)
                  have HB := Lib.hid (HB.out.trans hf.1)
                  have hk6 := hf.2.bk hS op_not
                  have HK := Lib.hid hk6
                  refine hK'.out _ _ hk6 (fun hSn => ?_)
                  clear hK' K' hS hr hf hk6 HC
                  have hS := hSn
                  clear hSn
                  try simp only [Act.put, pu]
                  refine tkY 8 ?_ rfl hS ?_ ?_
                  rotate_left
                  · intro wz hz
                    go_simp
                    all_goals first | with_reducible rfl | omega
                  try simp only [Act.put, pu]
                  refine wpAnyH_done (by kernel_rfl) ?_ _
                  clear hS
                  go_wp2
                  go_meet
                  case rel => exact ⟨a, _, _, rfl, HL, HR, Lib.hid ⟨by have h1 := HNN.out.1; have h2 := HI1E.out; omega, by have h1 := HNN.out.2; have h2 := HI1E.out; show S.T.length ≤ i1; omega⟩, HK, HB⟩
                · have HC := Lib.hid (two_copy HL.out (by have := HNB.out; omega))
                  go_wp2_with fail
                  refine HC.out.mono ?_
                  rintro e w5 ⟨a2, rfl, ht, hf⟩
                  have HT := Lib.hid ht
                  have HR := Lib.hid (HR.out.kc hf.2)
                  have HB := Lib.hid (HB.out.trans hf.1)
                  have HK := Lib.hid (hf.2.bk HK.out)
                  have k0 := HK.out
                  have q0 := k0.cell 0
                  have qf0 := k0.frozen 0
                  have q1 := k0.cell 1
                  have qf1 := k0.frozen 1
                  have q2 := k0.cell 2
                  have qf2 := k0.frozen 2
                  have q3 := k0.cell 3
                  have qf3 := k0.frozen 3
                  simp at q0 q1 q2 q3
                  clear k0
                  clear ht hf HC HL
                  have HC := Lib.hid (two_def HT.out (by have := HNB.out; omega) id HOB.out ⟨#[115, 112, 111, 105, 108, 116]⟩ ⟨#[120]⟩ (by decide) (by decide))
                  go_wp2_with fail
                  refine HC.out.mono ?_
                  rintro e w6 ⟨rfl, ht, hf⟩
                  have HT := Lib.hid ht
                  have HR := Lib.hid (HR.out.kc hf.2)
                  have HB := Lib.hid (HB.out.trans hf.1)
                  have HK := Lib.hid (hf.2.bk HK.out)
                  have k0 := HK.out
                  have q0 := k0.cell 0
                  have qf0 := k0.frozen 0
                  have q1 := k0.cell 1
                  have qf1 := k0.frozen 1
                  have q2 := k0.cell 2
                  have qf2 := k0.frozen 2
                  have q3 := k0.cell 3
                  have qf3 := k0.frozen 3
                  simp at q0 q1 q2 q3
                  clear k0
                  clear ht hf HC
                  have HSP : Hid ((defS id ⟨#[115, 112, 111, 105, 108, 116]⟩ ⟨#[120]⟩ S).T = S.T) := Lib.hid (by unfold defS; split; rfl; split <;> rfl)
                  have HC := Lib.hid (two_need HT.out (by have := HNB.out; omega) id HOB.out ⟨#[115, 112, 111, 105, 108, 116]⟩ (by decide) (by have h1 := HSP.out; have h2 := HNN.out.2; have h3 := HI60.out; rw [h1]; omega))
                  go_wp2_with fail
                  refine HC.out.mono ?_
                  rintro e w7 ⟨rfl, ht, hf⟩
                  have HT := Lib.hid ht
                  have HR := Lib.hid (HR.out.kc hf.2)
                  have HB := Lib.hid (HB.out.trans hf.1)
                  have HK := Lib.hid (hf.2.bk HK.out)
                  have k0 := HK.out
                  have q0 := k0.cell 0
                  have qf0 := k0.frozen 0
                  have q1 := k0.cell 1
                  have qf1 := k0.frozen 1
                  have q2 := k0.cell 2
                  have qf2 := k0.frozen 2
                  have q3 := k0.cell 3
                  have qf3 := k0.frozen 3
                  simp at q0 q1 q2 q3
                  clear k0
                  clear ht hf HC
                  have HC := Lib.hid (two_forget HT.out id HOB.out)
                  go_wp2_with fail
                  refine HC.out.mono ?_
                  rintro e w8 ⟨rfl, ht, hf⟩
                  have HT := Lib.hid ht
                  have HR := Lib.hid (HR.out.kc hf.2)
                  have HB := Lib.hid (HB.out.trans hf.1)
                  have HK := Lib.hid (hf.2.bk HK.out)
                  have k0 := HK.out
                  have q0 := k0.cell 0
                  have qf0 := k0.frozen 0
                  have q1 := k0.cell 1
                  have qf1 := k0.frozen 1
                  have q2 := k0.cell 2
                  have qf2 := k0.frozen 2
                  have q3 := k0.cell 3
                  have qf3 := k0.frozen 3
                  simp at q0 q1 q2 q3
                  clear k0
                  clear ht hf HC
                  have HC := Lib.hid (two_leave HT.out id HOB.out)
                  go_wp2_with fail
                  refine HC.out.mono ?_
                  rintro e w9 ⟨rfl, ht, hf⟩
                  have HT := Lib.hid ht
                  have HR := Lib.hid (HR.out.kc hf.2)
                  have HB := Lib.hid (HB.out.trans hf.1)
                  have HK := Lib.hid (hf.2.bk HK.out)
                  have k0 := HK.out
                  have q0 := k0.cell 0
                  have qf0 := k0.frozen 0
                  have q1 := k0.cell 1
                  have qf1 := k0.frozen 1
                  have q2 := k0.cell 2
                  have qf2 := k0.frozen 2
                  have q3 := k0.cell 3
                  have qf3 := k0.frozen 3
                  simp at q0 q1 q2 q3
                  clear k0
                  clear ht hf HC
                  have HL := Lib.hid HT.out.second
                  clear HT
                  go_wp2
                  go_meet
                  case rel => exact ⟨a2, _, _, rfl, HL, HR, Lib.hid ⟨by have h1 := HNN.out.1; have h2 := HI1E.out; omega, by have h1 := HNN.out.2; have h2 := HI1E.out; show S.T.length ≤ i1; omega⟩, HK, HB⟩
      case rest =>
        obtain ⟨A, N9, S9, rfl, HL, HR, HNN9, HK, HB⟩ := hcut
        have HNB9 : Hid (N9 ≤ 200) := Lib.hid (by have h1 := HNN9.out.1; have h2 := HI1E.out; have h3 := HI60.out; omega)
        have HC := Lib.hid (lb_find HL.out id HOB.out gr HGR.out)
        have HCR : Hid (∀ W, RBk w.heap.size W r N9 S9 → Calls Tryd.prog 21 #[ptr r, nV id, .string gr] W fun e w' => e = .returned (.tuple #[.string ((fnd S9.L id gr).getD ByteArray.empty), .bool (fnd S9.L id gr).isSome]) ∧ W = w') := Lib.hid fun W h => rb_find h (by have := HNB9.out; omega) id gr
        generalize (fnd S9.L id gr).getD ByteArray.empty = fx at *
        generalize (fnd S9.L id gr).isSome = fb at *
        have k0 := HK.out
        have q0 := k0.cell 0
        have qf0 := k0.frozen 0
        have q1 := k0.cell 1
        have qf1 := k0.frozen 1
        have q2 := k0.cell 2
        have qf2 := k0.frozen 2
        have q3 := k0.cell 3
        have qf3 := k0.frozen 3
        simp at q0 q1 q2 q3
        clear k0
        go_wp2_with fail
        refine HC.out.mono ?_
        rintro e w5 ⟨rfl, hb⟩
        have HK := Lib.hid (HK.out.heap (hb.block cb HK.out.lt))
        have HL := Lib.hid (HL.out.below hb)
        have HR := Lib.hid (HR.out.below hb)
        have HB := Lib.hid (HB.out.trans (hb.mono HB.out.size))
        have HC2 := Lib.hid (HCR.out _ HR.out)
        have k0 := HK.out
        have q0 := k0.cell 0
        have qf0 := k0.frozen 0
        have q1 := k0.cell 1
        have qf1 := k0.frozen 1
        have q2 := k0.cell 2
        have qf2 := k0.frozen 2
        have q3 := k0.cell 3
        have qf3 := k0.frozen 3
        simp at q0 q1 q2 q3
        clear k0
        clear hb HC HCR
        go_wp2_with fail
        refine HC2.out.mono ?_
        rintro e w6 ⟨rfl, rfl⟩
        clear HC2
        go_upto_region 38 with fail
        refine wp_region_held_drew (S := fun W => Bk W cb 32 #[nV kd, nV id, .string gr, .string tx]) (by kernel_rfl) ?_ (fun hS => ?_)
        · exact HK.out.drew
        have hb0 : Below w5.heap.size w5 w5.drew := (Below.refl _ _).drew
        obtain ⟨WD, hWD⟩ : ∃ W, w5.drew = W := ⟨_, rfl⟩
        rw [hWD] at hb0 hS ⊢
        clear hWD
        have HL := Lib.hid (HL.out.below hb0)
        have HR := Lib.hid (HR.out.below hb0)
        have HB := Lib.hid (HB.out.trans (hb0.mono HB.out.size))
        have HC := Lib.hid (lb_has HL.out (by have := HNB9.out; omega) id HOB.out (by have := HNN9.out.2; have := HI60.out; have := HI1E.out; omega))
        clear hb0
        refine tkY 0 ?_ rfl hS ?_ ?_
        rotate_left
        · intro wz hz
          have k0 := hz
          have q0 := k0.cell 0
          have q1 := k0.cell 1
          have q2 := k0.cell 2
          have q3 := k0.cell 3
          simp at q0 q1 q2 q3
          clear k0
          go_simp
          all_goals first | with_reducible rfl | omega
        try simp only [Act.put, pu]
        refine tkY 1 ?_ rfl hS ?_ ?_
        rotate_left
        · intro wz hz
          have k0 := hz
          have q0 := k0.cell 0
          have q1 := k0.cell 1
          have q2 := k0.cell 2
          have q3 := k0.cell 3
          simp at q0 q1 q2 q3
          clear k0
          go_simp
          all_goals first | with_reducible rfl | omega
        try simp only [Act.put, pu]
        refine tkY 2 ?_ rfl hS ?_ ?_
        rotate_left
        · intro wz hz
          have k0 := hz
          have q0 := k0.cell 0
          have q1 := k0.cell 1
          have q2 := k0.cell 2
          have q3 := k0.cell 3
          simp at q0 q1 q2 q3
          clear k0
          go_simp
          all_goals first | with_reducible rfl | omega
        try simp only [Act.put, pu]
        refine tkY 3 ?_ rfl hS ?_ ?_
        rotate_left
        · intro wz hz
          have k0 := hz
          have q0 := k0.cell 0
          have q1 := k0.cell 1
          have q2 := k0.cell 2
          have q3 := k0.cell 3
          simp at q0 q1 q2 q3
          clear k0
          go_simp
          all_goals first | with_reducible rfl | omega
        try simp only [Act.put, pu]
        refine tkY 4 ?_ rfl hS ?_ ?_
        rotate_left
        · intro wz hz
          have k0 := hz
          have q0 := k0.cell 0
          have q1 := k0.cell 1
          have q2 := k0.cell 2
          have q3 := k0.cell 3
          simp at q0 q1 q2 q3
          clear k0
          go_simp
          all_goals first | with_reducible rfl | omega
        try simp only [Act.put, pu]
        refine tkY 5 ?_ rfl hS ?_ ?_
        rotate_left
        · intro wz hz
          have k0 := hz
          have q0 := k0.cell 0
          have q1 := k0.cell 1
          have q2 := k0.cell 2
          have q3 := k0.cell 3
          simp at q0 q1 q2 q3
          clear k0
          go_simp
          all_goals first | with_reducible rfl | omega
        try simp only [Act.put, pu]
        refine tkY 6 ?_ rfl hS ?_ ?_
        rotate_left
        · intro wz hz
          have k0 := hz
          have q0 := k0.cell 0
          have q1 := k0.cell 1
          have q2 := k0.cell 2
          have q3 := k0.cell 3
          simp at q0 q1 q2 q3
          clear k0
          go_simp
          all_goals first | with_reducible rfl | omega
        try simp only [Act.put, pu]
        refine tkY 7 ?_ rfl hS ?_ ?_
        rotate_left
        · intro wz hz
          have k0 := hz
          have q0 := k0.cell 0
          have q1 := k0.cell 1
          have q2 := k0.cell 2
          have q3 := k0.cell 3
          simp at q0 q1 q2 q3
          clear k0
          go_simp
          all_goals first | with_reducible rfl | omega
        try simp only [Act.put, pu]
        refine tkY 8 ?_ rfl hS ?_ ?_
        rotate_left
        · intro wz hz
          have k0 := hz
          have q0 := k0.cell 0
          have q1 := k0.cell 1
          have q2 := k0.cell 2
          have q3 := k0.cell 3
          simp at q0 q1 q2 q3
          clear k0
          go_simp
          all_goals first | with_reducible rfl | omega
        try simp only [Act.put, pu]
        refine tkY 9 ?_ rfl hS ?_ ?_
        rotate_left
        · intro wz hz
          have k0 := hz
          have q0 := k0.cell 0
          have q1 := k0.cell 1
          have q2 := k0.cell 2
          have q3 := k0.cell 3
          simp at q0 q1 q2 q3
          clear k0
          go_simp
          all_goals first | with_reducible rfl | omega
        try simp only [Act.put, pu]
        refine tkY 10 ?_ rfl hS ?_ ?_
        rotate_left
        · intro wz hz
          have k0 := hz
          have q0 := k0.cell 0
          have q1 := k0.cell 1
          have q2 := k0.cell 2
          have q3 := k0.cell 3
          simp at q0 q1 q2 q3
          clear k0
          go_simp
          all_goals first | with_reducible rfl | omega
        try simp only [Act.put, pu]
        refine tkY 11 ?_ rfl hS ?_ ?_
        rotate_left
        · intro wz hz
          have k0 := hz
          have q0 := k0.cell 0
          have q1 := k0.cell 1
          have q2 := k0.cell 2
          have q3 := k0.cell 3
          simp at q0 q1 q2 q3
          clear k0
          go_simp
          all_goals first | with_reducible rfl | omega
        try simp only [Act.put, pu]
        refine tkY 13 ?_ rfl hS ?_ ?_
        rotate_left
        · intro wz hz
          have k0 := hz
          have q0 := k0.cell 0
          have q1 := k0.cell 1
          have q2 := k0.cell 2
          have q3 := k0.cell 3
          simp at q0 q1 q2 q3
          clear k0
          go_simp
          all_goals first | with_reducible rfl | omega
        try simp only [Act.put, pu]
        refine tkY 14 ?_ rfl hS ?_ ?_
        rotate_left
        · intro wz hz
          have k0 := hz
          have q0 := k0.cell 0
          have q1 := k0.cell 1
          have q2 := k0.cell 2
          have q3 := k0.cell 3
          simp at q0 q1 q2 q3
          clear k0
          go_simp
          all_goals first | with_reducible rfl | omega
        try simp only [Act.put, pu]
        refine tkY 15 ?_ rfl hS ?_ ?_
        rotate_left
        · intro wz hz
          have k0 := hz
          have q0 := k0.cell 0
          have q1 := k0.cell 1
          have q2 := k0.cell 2
          have q3 := k0.cell 3
          simp at q0 q1 q2 q3
          clear k0
          go_simp
          all_goals first | with_reducible rfl | omega
        try simp only [Act.put, pu]
        refine wpAnyH_ready (rs := [12]) (by kernel_rfl) (by simp) (AllReadyH.cons rfl (fun K' hK' => ?_) AllReadyH.nil)
        go_simp
        refine HC.out.mono ?_
        rintro e w7 ⟨v7, rfl, ho7, hb7⟩
        have HO7 := Lib.hid ho7
        have HL := Lib.hid (HL.out.below hb7)
        have HR := Lib.hid (HR.out.below hb7)
        have HB := Lib.hid (HB.out.trans (hb7.mono HB.out.size))
        have HC := Lib.hid (rb_has HR.out (by have := HNB9.out; omega) id)
        have hk7 := hS.heap (hb7.block cb hS.lt)
        obtain ⟨a7, q7, e7⟩ := ho7.ts.form
        obtain ⟨n7, hn7⟩ : ∃ n, (nms S9.D id).length = n := ⟨_, rfl⟩
        rw [List.length_map, hn7] at e7
        have HN7 := Lib.hid hn7
        subst e7
        clear hn7
        refine hK'.out _ _ hk7 (fun hSn => ?_)
        clear hK' K' hS ho7 hb7 hk7
        have hS := hSn
        clear hSn
        try simp only [Act.put, pu]
        refine wpAnyH_ready (rs := [16]) (by kernel_rfl) (by simp) (AllReadyH.cons rfl (fun K' hK' => ?_) AllReadyH.nil)
        go_simp
        refine HC.out.mono ?_
        rintro e w8 ⟨v8, rfl, ho8, hb8⟩
        have HL := Lib.hid (HL.out.below hb8)
        have HR := Lib.hid (HR.out.below hb8)
        have HB := Lib.hid (HB.out.trans (hb8.mono HB.out.size))
        have hk8 := hS.heap (hb8.block cb hS.lt)
        obtain ⟨a8, q8, e8⟩ := ho8.ts.form
        rw [List.length_map, HN7.out] at e8
        subst e8
        have HTX8 : Hid (Calls Tryd.prog 22 #[.slice a7 n7 q7, .slice a8 n7 q8] w8 fun e w' => e = .returned (.bool true) ∧ ∃ n, w' = w8.drewN n) := Lib.hid (by
          have h7 : ((nms S9.D id).map nm).length ≤ 2000000000 := by rw [List.length_map]; exact Nat.le_trans (nms_len _ _) (Nat.le_trans HL.out.few.2.1 (by have := HNB9.out; omega))
          have := texts_any _ _ _ _ w8 (HO7.out.ts.below hb8) ho8.ts h7 h7
          rw [show decide ((nms S9.D id).map nm = (nms S9.D id).map nm) = true from decide_eq_true rfl] at this
          exact this)
        refine hK'.out _ _ hk8 (fun hSn => ?_)
        clear hK' K' hS ho8 hb8 hk8 HC HO7
        have hS := hSn
        clear hSn
        try simp only [Act.put, pu]
        refine wpAnyH_ready (rs := [17]) (by kernel_rfl) (by simp) (AllReadyH.cons rfl (fun K' hK' => ?_) AllReadyH.nil)
        go_simp
        refine HTX8.out.mono ?_
        rintro e w9 ⟨rfl, hd⟩
        have hb9 := below_dn hd
        have HL := Lib.hid (HL.out.below hb9)
        have HR := Lib.hid (HR.out.below hb9)
        have HB := Lib.hid (HB.out.trans (hb9.mono HB.out.size))
        have hk9 := hS.heap (hb9.block cb hS.lt)
        refine hK'.out _ _ hk9 (fun hSn => ?_)
        clear hK' K' hS hd hb9 hk9 HTX8
        have hS := hSn
        clear hSn
        try simp only [Act.put, pu]
        refine tkY 18 ?_ rfl hS ?_ ?_
        rotate_left
        · intro wz hz
          go_simp
          all_goals first | with_reducible rfl | omega
        try simp only [Act.put, pu]
        refine tkY 19 ?_ rfl hS ?_ ?_
        rotate_left
        · intro wz hz
          go_simp
          all_goals first | with_reducible rfl | omega
        try simp only [Act.put, pu]
        refine wpAnyH_done (by kernel_rfl) ?_ _
        clear hS
        go_wp2
        go_roundg gk1
        case measure => exact Nat.lt_succ_self _
        case rel => exact ⟨i1, A, N9, S9, rfl, rfl, HI1.out, HL, HR, HNN9, HB⟩
theorem plays_law (v : Value) (w : World) (hf : FitsOp w v) :
    Calls Tryd.prog 3 #[v] w fun e w' => e = .returned (.bool true) ∧ Below w.heap.size w w' := by
  obtain ⟨l, hl⟩ := hf
  exact plays_any v l w hl
end Go.Proofs.YtkifmhdceobfhaaDoor.PP
