/- PrepApart's walk. Conditions: none but the arguments' own sizes. -/
import Derived.Test.YtkifmhdceobfhaaDoorPpp
import Derived.Deep.CutBlock
namespace Go.Proofs.YtkifmhdceobfhaaDoor.PP
open Go.ChangeShapes Go.WideShapes Go.ChangeAt Go.RowKit Go.Maps Go.ChangeMaps
open Go.Proofs.YtkifmhdceobfhaaDoor.SL
set_option maxRecDepth 100000
set_option linter.unusedVariables false
set_option linter.unusedSimpArgs false

/-- a book behind i steps, in which one client has one statement -/
def ApR (B : Nat) (w : World) (a i : Nat) (n s : Tx) : Prop := ∃ N S, LB B w a N S ∧ N ≤ 2 * i + 1 ∧ S.T.length ≤ i ∧ fnd S.L (-5) n = some s ∧ (ofE (-5) S.L).length = 1
def ApP (B : Nat) (w : World) (a i : Nat) (n s : Tx) (e : Ending) (w' : World) : Prop := ∃ r, e = .returned r ∧ ApR B w' a i n s ∧ Fr B w w'
section
variable {B : Nat} {w w' : World} {a i : Nat} {n s : Tx}
theorem ApR.below (h : ApR B w a i n s) (hb : Below w.heap.size w w') : ApR B w' a i n s := by
  obtain ⟨N, S, h1, h2⟩ := h
  exact ⟨N, S, h1.below hb, h2⟩
theorem ApR.up (h : ApR B w a i n s) : ApR B w a (i + 1) n s := by
  obtain ⟨N, S, h1, h2, h3, h4⟩ := h
  exact ⟨N, S, h1, by omega, by omega, h4⟩
theorem ap_def (h : ApR B w a i n s) (hi : i ≤ 40) (c : Int) (hI : I9 c) (hc : c ≠ -5) (x t : Tx) (hx : x.size ≤ 281474976710656) (ht : t.size ≤ 281474976710656) :
    Calls Tryd.prog 9 #[ptr a, nV c, .string x, .string t] w (ApP B w a (i + 1) n s) := by
  obtain ⟨N, S, h1, h2, h3, h4, h5⟩ := h
  refine (lb_def h1 (by omega) c hI x t hx ht).mono ?_
  rintro e w' ⟨rfl, hl, hf⟩
  refine ⟨_, rfl, ⟨N + 1, _, hl, by omega, ?_, ?_, ?_⟩, hf⟩
  all_goals
    unfold defS
    split
    · first | exact h4 | exact h5 | omega
    · split
      · first | exact h4 | exact h5 | omega
      · skip
        first
        | (show fnd (woE c x S.L ++ [(c, x, t)]) (-5) n = _
           rw [fnd_def, if_neg fun e => hc e.1.symm]; exact h4)
        | (show (ofE (-5) (woE c x S.L ++ [(c, x, t)])).length = 1
           rw [of_app, of_wo_ne (Ne.symm hc), List.length_append]
           have : (ofE (-5) [(c, x, t)]).length = 0 := by unfold ofE; simp [hc]
           omega)
        | (show S.T.length ≤ i + 1; omega)
theorem ap_cls (h : ApR B w a i n s) (hi : i ≤ 40) (c : Int) (hI : I9 c) (hc : c ≠ -5) (x : Tx) (hx : x.size ≤ 281474976710656) :
    Calls Tryd.prog 11 #[ptr a, nV c, .string x] w (ApP B w a (i + 1) n s) := by
  obtain ⟨N, S, h1, h2, h3, h4, h5⟩ := h
  refine (lb_close h1 (by omega) c hI x hx).mono ?_
  rintro e w' ⟨rfl, hl, hf⟩
  refine ⟨_, rfl, ⟨N, _, hl, by omega, ?_, ?_, ?_⟩, hf⟩
  · show S.T.length ≤ i + 1; omega
  · show fnd (woE c x S.L) (-5) n = _
    rw [fnd_wo, if_neg fun e => hc e.1.symm]; exact h4
  · show (ofE (-5) (woE c x S.L)).length = 1
    rw [of_wo_ne (Ne.symm hc)]; exact h5
theorem ap_lea (h : ApR B w a i n s) (c : Int) (hI : I9 c) (hc : c ≠ -5) :
    Calls Tryd.prog 13 #[ptr a, nV c] w (ApP B w a (i + 1) n s) := by
  obtain ⟨N, S, h1, h2, h3, h4, h5⟩ := h
  refine (lb_leave h1 c hI).mono ?_
  rintro e w' ⟨rfl, hl, hf⟩
  refine ⟨_, rfl, ⟨N, _, hl, by omega, ?_, ?_, ?_⟩, hf⟩
  · show S.T.length ≤ i + 1; omega
  · show fnd (noE c S.L) (-5) n = _
    rw [fnd_no, if_neg (Ne.symm hc)]; exact h4
  · show (ofE (-5) (noE c S.L)).length = 1
    rw [of_no, if_neg (Ne.symm hc)]; exact h5
theorem ap_nee (h : ApR B w a i n s) (hi : i ≤ 40) (c : Int) (hI : I9 c) (x : Tx) (hx : x.size ≤ 281474976710656) :
    Calls Tryd.prog 15 #[ptr a, nV c, .string x] w (ApP B w a (i + 1) n s) := by
  obtain ⟨N, S, h1, h2, h3, h4, h5⟩ := h
  refine (lb_need h1 (by omega) c hI x hx (by omega)).mono ?_
  rintro e w' ⟨rfl, hl, hf⟩
  exact ⟨_, rfl, ⟨N + 2, _, hl, by omega, Nat.le_trans (numS_len x S).1 (by omega), h4, h5⟩, hf⟩
theorem ap_for (h : ApR B w a i n s) (c : Int) (hI : I9 c) :
    Calls Tryd.prog 17 #[ptr a, nV c] w (ApP B w a (i + 1) n s) := by
  obtain ⟨N, S, h1, h2, h3, h4, h5⟩ := h
  refine (lb_forget h1 c hI).mono ?_
  rintro e w' ⟨rfl, hl, hf⟩
  exact ⟨_, rfl, ⟨N, _, hl, by omega, by show S.T.length ≤ i + 1; omega, h4, h5⟩, hf⟩
end
theorem i95 : I9 (-5) := ⟨by omega, by omega⟩
set_option maxHeartbeats 32000000 in
theorem apart_any (n s : ByteArray) (v : Value) (l : List Opq) (w : World) (hv : OpR w v l) :
    Calls Tryd.prog 5 #[.string n, .string s, v] w fun e w' => e = .returned (.bool true) ∧ Below w.heap.size w w' := by
  have HV := Lib.hid hv
  obtain ⟨va, vc, rfl⟩ := hv.form
  clear hv
  go_enter Tryd.func5, Tryd.ntmps5
  go_wp2_with fail
  refine (lb_new w).mono ?_
  rintro e w1 ⟨a, rfl, hl, hb⟩
  have HL := Lib.hid hl
  have HB := Lib.hid hb
  clear hl hb
  by_cases h1 : 100 < n.size
  · have l1 : (100 : Int) < (n.size : Int) := by omega
    clear h1
    go_wp2_with fail
    refine (known_any _).mono ?_
    rintro e wz ⟨rfl, hb⟩
    have HB := Lib.hid (HB.out.trans (hb.mono HB.out.size))
    clear hb
    go_wp2
    go_ret
    exact ⟨rfl, HB.out⟩
  by_cases h2 : 2000 < s.size
  · have l1 : ¬ (100 : Int) < (n.size : Int) := by omega
    have l2 : (2000 : Int) < (s.size : Int) := by omega
    clear h1 h2
    go_wp2_with fail
    refine (known_any _).mono ?_
    rintro e wz ⟨rfl, hb⟩
    have HB := Lib.hid (HB.out.trans (hb.mono HB.out.size))
    clear hb
    go_wp2
    go_ret
    exact ⟨rfl, HB.out⟩
  have l1 : ¬ (100 : Int) < (n.size : Int) := by omega
  have l2 : ¬ (2000 : Int) < (s.size : Int) := by omega
  have HN : Hid (n.size ≤ 281474976710656) := Lib.hid (by omega)
  have HD : Hid (Calls Tryd.prog 9 #[ptr a, nV (-5), .string n, .string s] w1 fun e w' => e = .returned (nV 0) ∧ ApR w.heap.size w' a 0 n s ∧ Fr w.heap.size w1 w') := Lib.hid (by
    refine (lb_def HL.out (by omega) (-5) i95 n s (by omega) (by omega)).mono ?_
    rintro e w' ⟨rfl, hl, hf⟩
    have e1 : defA (-5) n s S0 = 0 := by unfold defA; rw [if_neg h2, if_neg (by rintro ⟨e, _⟩; cases e)]
    have e2 : defS (-5) n s S0 = ⟨[(-5, n, s)], [], []⟩ := by unfold defS; rw [if_neg h2, if_neg (by rintro ⟨e, _⟩; cases e)]; rfl
    rw [e1]
    rw [e2] at hl
    refine ⟨rfl, ⟨1, _, hl, by omega, Nat.le_refl _, ?_, ?_⟩, hf⟩
    · unfold fnd; simp [hitE]
    · unfold ofE; simp)
  clear h1 h2 HL
  go_wp2_with fail
  refine HD.out.mono ?_
  rintro e w2 ⟨rfl, hr, hf⟩
  have HR := Lib.hid hr
  have HB := Lib.hid (HB.out.trans hf.1)
  clear hr hf HD
  go_wp2
  go_loopg [9] (min l.length 40) (fun gk u9 wx => ∃ i : Nat, u9 = .int .i64 (i : Int) ∧ i + gk = min l.length 40 ∧ Hid (ApR w.heap.size wx a i n s) ∧ Hid (Below w.heap.size w wx))
  case atStart => exact ⟨0, rfl, by omega, HR, HB⟩
  case round =>
    obtain ⟨i, rfl, hi, HR, HB⟩ := hrel
    cases gk with
    | zero =>
      by_cases hlt : i < l.length
      · have l3 : (i : Int) < (l.length : Int) := by omega
        have l4 : ¬ ((i : Int) < 40) := by omega
        clear hi hlt
        obtain ⟨N, S, h1, h2, h3, h4, h5⟩ := HR.out
        have HC := Lib.hid (lb_find h1 (-5) i95 n HN.out)
        rw [h4] at HC
        have HE := Lib.hid (fun W hb => lb_leave (h1.below (w' := W) hb) (-5) i95)
        rw [h5] at HE
        clear h1 h2 h3 h4 h5
        go_wp2_with fail
        refine HC.out.mono ?_
        rintro e w6 ⟨rfl, hb⟩
        have HC6 := Lib.hid (HE.out _ hb)
        have HB := Lib.hid (HB.out.trans (hb.mono HB.out.size))
        clear hb HC HE
        go_wp2_with fail
        refine HC6.out.mono ?_
        rintro e w7 ⟨rfl, hl, hf⟩
        have HB := Lib.hid (HB.out.trans hf.1)
        clear hl hf HC6
        go_wp2_with fail
        refine (known_any _).mono ?_
        rintro e wz ⟨rfl, hb⟩
        have HB := Lib.hid (HB.out.trans (hb.mono HB.out.size))
        clear hb
        go_wp2
        go_ret
        exact ⟨rfl, HB.out⟩
      · have l3 : ¬ ((i : Int) < (l.length : Int)) := by omega
        clear hi hlt
        obtain ⟨N, S, h1, h2, h3, h4, h5⟩ := HR.out
        have HC := Lib.hid (lb_find h1 (-5) i95 n HN.out)
        rw [h4] at HC
        have HE := Lib.hid (fun W hb => lb_leave (h1.below (w' := W) hb) (-5) i95)
        rw [h5] at HE
        clear h1 h2 h3 h4 h5
        go_wp2_with fail
        refine HC.out.mono ?_
        rintro e w6 ⟨rfl, hb⟩
        have HC6 := Lib.hid (HE.out _ hb)
        have HB := Lib.hid (HB.out.trans (hb.mono HB.out.size))
        clear hb HC HE
        go_wp2_with fail
        refine HC6.out.mono ?_
        rintro e w7 ⟨rfl, hl, hf⟩
        have HB := Lib.hid (HB.out.trans hf.1)
        clear hl hf HC6
        go_wp2_with fail
        refine (known_any _).mono ?_
        rintro e wz ⟨rfl, hb⟩
        have HB := Lib.hid (HB.out.trans (hb.mono HB.out.size))
        clear hb
        go_wp2
        go_ret
        exact ⟨rfl, HB.out⟩
    | succ gk1 =>
      have hlt : i < l.length := by omega
      have l0 : (0 : Int) ≤ (i : Int) := by omega
      have l1 : (i : Int) < (l.length : Int) := by omega
      have l2 : (i : Int) < 40 := by omega
      obtain ⟨i1, hi1⟩ : ∃ i1, i + 1 = i1 := ⟨_, rfl⟩
      have wk : IntKind.i64.wrap ((i : Int) + 1) = (i1 : Int) := by rw [show (i : Int) + 1 = (i1 : Int) by omega]; exact IntWalk.i64_in _ (by omega)
      have HI1 : Hid (i1 + gk1 = min l.length 40) := Lib.hid (by omega)
      have HI1E : Hid (i + 1 = i1) := Lib.hid hi1
      have HI60 : Hid (i ≤ 39) := Lib.hid (by omega)
      obtain ⟨bb, off, cap, he, hcp, hx⟩ := (HV.out.below HB.out).inv (by omega)
      injection he with e1 _ e3
      subst e1 e3
      obtain ⟨op, hop⟩ : ∃ o, l[i] = o := ⟨_, rfl⟩
      have hyi : l[i]? = some op := by rw [List.getElem?_eq_getElem hlt, hop]
      obtain ⟨hob, hxx⟩ := hx i op hyi
      obtain ⟨kd, id, gr, tx⟩ := op
      have HOB : Hid (I9 id) := Lib.hid hob
      have x0 := hxx 0 _ rfl
      have x1 := hxx 1 _ rfl
      have x2 := hxx 2 _ rfl
      have x3 := hxx 3 _ rfl
      rw [Nat.add_zero] at x0
      obtain ⟨W0, hW0⟩ : ∃ W, wr.alloc (.cells #[nV kd, nV id, .string gr, .string tx] 32) = W := ⟨_, rfl⟩
      obtain ⟨cb, hcb⟩ : ∃ b, wr.heap.size = b := ⟨_, rfl⟩
      have HBN : Hid (Below wr.heap.size wr W0) := Lib.hid (by rw [← hW0]; exact (Below.refl _ _).alloc (Nat.le_refl _) _)
      have HK : Hid (Bk W0 cb 32 #[nV kd, nV id, .string gr, .string tx]) := Lib.hid (by rw [← hW0, ← hcb]; exact Bk.new _ _ _)
      have HR := Lib.hid (HR.out.below HBN.out)
      have HB := Lib.hid (HB.out.trans (HBN.out.mono HB.out.size))
      clear HBN hi hi1 hlt hcp hx hop hyi hob hxx
      have k0 := HK.out
      have q0 := k0.cell 0
      have qf0 := k0.frozen 0
      have q1 := k0.cell 1
      have qf1 := k0.frozen 1
      have q2 := k0.cell 2
      have qf2 := k0.frozen 2
      have q3 := k0.cell 3
      have qf3 := k0.frozen 3
      simp at q0 q1 q2 q3
      clear k0
      by_cases h5 : id = -5
      · subst h5
        have HR := Lib.hid (HI1E.out ▸ HR.out.up)
        go_wp2_with fail
        try rw [hW0]
        try rw [hcb]
        go_roundg gk1
        case measure => exact Nat.lt_succ_self _
        case rel => exact ⟨i1, rfl, HI1.out, HR, HB⟩
      have HNE : Hid (id ≠ -5) := Lib.hid h5
      by_cases hg : 100 < gr.size
      · have l5 : (100 : Int) < (gr.size : Int) := by omega
        clear hg
        have HR := Lib.hid (HI1E.out ▸ HR.out.up)
        go_wp2_with fail
        try rw [hW0]
        try rw [hcb]
        go_roundg gk1
        case measure => exact Nat.lt_succ_self _
        case rel => exact ⟨i1, rfl, HI1.out, HR, HB⟩
      have l5 : ¬ (100 : Int) < (gr.size : Int) := by omega
      have HGR : Hid (gr.size ≤ 281474976710656) := Lib.hid (by omega)
      clear hg
      by_cases hg : 2100 < tx.size
      · have l6 : (2100 : Int) < (tx.size : Int) := by omega
        clear hg
        have HR := Lib.hid (HI1E.out ▸ HR.out.up)
        go_wp2_with fail
        try rw [hW0]
        try rw [hcb]
        go_roundg gk1
        case measure => exact Nat.lt_succ_self _
        case rel => exact ⟨i1, rfl, HI1.out, HR, HB⟩
      have l6 : ¬ (2100 : Int) < (tx.size : Int) := by omega
      have HTX : Hid (tx.size ≤ 281474976710656) := Lib.hid (by omega)
      clear hg
      by_cases e0 : kd = 0
      · subst e0
        have HC : Hid (Calls Tryd.prog 9 #[ptr a, nV id, .string gr, .string tx] W0 (ApP w.heap.size W0 a (i + 1) n s)) := Lib.hid (ap_def HR.out (by have := HI60.out; omega) id HOB.out HNE.out gr tx HGR.out HTX.out)
        go_wp2_with fail
        try rw [hW0]
        try rw [hcb]
        refine HC.out.mono ?_
        rintro e w5 ⟨r5, rfl, hr, hf⟩
        have HR := Lib.hid (HI1E.out ▸ hr)
        have HB := Lib.hid (HB.out.trans hf.1)
        clear hr hf HC
        go_wp2
        go_roundg gk1
        case measure => exact Nat.lt_succ_self _
        case rel => exact ⟨i1, rfl, HI1.out, HR, HB⟩
      · by_cases e1 : kd = 1
        · subst e1
          have HC : Hid (Calls Tryd.prog 11 #[ptr a, nV id, .string gr] W0 (ApP w.heap.size W0 a (i + 1) n s)) := Lib.hid (ap_cls HR.out (by have := HI60.out; omega) id HOB.out HNE.out gr HGR.out)
          go_wp2_with fail
          try rw [hW0]
          try rw [hcb]
          refine HC.out.mono ?_
          rintro e w5 ⟨r5, rfl, hr, hf⟩
          have HR := Lib.hid (HI1E.out ▸ hr)
          have HB := Lib.hid (HB.out.trans hf.1)
          clear hr hf HC
          go_wp2
          go_roundg gk1
          case measure => exact Nat.lt_succ_self _
          case rel => exact ⟨i1, rfl, HI1.out, HR, HB⟩
        · by_cases e2 : kd = 2
          · subst e2
            have HC : Hid (Calls Tryd.prog 13 #[ptr a, nV id] W0 (ApP w.heap.size W0 a (i + 1) n s)) := Lib.hid (ap_lea HR.out id HOB.out HNE.out)
            go_wp2_with fail
            try rw [hW0]
            try rw [hcb]
            refine HC.out.mono ?_
            rintro e w5 ⟨r5, rfl, hr, hf⟩
            have HR := Lib.hid (HI1E.out ▸ hr)
            have HB := Lib.hid (HB.out.trans hf.1)
            clear hr hf HC
            go_wp2
            go_roundg gk1
            case measure => exact Nat.lt_succ_self _
            case rel => exact ⟨i1, rfl, HI1.out, HR, HB⟩
          · by_cases e3 : kd = 3
            · subst e3
              have HC : Hid (Calls Tryd.prog 15 #[ptr a, nV id, .string tx] W0 (ApP w.heap.size W0 a (i + 1) n s)) := Lib.hid (ap_nee HR.out (by have := HI60.out; omega) id HOB.out tx HTX.out)
              go_wp2_with fail
              try rw [hW0]
              try rw [hcb]
              refine HC.out.mono ?_
              rintro e w5 ⟨r5, rfl, hr, hf⟩
              have HR := Lib.hid (HI1E.out ▸ hr)
              have HB := Lib.hid (HB.out.trans hf.1)
              clear hr hf HC
              go_wp2
              go_roundg gk1
              case measure => exact Nat.lt_succ_self _
              case rel => exact ⟨i1, rfl, HI1.out, HR, HB⟩
            · by_cases e4 : kd = 4
              · subst e4
                have HC : Hid (Calls Tryd.prog 17 #[ptr a, nV id] W0 (ApP w.heap.size W0 a (i + 1) n s)) := Lib.hid (ap_for HR.out id HOB.out)
                go_wp2_with fail
                try rw [hW0]
                try rw [hcb]
                refine HC.out.mono ?_
                rintro e w5 ⟨r5, rfl, hr, hf⟩
                have HR := Lib.hid (HI1E.out ▸ hr)
                have HB := Lib.hid (HB.out.trans hf.1)
                clear hr hf HC
                go_wp2
                go_roundg gk1
                case measure => exact Nat.lt_succ_self _
                case rel => exact ⟨i1, rfl, HI1.out, HR, HB⟩
              · have HR := Lib.hid (HI1E.out ▸ HR.out.up)
                go_wp2_with fail
                try rw [hW0]
                try rw [hcb]
                go_roundg gk1
                case measure => exact Nat.lt_succ_self _
                case rel => exact ⟨i1, rfl, HI1.out, HR, HB⟩
theorem apart_law (n s : ByteArray) (v : Value) (w : World) (hn : n.size ≤ 140737488351232) (hs : s.size ≤ 140737488351232) (hf : FitsOp w v) :
    Calls Tryd.prog 5 #[.string n, .string s, v] w fun e w' => e = .returned (.bool true) ∧ Below w.heap.size w w' := by
  obtain ⟨l, hl⟩ := hf
  exact apart_any n s v l w hl
end Go.Proofs.YtkifmhdceobfhaaDoor.PP
