/- CacheFresh's walk. No condition. -/
import Derived.Test.YtjngangojgjceaaG21
set_option linter.unusedSimpArgs false
set_option linter.unusedVariables false
namespace Go.Proofs.Ytjngangojgjceaa.CA
open Go.ChangeShapes Go.WideShapes Go.ChangeAt Go.RowKit Go.Maps Go.ChangeMaps
open Go.Proofs.Ytjngangojgjceaa.SL Go.Proofs.Ytjngangojgjceaa.EX Go.Proofs.Ytjngangojgjceaa.RW
set_option maxRecDepth 100000
set_option linter.unusedVariables false
set_option linter.unusedSimpArgs false

def OC0 (w : World) (b : Nat) (o : Opc) : Prop := w.cell? ⟨b, 0, none⟩ = some (.int .i64 o.1) ∧ w.cell? ⟨b, 1, none⟩ = some (.string o.2.1.1) ∧ w.cell? ⟨b, 2, none⟩ = some (.string o.2.1.2.1) ∧ w.cell? ⟨b, 3, none⟩ = some (.int .i64 o.2.1.2.2.1) ∧ w.cell? ⟨b, 4, none⟩ = some (.string o.2.1.2.2.2) ∧ w.cell? ⟨b, 5, none⟩ = some (.string o.2.2.1) ∧ w.cell? ⟨b, 6, none⟩ = some (.int .i64 o.2.2.2)
def OCj (w : World) (b j : Nat) (o : Opc) : Prop := w.cell? ⟨b, j * 7, none⟩ = some (.int .i64 o.1) ∧ w.cell? ⟨b, j * 7 + 1, none⟩ = some (.string o.2.1.1) ∧ w.cell? ⟨b, j * 7 + 2, none⟩ = some (.string o.2.1.2.1) ∧ w.cell? ⟨b, j * 7 + 3, none⟩ = some (.int .i64 o.2.1.2.2.1) ∧ w.cell? ⟨b, j * 7 + 4, none⟩ = some (.string o.2.1.2.2.2) ∧ w.cell? ⟨b, j * 7 + 5, none⟩ = some (.string o.2.2.1) ∧ w.cell? ⟨b, j * 7 + 6, none⟩ = some (.int .i64 o.2.2.2)
theorem OC0.below {w w' : World} {b : Nat} {o : Opc} (h : OC0 w b o) (hb : Below w.heap.size w w') : OC0 w' b o := by
  obtain ⟨h0, h1, h2, h3, h4, h5, h6⟩ := h
  have hl := World.block_lt_of_cell? _ _ h0
  exact ⟨(hb.cell (p := ⟨b, 0, none⟩) hl).trans h0, (hb.cell (p := ⟨b, 1, none⟩) hl).trans h1, (hb.cell (p := ⟨b, 2, none⟩) hl).trans h2, (hb.cell (p := ⟨b, 3, none⟩) hl).trans h3, (hb.cell (p := ⟨b, 4, none⟩) hl).trans h4, (hb.cell (p := ⟨b, 5, none⟩) hl).trans h5, (hb.cell (p := ⟨b, 6, none⟩) hl).trans h6⟩
theorem OCj.below {w w' : World} {b j : Nat} {o : Opc} (h : OCj w b j o) (hb : Below w.heap.size w w') : OCj w' b j o := by
  obtain ⟨h0, h1, h2, h3, h4, h5, h6⟩ := h
  have hl := World.block_lt_of_cell? _ _ h0
  exact ⟨(hb.cell (p := ⟨b, j * 7, none⟩) hl).trans h0, (hb.cell (p := ⟨b, j * 7 + 1, none⟩) hl).trans h1, (hb.cell (p := ⟨b, j * 7 + 2, none⟩) hl).trans h2, (hb.cell (p := ⟨b, j * 7 + 3, none⟩) hl).trans h3, (hb.cell (p := ⟨b, j * 7 + 4, none⟩) hl).trans h4, (hb.cell (p := ⟨b, j * 7 + 5, none⟩) hl).trans h5, (hb.cell (p := ⟨b, j * 7 + 6, none⟩) hl).trans h6⟩
theorem OC0.of {w : World} {b : Nat} {o : Opc} (h : Bk w b 43 (opcC o).toArray) : OC0 w b o := ⟨h.cell 0, h.cell 1, h.cell 2, h.cell 3, h.cell 4, h.cell 5, h.cell 6⟩
theorem okAt_none (k : Ky) (now ttl : Int) (l : List Opc) : okAt k now ttl none l = true := rfl
theorem okAt_of {k : Ky} {now ttl : Int} {r : Option ByteArray} {l l' : List Opc} (h : lastO k l = lastO k l') : okAt k now ttl r l = okAt k now ttl r l' := by unfold okAt; rw [h]
theorem okAt_no {k : Ky} {now ttl : Int} {r : Option ByteArray} {l : List Opc} {j : Nat} {p : Opc} (h : l[j]? = some p) (he : eqK p.2.1 k = false) : okAt k now ttl r (l.take (j + 1)) = okAt k now ttl r (l.take j) :=
  okAt_of (by rw [List.take_add_one, h]; exact (lastO_put _ _ _).trans (if_neg (by rw [he]; decide)))
theorem okAt_yes {k : Ky} {now ttl : Int} {v : ByteArray} {l : List Opc} {j : Nat} {p : Opc} (h : l[j]? = some p) (he : eqK p.2.1 k = true) : okAt k now ttl (some v) (l.take (j + 1)) = ((p.2.2.1.toList == v.toList) && decide (now < p.2.2.2 + ttl)) := by
  have h1 : lastO k (l.take (j + 1)) = some p := by rw [List.take_add_one, h]; exact (lastO_put _ _ _).trans (if_pos he)
  unfold okAt; rw [h1]
theorem okAt_full {ttl ke : Int} {l : List Opc} {s : Sg} (h : Hist ttl l s) (hn : (keysI s.I).Nodup) {k : Ky} {now : Int} {r : Option ByteArray} {s' : Sg} (hg : getR ke k now s = (r, s')) : okAt k now ttl r l = true := by
  cases r with
  | none => rfl
  | some v =>
    obtain ⟨o, h1, h2, h3⟩ := h.got hn hg
    unfold okAt
    rw [h1]
    simp only
    rw [h2, decide_eq_true h3]
    simp
theorem put_fresh {C : Cb} {s : Sg} {H : List Opc} (hi : InvS C.al C.ke s) (hH : Hist C.ttl H s) (hr : ∀ p ∈ H, 0 ≤ p.2.2.2 ∧ p.2.2.2 ≤ 549755813888) (o : Opc) :
    (∃ G s', putR C.al C.mo C.ttl o.2.1 o.2.2.1 o.2.2.2 s = ((0, G), s') ∧ Hist C.ttl (H ++ [o]) s' ∧ ∀ p ∈ H ++ [o], 0 ≤ p.2.2.2 ∧ p.2.2.2 ≤ 549755813888) ∨
    ∃ c : Int, c ≠ 0 ∧ putR C.al C.mo C.ttl o.2.1 o.2.2.1 o.2.2.2 s = ((c, []), s) := by
  unfold putR
  by_cases hp : putOk o.2.1 o.2.2.2
  · rw [if_pos hp]
    by_cases hm : szK o.2.1 o.2.2.1 ≤ C.mo
    · rw [if_pos hm]
      refine .inl ⟨_, _, rfl, hH.put o C.al _ hp.1, fun p hpp => ?_⟩
      rcases List.mem_append.1 hpp with h | h
      · exact hr p h
      · rw [List.mem_singleton.1 h]; exact hp.2
    · rw [if_neg hm]
      exact .inr ⟨2, by decide, rfl⟩
  · rw [if_neg hp]
    exact .inr ⟨1, by decide, rfl⟩
set_option maxHeartbeats 32000000 in
theorem fresh_any (a0 a1 : Int) (v2 : Value) (w : World) (w0 : (Lit.int .u8 a0).wf = true) (w1 : (Lit.int .u8 a1).wf = true) (f2 : FitsP w v2) :
    Calls Try.prog 4 #[.int .u8 a0, .int .u8 a1, v2] w fun e w' => e = .returned (.bool true) ∧ Below w.heap.size w w' := by
  have r0 := SL.wf8 _ w0
  have r1 := SL.wf8 _ w1
  obtain ⟨l, hl⟩ := f2
  obtain ⟨va, vc, rfl⟩ := hl.form
  have c0 : IntKind.i64.wrap a0 = a0 := IntWalk.i64_in _ (by omega)
  have c1 : IntKind.i64.wrap a1 = a1 := IntWalk.i64_in _ (by omega)
  have cA : IntKind.i64.wrap (40 + a0) = 40 + a0 := IntWalk.i64_in _ (by omega)
  have cT : IntKind.i64.wrap (1 + a1) = 1 + a1 := IntWalk.i64_in _ (by omega)
  have HNEW := Lib.hid (CA.new_yes w w (Below.refl _ _) (40 + a0) 20 40 (1 + a1) ⟨⟨by omega, by omega, by decide, by omega, by decide, by omega⟩, by omega, by omega⟩)
  have HL := Lib.hid hl
  have HR0 := Lib.hid r0
  have HR1 := Lib.hid r1
  clear hl r0 r1 w0 w1
  go_enter Try.func4, Try.ntmps4
  go_wp2_with fail
  refine HNEW.out.mono ?_
  rintro e w2 ⟨C, rfl, q1, q2, q3, q4, hh, _⟩
  have hC : okD C := by
    have := HR0.out
    have := HR1.out
    unfold okD okC okB
    rw [q1, q2, q3, q4]
    refine ⟨⟨?_, ?_, ?_, ?_, ?_, ?_⟩, ?_, ?_⟩ <;> omega
  have HC := Lib.hid hC
  have HQ : Hid (C.al = 40 + a0 ∧ C.ke = 20 ∧ C.mo = 40 ∧ C.ttl = 1 + a1) := Lib.hid ⟨q1, q2, q3, q4⟩
  have H := Lib.hid hh.histNil
  have HI := Lib.hid (show InvS C.al C.ke emS from InvS.nil ⟨by rw [q2]; decide, by have := HR0.out; omega⟩)
  clear hh HNEW q1 q2 q3 q4 hC
  go_wp2
  go_loopg [9, 10] (min l.length 50) (fun gk u9 u10 wx => ∃ (i n : Nat) (σ : Sg) (H : List Opc), u10 = .int .i64 (i : Int) ∧ i + gk = min l.length 50 ∧ n ≤ 3 * i ∧ H.length ≤ i ∧ (∀ p ∈ H, 0 ≤ p.2.2.2 ∧ p.2.2.2 ≤ 549755813888) ∧ InvS C.al C.ke σ ∧ Hist C.ttl H σ ∧ LC w wx C n σ [Kh w.heap.size u9 H])
  case atStart => exact ⟨0, 0, emS, [], rfl, by omega, by omega, by simp, (fun x hx => by cases hx), HI.out, Hist.nil _ _ rfl, H.out⟩
  case round =>
    obtain ⟨i, n, σ, Hs, rfl, hi, hn, hlen, hrg, hinv, hhi, hS⟩ := hrel
    obtain ⟨ua, uc, rfl⟩ := (LC.hist hS).form
    have H := Lib.hid hS
    have HI := Lib.hid hinv
    have HH := Lib.hid hhi
    have HRG := Lib.hid hrg
    cases gk with
    | zero =>
      by_cases hlt : i < l.length
      · have l1 : (i : Int) < (l.length : Int) := by omega
        have l2 : ¬ ((i : Int) < 50) := by omega
        clear hi hn hlen hrg hinv hhi hS hlt
        go_wp2_with fail
        refine (CA.known_any _).mono ?_
        rintro e wk ⟨rfl, hk⟩
        have HK := Lib.hid hk
        clear hk
        go_wp2
        go_ret
        exact ⟨rfl, H.out.bel.trans (HK.out.mono H.out.bel.size)⟩
      · have l1 : ¬ ((i : Int) < (l.length : Int)) := by omega
        clear hi hn hlen hrg hinv hhi hS hlt
        go_wp2_with fail
        refine (CA.known_any _).mono ?_
        rintro e wk ⟨rfl, hk⟩
        have HK := Lib.hid hk
        clear hk
        go_wp2
        go_ret
        exact ⟨rfl, H.out.bel.trans (HK.out.mono H.out.bel.size)⟩
    | succ g =>
      have hlt : i < l.length := by omega
      have l0 : (0 : Int) ≤ (i : Int) := by omega
      have l1 : (i : Int) < (l.length : Int) := by omega
      have l2 : (i : Int) < 50 := by omega
      obtain ⟨i1, hi1⟩ : ∃ i1, i + 1 = i1 := ⟨_, rfl⟩
      have wk : IntKind.i64.wrap ((i : Int) + 1) = (i1 : Int) := by rw [show (i : Int) + 1 = (i1 : Int) by omega]; exact IntWalk.i64_in _ (by omega)
      have HI1 : Hid (i1 + g = min l.length 50 ∧ n + 3 ≤ 3 * i1 ∧ Hs.length + 1 ≤ i1 ∧ i1 ≤ 50) := Lib.hid (by omega)
      obtain ⟨b, off, cap, he, hcp, hx⟩ := (HL.out.below hS.bel).inv (by omega)
      injection he with e1 _ e3
      subst e1 e3
      obtain ⟨o, ho⟩ : ∃ o, l[i] = o := ⟨_, rfl⟩
      have hyi : l[i]? = some o := by rw [List.getElem?_eq_getElem hlt, ho]
      obtain ⟨hob, hxx⟩ := hx i o hyi
      obtain ⟨kd, k, val, now⟩ := o
      obtain ⟨hb1, hbk, hb3, hb4⟩ := hob
      have HSH := Lib.hid (fun W => short_any k hbk W)
      have hsh := fun h => kyB.sh hbk h
      obtain ⟨o1, o2, o3, o4⟩ := k
      have x0 := hxx 0 _ rfl
      have x1 := hxx 1 _ rfl
      have x2 := hxx 2 _ rfl
      have x3 := hxx 3 _ rfl
      have x4 := hxx 4 _ rfl
      have x5 := hxx 5 _ rfl
      have x6 := hxx 6 _ rfl
      rw [Nat.add_zero] at x0
      obtain ⟨W7, hW7⟩ : ∃ W, wr.alloc (.cells #[.int .i64 kd, .string o1, .string o2, .int .i64 o3, .string o4, .string val, .int .i64 now] 43) = W := ⟨_, rfl⟩
      obtain ⟨ob, hob⟩ : ∃ b, wr.heap.size = b := ⟨_, rfl⟩
      have hb7 : Below wr.heap.size wr W7 := by rw [← hW7]; exact (Below.refl _ _).alloc (Nat.le_refl _) _
      have k7 : Bk W7 ob 43 #[.int .i64 kd, .string o1, .string o2, .int .i64 o3, .string o4, .string val, .int .i64 now] := by rw [← hW7, ← hob]; exact Bk.new _ _ _
      have hnob : ∀ q, (Value.slice ua Hs.length uc).ownBlock = some q → ob ≠ q := fun q hq => by have := (World.ownsRow.lt (LC.hist hS) q hq).2; omega
      have H := Lib.hid (H.out.blkO hb7 (Nat.le_of_eq hob) k7)
      have HNB := Lib.hid hnob
      clear hi hn hlen hrg hinv hhi hS hlt hi1 hcp hx ho hyi hxx hb1 hbk hb3 hb4 hb7 k7 hnob
      cases sa : shK (o1, o2, o3, o4) with
      | false =>
        rw [sa] at HSH
        clear hsh sa
        have kk := H.out.blk (List.mem_cons_self ..)
        have y0 : W7.cell? ⟨ob, 0, none⟩ = some (.int .i64 kd) := kk.cell 0
        have y1 : W7.cell? ⟨ob, 1, none⟩ = some (.string o1) := kk.cell 1
        have y2 : W7.cell? ⟨ob, 2, none⟩ = some (.string o2) := kk.cell 2
        have y3 : W7.cell? ⟨ob, 3, none⟩ = some (.int .i64 o3) := kk.cell 3
        have y4 : W7.cell? ⟨ob, 4, none⟩ = some (.string o4) := kk.cell 4
        have y5 : W7.cell? ⟨ob, 5, none⟩ = some (.string val) := kk.cell 5
        have y6 : W7.cell? ⟨ob, 6, none⟩ = some (.int .i64 now) := kk.cell 6
        clear kk
        go_wp2_with fail
        try rw [hW7]
        try rw [hob]
        refine (HSH.out _).mono ?_
        rintro e w3 ⟨rfl, hb3⟩
        have H := Lib.hid (H.out.below hb3)
        clear hb3 hW7 hob HSH
        clear x0 x1 x2 x3 x4 x5 x6
        clear y0 y1 y2 y3 y4 y5 y6
        have kk := H.out.blk (List.mem_cons_self ..)
        have y0 : w3.cell? ⟨ob, 0, none⟩ = some (.int .i64 kd) := kk.cell 0
        have y1 : w3.cell? ⟨ob, 1, none⟩ = some (.string o1) := kk.cell 1
        have y2 : w3.cell? ⟨ob, 2, none⟩ = some (.string o2) := kk.cell 2
        have y3 : w3.cell? ⟨ob, 3, none⟩ = some (.int .i64 o3) := kk.cell 3
        have y4 : w3.cell? ⟨ob, 4, none⟩ = some (.string o4) := kk.cell 4
        have y5 : w3.cell? ⟨ob, 5, none⟩ = some (.string val) := kk.cell 5
        have y6 : w3.cell? ⟨ob, 6, none⟩ = some (.int .i64 now) := kk.cell 6
        clear kk
        go_wp2
        go_roundg g
        case measure => exact Nat.lt_succ_self _
        case rel => exact ⟨i1, n, σ, Hs, rfl, HI1.out.1, by have := HI1.out; omega, by have := HI1.out; omega, HRG.out, HI.out, HH.out, H.out.forget (O' := [Kh w.heap.size (.slice ua Hs.length uc) Hs]) fun p hp => List.mem_cons_of_mem _ hp⟩
      | true =>
        rw [sa] at HSH
        have hsk := hsh sa
        have HSK := Lib.hid hsk
        have HFK := Lib.hid hsk.fit
        clear hsh sa hsk
        by_cases hv : val.size ≤ 500
        · have v5 : ¬ ((500 : Int) < (val.size : Int)) := by omega
          have HV : Hid (val.size ≤ 1099511627776) := Lib.hid (by omega)
          clear hv
          by_cases k0 : kd = 0
          · subst k0
            rcases put_fresh HI.out HH.out HRG.out ((0 : Int), (o1, o2, o3, o4), val, now) with ⟨G, s', hR, hh', hr'⟩ | ⟨c, hc, hR⟩
            · have hinv' : InvS C.al C.ke s' := by
                have hf := H.out.facts
                have := putR_inv HI.out HC.out.1.2.2.2.2.2 hf.1 hf.2.1 hf.2.2.1 (o1, o2, o3, o4) HSK.out val now (mo := C.mo) (ttl := C.ttl)
                have hR2 : putR C.al C.mo C.ttl (o1, o2, o3, o4) val now σ = ((0, G), s') := hR
                rw [hR2] at this; exact this
              have HR := Lib.hid hR
              have HI' := Lib.hid hinv'
              have HH' := Lib.hid hh'
              have HRG' := Lib.hid hr'
              clear hR hinv' hh' hr'
              have kk := H.out.blk (List.mem_cons_self ..)
              have y0 : W7.cell? ⟨ob, 0, none⟩ = some (.int .i64 0) := kk.cell 0
              have y1 : W7.cell? ⟨ob, 1, none⟩ = some (.string o1) := kk.cell 1
              have y2 : W7.cell? ⟨ob, 2, none⟩ = some (.string o2) := kk.cell 2
              have y3 : W7.cell? ⟨ob, 3, none⟩ = some (.int .i64 o3) := kk.cell 3
              have y4 : W7.cell? ⟨ob, 4, none⟩ = some (.string o4) := kk.cell 4
              have y5 : W7.cell? ⟨ob, 5, none⟩ = some (.string val) := kk.cell 5
              have y6 : W7.cell? ⟨ob, 6, none⟩ = some (.int .i64 now) := kk.cell 6
              clear kk
              go_wp2_with fail
              try rw [hW7]
              try rw [hob]
              refine (HSH.out _).mono ?_
              rintro e w3 ⟨rfl, hb3⟩
              have H := Lib.hid (H.out.below hb3)
              clear hb3 hW7 hob HSH
              clear x0 x1 x2 x3 x4 x5 x6
              clear y0 y1 y2 y3 y4 y5 y6
              have kk := H.out.blk (List.mem_cons_self ..)
              have y0 : w3.cell? ⟨ob, 0, none⟩ = some (.int .i64 0) := kk.cell 0
              have y1 : w3.cell? ⟨ob, 1, none⟩ = some (.string o1) := kk.cell 1
              have y2 : w3.cell? ⟨ob, 2, none⟩ = some (.string o2) := kk.cell 2
              have y3 : w3.cell? ⟨ob, 3, none⟩ = some (.int .i64 o3) := kk.cell 3
              have y4 : w3.cell? ⟨ob, 4, none⟩ = some (.string o4) := kk.cell 4
              have y5 : w3.cell? ⟨ob, 5, none⟩ = some (.string val) := kk.cell 5
              have y6 : w3.cell? ⟨ob, 6, none⟩ = some (.int .i64 now) := kk.cell 6
              clear kk
              go_wp2_with fail
              refine (lc_put H.out HI.out HC.out (o1, o2, o3, o4) HSK.out val HV.out (by have := HI1.out; omega) now _ HR.out).mono ?_
              rintro e w5 ⟨pa, pc, rfl, h5⟩
              have H := Lib.hid (h5.forget (O' := [.blk ob 43 #[.int .i64 0, .string o1, .string o2, .int .i64 o3, .string o4, .string val, .int .i64 now], Kh w.heap.size (.slice ua Hs.length uc) Hs]) fun p hp => List.mem_cons_of_mem _ hp)
              clear h5
              clear y0 y1 y2 y3 y4 y5 y6
              have kk := H.out.blk (List.mem_cons_self ..)
              have y0 : w5.cell? ⟨ob, 0, none⟩ = some (.int .i64 0) := kk.cell 0
              have y1 : w5.cell? ⟨ob, 1, none⟩ = some (.string o1) := kk.cell 1
              have y2 : w5.cell? ⟨ob, 2, none⟩ = some (.string o2) := kk.cell 2
              have y3 : w5.cell? ⟨ob, 3, none⟩ = some (.int .i64 o3) := kk.cell 3
              have y4 : w5.cell? ⟨ob, 4, none⟩ = some (.string o4) := kk.cell 4
              have y5 : w5.cell? ⟨ob, 5, none⟩ = some (.string val) := kk.cell 5
              have y6 : w5.cell? ⟨ob, 6, none⟩ = some (.int .i64 now) := kk.cell 6
              clear kk
              obtain ⟨W6, hW6⟩ : ∃ W, w5.alloc (.cells #[.int .i64 0, .string o1, .string o2, .int .i64 o3, .string o4, .string val, .int .i64 now] 43) = W := ⟨_, rfl⟩
              obtain ⟨nb, hnb⟩ : ∃ b, w5.heap.size = b := ⟨_, rfl⟩
              have hb6 : Below w5.heap.size w5 W6 := by rw [← hW6]; exact (Below.refl _ _).alloc (Nat.le_refl _) _
              have k6 : Bk W6 nb 43 #[.int .i64 0, .string o1, .string o2, .int .i64 o3, .string o4, .string val, .int .i64 now] := by rw [← hW6, ← hnb]; exact Bk.new _ _ _
              have H := Lib.hid (H.out.below hb6)
              have HN6 := Lib.hid k6
              have HB6 := Lib.hid (H.out.blk (List.mem_cons_self ..))
              have H := Lib.hid (H.out.forget (O' := [Kh w.heap.size (.slice ua Hs.length uc) Hs]) fun p hp => List.mem_cons_of_mem _ hp)
              clear hb6 k6
              go_wp2_with (at_builtin; (try rw [hW6]); (try rw [hnb]); refine wpList_app_op w.heap.size (.slice ua Hs.length uc) Hs ((0 : Int), (o1, o2, o3, o4), val, now) nb rfl _ _ rfl rfl (LC.hist H.out) rfl HN6.out (by have := HI1.out; omega) H.out.bel.size ?_; intro g9 cap9 w6 ho9 gr9 hn9; have y0 : w6.cell? ⟨ob, 0, none⟩ = some (.int .i64 0) := (EX.Bk.grown HB6.out gr9 HNB.out).cell 0)
              have H9 := Lib.hid (LC.growH H.out gr9 ho9 (fun b hb => by injection hb with hb; rw [← hb]; exact hn9.imp id fun e => Nat.le_of_eq e.symm) (H.out.bel.grown gr9 H.out.bel.size fun k hk => (World.ownsRow.lt (LC.hist H.out) k hk).1))
              have H := H9
              clear ho9 gr9 hn9 H9 HB6 HN6 hW6 hnb
              clear y0 y1 y2 y3 y4 y5 y6
              obtain ⟨z, hz⟩ : ∃ z, sumE (s').T + sumE (s').K = z := ⟨_, rfl⟩
              have lz : ¬ (40 + a0 < z) := by
                have h1 := (HI'.out).sa
                have h2 := HQ.out.1
                omega
              have HZ := Lib.hid hz
              clear hz
              refine (lc_bytes H.out z HZ.out).mono ?_
              rintro e w9 ⟨rfl, hb9⟩
              have H := Lib.hid (H.out.below hb9)
              clear hb9
              go_wp2
              go_roundg g
              case measure => exact Nat.lt_succ_self _
              case rel => exact ⟨i1, (n + 3), s', (Hs ++ [((0 : Int), (o1, o2, o3, o4), val, now)]), rfl, HI1.out.1, by have := HI1.out; omega, by rw [List.length_append]; exact HI1.out.2.2.1, HRG'.out, HI'.out, HH'.out, (by have h := H.out; rw [List.length_append] at h; exact h)⟩
            · have hc' : (c == 0) = false := by simpa using hc
              have HR := Lib.hid hR
              clear hR
              have kk := H.out.blk (List.mem_cons_self ..)
              have y0 : W7.cell? ⟨ob, 0, none⟩ = some (.int .i64 0) := kk.cell 0
              have y1 : W7.cell? ⟨ob, 1, none⟩ = some (.string o1) := kk.cell 1
              have y2 : W7.cell? ⟨ob, 2, none⟩ = some (.string o2) := kk.cell 2
              have y3 : W7.cell? ⟨ob, 3, none⟩ = some (.int .i64 o3) := kk.cell 3
              have y4 : W7.cell? ⟨ob, 4, none⟩ = some (.string o4) := kk.cell 4
              have y5 : W7.cell? ⟨ob, 5, none⟩ = some (.string val) := kk.cell 5
              have y6 : W7.cell? ⟨ob, 6, none⟩ = some (.int .i64 now) := kk.cell 6
              clear kk
              go_wp2_with fail
              try rw [hW7]
              try rw [hob]
              refine (HSH.out _).mono ?_
              rintro e w3 ⟨rfl, hb3⟩
              have H := Lib.hid (H.out.below hb3)
              clear hb3 hW7 hob HSH
              clear x0 x1 x2 x3 x4 x5 x6
              clear y0 y1 y2 y3 y4 y5 y6
              have kk := H.out.blk (List.mem_cons_self ..)
              have y0 : w3.cell? ⟨ob, 0, none⟩ = some (.int .i64 0) := kk.cell 0
              have y1 : w3.cell? ⟨ob, 1, none⟩ = some (.string o1) := kk.cell 1
              have y2 : w3.cell? ⟨ob, 2, none⟩ = some (.string o2) := kk.cell 2
              have y3 : w3.cell? ⟨ob, 3, none⟩ = some (.int .i64 o3) := kk.cell 3
              have y4 : w3.cell? ⟨ob, 4, none⟩ = some (.string o4) := kk.cell 4
              have y5 : w3.cell? ⟨ob, 5, none⟩ = some (.string val) := kk.cell 5
              have y6 : w3.cell? ⟨ob, 6, none⟩ = some (.int .i64 now) := kk.cell 6
              clear kk
              go_wp2_with fail
              refine (lc_put H.out HI.out HC.out (o1, o2, o3, o4) HSK.out val HV.out (by have := HI1.out; omega) now _ HR.out).mono ?_
              rintro e w5 ⟨pa, pc, rfl, h5⟩
              have H := Lib.hid (h5.forget (O' := [.blk ob 43 #[.int .i64 0, .string o1, .string o2, .int .i64 o3, .string o4, .string val, .int .i64 now], Kh w.heap.size (.slice ua Hs.length uc) Hs]) fun p hp => List.mem_cons_of_mem _ hp)
              clear h5
              clear y0 y1 y2 y3 y4 y5 y6
              have kk := H.out.blk (List.mem_cons_self ..)
              have y0 : w5.cell? ⟨ob, 0, none⟩ = some (.int .i64 0) := kk.cell 0
              have y1 : w5.cell? ⟨ob, 1, none⟩ = some (.string o1) := kk.cell 1
              have y2 : w5.cell? ⟨ob, 2, none⟩ = some (.string o2) := kk.cell 2
              have y3 : w5.cell? ⟨ob, 3, none⟩ = some (.int .i64 o3) := kk.cell 3
              have y4 : w5.cell? ⟨ob, 4, none⟩ = some (.string o4) := kk.cell 4
              have y5 : w5.cell? ⟨ob, 5, none⟩ = some (.string val) := kk.cell 5
              have y6 : w5.cell? ⟨ob, 6, none⟩ = some (.int .i64 now) := kk.cell 6
              clear kk
              have H := Lib.hid (H.out.forget (O' := [Kh w.heap.size (.slice ua Hs.length uc) Hs]) fun p hp => List.mem_cons_of_mem _ hp)
              obtain ⟨z, hz⟩ : ∃ z, sumE (σ).T + sumE (σ).K = z := ⟨_, rfl⟩
              have lz : ¬ (40 + a0 < z) := by
                have h1 := (HI.out).sa
                have h2 := HQ.out.1
                omega
              have HZ := Lib.hid hz
              clear hz
              go_wp2_with fail
              refine (lc_bytes H.out z HZ.out).mono ?_
              rintro e w9 ⟨rfl, hb9⟩
              have H := Lib.hid (H.out.below hb9)
              clear hb9
              go_wp2
              go_roundg g
              case measure => exact Nat.lt_succ_self _
              case rel => exact ⟨i1, (n + 3), σ, Hs, rfl, HI1.out.1, by have := HI1.out; omega, by have := HI1.out; omega, HRG.out, HI.out, HH.out, H.out⟩
          · by_cases k1 : kd = 1
            · subst k1
              clear k0
              obtain ⟨gr, s', hG⟩ : ∃ gr s', getR C.ke (o1, o2, o3, o4) now σ = (gr, s') := ⟨_, _, rfl⟩
              have hke : 0 ≤ C.ke := by rw [HQ.out.2.1]; decide
              have hf := H.out.facts
              have HF := Lib.hid (okAt_full HH.out hf.2.2.2.1 hG)
              have hi' := getR_inv HI.out hke hf.2.1 hf.2.2.1 (o1, o2, o3, o4) now
              have hh' := HH.out.get (ke := C.ke) (o1, o2, o3, o4) now
              rw [hG] at hi' hh'
              have HG := Lib.hid hG
              have HI' := Lib.hid hi'
              have HH' := Lib.hid hh'
              have HKE := Lib.hid hke
              clear hG hke hf hi' hh'
              cases gr with
              | none =>
                have kk := H.out.blk (List.mem_cons_self ..)
                have y0 : W7.cell? ⟨ob, 0, none⟩ = some (.int .i64 1) := kk.cell 0
                have y1 : W7.cell? ⟨ob, 1, none⟩ = some (.string o1) := kk.cell 1
                have y2 : W7.cell? ⟨ob, 2, none⟩ = some (.string o2) := kk.cell 2
                have y3 : W7.cell? ⟨ob, 3, none⟩ = some (.int .i64 o3) := kk.cell 3
                have y4 : W7.cell? ⟨ob, 4, none⟩ = some (.string o4) := kk.cell 4
                have y5 : W7.cell? ⟨ob, 5, none⟩ = some (.string val) := kk.cell 5
                have y6 : W7.cell? ⟨ob, 6, none⟩ = some (.int .i64 now) := kk.cell 6
                clear kk
                go_wp2_with fail
                try rw [hW7]
                try rw [hob]
                refine (HSH.out _).mono ?_
                rintro e w3 ⟨rfl, hb3⟩
                have H := Lib.hid (H.out.below hb3)
                clear hb3 hW7 hob HSH
                clear x0 x1 x2 x3 x4 x5 x6
                clear y0 y1 y2 y3 y4 y5 y6
                have kk := H.out.blk (List.mem_cons_self ..)
                have y0 : w3.cell? ⟨ob, 0, none⟩ = some (.int .i64 1) := kk.cell 0
                have y1 : w3.cell? ⟨ob, 1, none⟩ = some (.string o1) := kk.cell 1
                have y2 : w3.cell? ⟨ob, 2, none⟩ = some (.string o2) := kk.cell 2
                have y3 : w3.cell? ⟨ob, 3, none⟩ = some (.int .i64 o3) := kk.cell 3
                have y4 : w3.cell? ⟨ob, 4, none⟩ = some (.string o4) := kk.cell 4
                have y5 : w3.cell? ⟨ob, 5, none⟩ = some (.string val) := kk.cell 5
                have y6 : w3.cell? ⟨ob, 6, none⟩ = some (.int .i64 now) := kk.cell 6
                clear kk
                go_wp2_with fail
                refine (show Calls _ _ _ _ (RetC w C _ _ _ (.tuple #[.string ⟨#[]⟩, .bool false])) from lc_get H.out HI.out HKE.out (o1, o2, o3, o4) HFK.out (by have := HI1.out; omega) now _ HG.out).mono ?_
                rintro e w5 ⟨rfl, h5⟩
                have H := Lib.hid h5
                clear h5
                clear y0 y1 y2 y3 y4 y5 y6
                have kk := H.out.blk (List.mem_cons_self ..)
                have y0 : w5.cell? ⟨ob, 0, none⟩ = some (.int .i64 1) := kk.cell 0
                have y1 : w5.cell? ⟨ob, 1, none⟩ = some (.string o1) := kk.cell 1
                have y2 : w5.cell? ⟨ob, 2, none⟩ = some (.string o2) := kk.cell 2
                have y3 : w5.cell? ⟨ob, 3, none⟩ = some (.int .i64 o3) := kk.cell 3
                have y4 : w5.cell? ⟨ob, 4, none⟩ = some (.string o4) := kk.cell 4
                have y5 : w5.cell? ⟨ob, 5, none⟩ = some (.string val) := kk.cell 5
                have y6 : w5.cell? ⟨ob, 6, none⟩ = some (.int .i64 now) := kk.cell 6
                clear kk
                have HLW := Lib.hid (LC.hist (H.out.forget (O' := [Kh w.heap.size (.slice ua Hs.length uc) Hs]) fun p hp => List.mem_cons_of_mem _ hp))
                have HYO := Lib.hid (CA.OC0.of (o := (1, (o1, o2, o3, o4), val, now)) (H.out.blk (List.mem_cons_self ..)))
                clear y0 y1 y2 y3 y4 y5 y6
                go_wp2
                go_loopg [16, 17] Hs.length (fun gk u16 u17 wx => ∃ (j : Nat) (bo : Bool), u16 = .bool bo ∧ u17 = .int .i64 (j : Int) ∧ j + gk = Hs.length ∧ okAt (o1, o2, o3, o4) now C.ttl none (Hs.take j) = bo ∧ Below w5.heap.size w5 wx)
                case atStart => exact ⟨0, _, rfl, rfl, by omega, by rw [List.take_zero, okAt_nil]; rfl, Below.refl _ _⟩
                case round =>
                  obtain ⟨j, bo, rfl, rfl, hj, hok, hB⟩ := hrel
                  have HB := Lib.hid hB
                  cases gk with
                  | zero =>
                    have hjl : j = Hs.length := by omega
                    have hbo : bo = true := by rw [← hok, hjl, List.take_length]; exact HF.out
                    have l3 : ¬ ((j : Int) < (Hs.length : Int)) := by omega
                    subst hbo
                    have H := Lib.hid (H.out.below hB)
                    clear hj hok hB hjl HLW HYO
                    have H := Lib.hid (H.out.forget (O' := [Kh w.heap.size (.slice ua Hs.length uc) Hs]) fun p hp => List.mem_cons_of_mem _ hp)
                    obtain ⟨z, hz⟩ : ∃ z, sumE (s').T + sumE (s').K = z := ⟨_, rfl⟩
                    have lz : ¬ (40 + a0 < z) := by
                      have h1 := (HI'.out).sa
                      have h2 := HQ.out.1
                      omega
                    have HZ := Lib.hid hz
                    clear hz
                    go_wp2_with fail
                    refine (lc_bytes H.out z HZ.out).mono ?_
                    rintro e w9 ⟨rfl, hb9⟩
                    have H := Lib.hid (H.out.below hb9)
                    clear hb9
                    go_wp2
                    go_roundg g
                    case measure => exact Nat.lt_succ_self _
                    case rel => exact ⟨i1, n, s', Hs, rfl, HI1.out.1, by have := HI1.out; omega, by have := HI1.out; omega, HRG.out, HI'.out, HH'.out, H.out⟩
                  | succ gj =>
                    have hlt : j < Hs.length := by omega
                    obtain ⟨hb, hcap, he, hcp, hx⟩ := HLW.out.inv (by omega)
                    injection he with e1 _ e3
                    subst e1 e3
                    obtain ⟨p, hp0⟩ : ∃ p, Hs[j] = p := ⟨_, rfl⟩
                    have hpj : Hs[j]? = some p := by rw [List.getElem?_eq_getElem hlt, hp0]
                    have hxx := hx j p hpj
                    have hpr := HRG.out p (List.mem_of_getElem? hpj)
                    have hlh : hb < w5.heap.size := (World.ownsRow.lt HLW.out hb rfl).2
                    obtain ⟨pkd, ⟨pk1, pk2, pk3, pk4⟩, pval, pnow⟩ := p
                    simp only at hpr
                    have hbc : ∀ m u, m < 7 → (opcC (pkd, (pk1, pk2, pk3, pk4), pval, pnow))[m]? = some u → wr.cell? ⟨hb, j * 7 + m, none⟩ = some u := fun m u hm hu => (hB.cell (p := ⟨hb, j * 7 + m, none⟩) hlh).trans (hxx m u hm hu)
                    have hcj : OCj wr hb j (pkd, (pk1, pk2, pk3, pk4), pval, pnow) := ⟨hbc 0 _ (by omega) rfl, hbc 1 _ (by omega) rfl, hbc 2 _ (by omega) rfl, hbc 3 _ (by omega) rfl, hbc 4 _ (by omega) rfl, hbc 5 _ (by omega) rfl, hbc 6 _ (by omega) rfl⟩
                    have hc0 : OC0 wr ob (1, (o1, o2, o3, o4), val, now) := CA.OC0.below HYO.out hB
                    have HCE : Hid (∀ w', Below wr.heap.size wr w' → OC0 w' ob (1, (o1, o2, o3, o4), val, now) ∧ OCj w' hb j (pkd, (pk1, pk2, pk3, pk4), pval, pnow)) := Lib.hid fun w' hw => ⟨CA.OC0.below hc0 hw, CA.OCj.below hcj hw⟩
                    clear hbc hcj hc0
                    have l3 : (0 : Int) ≤ (j : Int) := by omega
                    have l4 : (j : Int) < (Hs.length : Int) := by omega
                    obtain ⟨j1, hj1⟩ : ∃ j1, j + 1 = j1 := ⟨_, rfl⟩
                    have wj : IntKind.i64.wrap ((j : Int) + 1) = (j1 : Int) := by rw [show (j : Int) + 1 = (j1 : Int) by omega]; exact IntWalk.i64_in _ (by have := HI1.out; omega)
                    have HJ : Hid (j1 + gj = Hs.length) := Lib.hid (by omega)
                    have HEQ := Lib.hid (fun W => eql_ky (pk1, pk2, pk3, pk4) (o1, o2, o3, o4) W)
                    have g1 : IntKind.i64.wrap (pnow + 1) = pnow + 1 := IntWalk.i64_in _ (by omega)
                    have g2 : IntKind.i64.wrap (pnow + 1 + a1) = pnow + 1 + a1 := IntWalk.i64_in _ (by have := HR1.out; omega)
                    cases hq : eqK (pk1, pk2, pk3, pk4) (o1, o2, o3, o4) with
                    | false =>
                      rw [hq] at HEQ
                      have HOK : Hid (okAt (o1, o2, o3, o4) now C.ttl none (Hs.take j1) = bo) := Lib.hid (by rw [← hj1, okAt_no hpj hq]; exact hok)
                      clear hj hok hB hcp hx hp0 hpj hxx hpr hlh hj1 hq hlt
                      have hq := HEQ.out
                      go_wp2_with fail
                      refine wp_region_held_drew (S := (fun w' => OC0 w' ob (1, (o1, o2, o3, o4), val, now) ∧ OCj w' hb j (pkd, (pk1, pk2, pk3, pk4), pval, pnow))) (by kernel_rfl) ?_ (fun hS => ?_)
                      · exact HCE.out _ (by first | exact (Below.refl _ _).drew | exact (Below.refl _ _).drew.drew)
                      refine tkY 0 ?_ rfl hS ?_ ?_
                      rotate_left
                      · intro wz hz
                        obtain ⟨⟨z0, z1, z2, z3, z4, z5, z6⟩, t0, t1, t2, t3, t4, t5, t6⟩ := hz
                        go_simp
                        all_goals first | with_reducible rfl | omega
                      try simp only [Act.put, pu]
                      refine tkY 1 ?_ rfl hS ?_ ?_
                      rotate_left
                      · intro wz hz
                        obtain ⟨⟨z0, z1, z2, z3, z4, z5, z6⟩, t0, t1, t2, t3, t4, t5, t6⟩ := hz
                        go_simp
                        all_goals first | with_reducible rfl | omega
                      try simp only [Act.put, pu]
                      refine tkY 2 ?_ rfl hS ?_ ?_
                      rotate_left
                      · intro wz hz
                        obtain ⟨⟨z0, z1, z2, z3, z4, z5, z6⟩, t0, t1, t2, t3, t4, t5, t6⟩ := hz
                        go_simp
                        all_goals first | with_reducible rfl | omega
                      try simp only [Act.put, pu]
                      refine tkY 3 ?_ rfl hS ?_ ?_
                      rotate_left
                      · intro wz hz
                        obtain ⟨⟨z0, z1, z2, z3, z4, z5, z6⟩, t0, t1, t2, t3, t4, t5, t6⟩ := hz
                        go_simp
                        all_goals first | with_reducible rfl | omega
                      try simp only [Act.put, pu]
                      refine tkY 4 ?_ rfl hS ?_ ?_
                      rotate_left
                      · intro wz hz
                        obtain ⟨⟨z0, z1, z2, z3, z4, z5, z6⟩, t0, t1, t2, t3, t4, t5, t6⟩ := hz
                        go_simp
                        all_goals first | with_reducible rfl | omega
                      try simp only [Act.put, pu]
                      refine tkY 5 ?_ rfl hS ?_ ?_
                      rotate_left
                      · intro wz hz
                        obtain ⟨⟨z0, z1, z2, z3, z4, z5, z6⟩, t0, t1, t2, t3, t4, t5, t6⟩ := hz
                        go_simp
                        all_goals first | with_reducible rfl | omega
                      try simp only [Act.put, pu]
                      refine tkY 6 ?_ rfl hS ?_ ?_
                      rotate_left
                      · intro wz hz
                        obtain ⟨⟨z0, z1, z2, z3, z4, z5, z6⟩, t0, t1, t2, t3, t4, t5, t6⟩ := hz
                        go_simp
                        all_goals first | with_reducible rfl | omega
                      try simp only [Act.put, pu]
                      refine tkY 7 ?_ rfl hS ?_ ?_
                      rotate_left
                      · intro wz hz
                        obtain ⟨⟨z0, z1, z2, z3, z4, z5, z6⟩, t0, t1, t2, t3, t4, t5, t6⟩ := hz
                        go_simp
                        all_goals first | with_reducible rfl | omega
                      try simp only [Act.put, pu]
                      refine wpAnyH_done (by kernel_rfl) ?_ _
                      clear hS
                      clear hq
                      go_wp2
                      go_roundg gj
                      case measure => exact Nat.lt_succ_self _
                      case rel => exact ⟨j1, _, rfl, rfl, HJ.out, HOK.out, by first | exact HB.out.drew.drew | exact HB.out.drew | exact HB.out⟩
                    | true =>
                      rw [hq] at HEQ
                      have HOK : Hid (okAt (o1, o2, o3, o4) now C.ttl none (Hs.take j1) = true) := Lib.hid rfl
                      clear hj hok hB hcp hx hp0 hpj hxx hpr hlh hj1 hq hlt
                      have hq := HEQ.out
                      go_wp2_with fail
                      refine wp_region_held_drew (S := (fun w' => OC0 w' ob (1, (o1, o2, o3, o4), val, now) ∧ OCj w' hb j (pkd, (pk1, pk2, pk3, pk4), pval, pnow))) (by kernel_rfl) ?_ (fun hS => ?_)
                      · exact HCE.out _ (by first | exact (Below.refl _ _).drew | exact (Below.refl _ _).drew.drew)
                      refine tkY 0 ?_ rfl hS ?_ ?_
                      rotate_left
                      · intro wz hz
                        obtain ⟨⟨z0, z1, z2, z3, z4, z5, z6⟩, t0, t1, t2, t3, t4, t5, t6⟩ := hz
                        go_simp
                        all_goals first | with_reducible rfl | omega
                      try simp only [Act.put, pu]
                      refine tkY 1 ?_ rfl hS ?_ ?_
                      rotate_left
                      · intro wz hz
                        obtain ⟨⟨z0, z1, z2, z3, z4, z5, z6⟩, t0, t1, t2, t3, t4, t5, t6⟩ := hz
                        go_simp
                        all_goals first | with_reducible rfl | omega
                      try simp only [Act.put, pu]
                      refine tkY 2 ?_ rfl hS ?_ ?_
                      rotate_left
                      · intro wz hz
                        obtain ⟨⟨z0, z1, z2, z3, z4, z5, z6⟩, t0, t1, t2, t3, t4, t5, t6⟩ := hz
                        go_simp
                        all_goals first | with_reducible rfl | omega
                      try simp only [Act.put, pu]
                      refine tkY 3 ?_ rfl hS ?_ ?_
                      rotate_left
                      · intro wz hz
                        obtain ⟨⟨z0, z1, z2, z3, z4, z5, z6⟩, t0, t1, t2, t3, t4, t5, t6⟩ := hz
                        go_simp
                        all_goals first | with_reducible rfl | omega
                      try simp only [Act.put, pu]
                      refine tkY 4 ?_ rfl hS ?_ ?_
                      rotate_left
                      · intro wz hz
                        obtain ⟨⟨z0, z1, z2, z3, z4, z5, z6⟩, t0, t1, t2, t3, t4, t5, t6⟩ := hz
                        go_simp
                        all_goals first | with_reducible rfl | omega
                      try simp only [Act.put, pu]
                      refine tkY 5 ?_ rfl hS ?_ ?_
                      rotate_left
                      · intro wz hz
                        obtain ⟨⟨z0, z1, z2, z3, z4, z5, z6⟩, t0, t1, t2, t3, t4, t5, t6⟩ := hz
                        go_simp
                        all_goals first | with_reducible rfl | omega
                      try simp only [Act.put, pu]
                      refine tkY 6 ?_ rfl hS ?_ ?_
                      rotate_left
                      · intro wz hz
                        obtain ⟨⟨z0, z1, z2, z3, z4, z5, z6⟩, t0, t1, t2, t3, t4, t5, t6⟩ := hz
                        go_simp
                        all_goals first | with_reducible rfl | omega
                      try simp only [Act.put, pu]
                      refine tkY 7 ?_ rfl hS ?_ ?_
                      rotate_left
                      · intro wz hz
                        obtain ⟨⟨z0, z1, z2, z3, z4, z5, z6⟩, t0, t1, t2, t3, t4, t5, t6⟩ := hz
                        go_simp
                        all_goals first | with_reducible rfl | omega
                      try simp only [Act.put, pu]
                      refine wpAnyH_done (by kernel_rfl) ?_ _
                      clear hS
                      clear hq
                      go_wp2_with fail
                      refine wp_region_held_drew (S := (fun w' => OC0 w' ob (1, (o1, o2, o3, o4), val, now) ∧ OCj w' hb j (pkd, (pk1, pk2, pk3, pk4), pval, pnow))) (by kernel_rfl) ?_ (fun hS => ?_)
                      · exact HCE.out _ (by first | exact (Below.refl _ _).drew | exact (Below.refl _ _).drew.drew)
                      refine tkY 0 ?_ rfl hS ?_ ?_
                      rotate_left
                      · intro wz hz
                        obtain ⟨⟨z0, z1, z2, z3, z4, z5, z6⟩, t0, t1, t2, t3, t4, t5, t6⟩ := hz
                        go_simp
                        all_goals first | with_reducible rfl | omega
                      try simp only [Act.put, pu]
                      refine tkY 1 ?_ rfl hS ?_ ?_
                      rotate_left
                      · intro wz hz
                        obtain ⟨⟨z0, z1, z2, z3, z4, z5, z6⟩, t0, t1, t2, t3, t4, t5, t6⟩ := hz
                        go_simp
                        all_goals first | with_reducible rfl | omega
                      try simp only [Act.put, pu]
                      refine tkY 2 ?_ rfl hS ?_ ?_
                      rotate_left
                      · intro wz hz
                        obtain ⟨⟨z0, z1, z2, z3, z4, z5, z6⟩, t0, t1, t2, t3, t4, t5, t6⟩ := hz
                        go_simp
                        all_goals first | with_reducible rfl | omega
                      try simp only [Act.put, pu]
                      refine tkN 3 rfl hS ?_
                      try simp only [Act.put, pu]
                      refine tkN 4 rfl hS ?_
                      try simp only [Act.put, pu]
                      refine tkN 5 rfl hS ?_
                      try simp only [Act.put, pu]
                      refine tkN 6 rfl hS ?_
                      try simp only [Act.put, pu]
                      refine tkN 7 rfl hS ?_
                      try simp only [Act.put, pu]
                      refine tkN 8 rfl hS ?_
                      try simp only [Act.put, pu]
                      refine tkN 9 rfl hS ?_
                      try simp only [Act.put, pu]
                      refine tkN 10 rfl hS ?_
                      try simp only [Act.put, pu]
                      refine tkN 11 rfl hS ?_
                      try simp only [Act.put, pu]
                      refine tkN 12 rfl hS ?_
                      try simp only [Act.put, pu]
                      refine tkN 13 rfl hS ?_
                      try simp only [Act.put, pu]
                      refine tkN 14 rfl hS ?_
                      try simp only [Act.put, pu]
                      refine tkN 15 rfl hS ?_
                      try simp only [Act.put, pu]
                      refine tkN 16 rfl hS ?_
                      try simp only [Act.put, pu]
                      refine tkN 17 rfl hS ?_
                      try simp only [Act.put, pu]
                      refine tkN 18 rfl hS ?_
                      try simp only [Act.put, pu]
                      refine tkN 19 rfl hS ?_
                      try simp only [Act.put, pu]
                      refine tkN 20 rfl hS ?_
                      try simp only [Act.put, pu]
                      refine tkN 21 rfl hS ?_
                      try simp only [Act.put, pu]
                      refine tkN 22 rfl hS ?_
                      try simp only [Act.put, pu]
                      refine tkN 23 rfl hS ?_
                      try simp only [Act.put, pu]
                      refine tkY 24 ?_ rfl hS ?_ ?_
                      rotate_left
                      · intro wz hz
                        obtain ⟨⟨z0, z1, z2, z3, z4, z5, z6⟩, t0, t1, t2, t3, t4, t5, t6⟩ := hz
                        go_simp
                        all_goals first | with_reducible rfl | omega
                      try simp only [Act.put, pu]
                      refine tkY 25 ?_ rfl hS ?_ ?_
                      rotate_left
                      · intro wz hz
                        obtain ⟨⟨z0, z1, z2, z3, z4, z5, z6⟩, t0, t1, t2, t3, t4, t5, t6⟩ := hz
                        go_simp
                        all_goals first | with_reducible rfl | omega
                      try simp only [Act.put, pu]
                      refine wpAnyH_done (by kernel_rfl) ?_ _
                      clear hS
                      go_wp2
                      go_roundg gj
                      case measure => exact Nat.lt_succ_self _
                      case rel => exact ⟨j1, _, rfl, rfl, HJ.out, HOK.out, by first | exact HB.out.drew.drew | exact HB.out.drew | exact HB.out⟩
              | some gv =>
                have kk := H.out.blk (List.mem_cons_self ..)
                have y0 : W7.cell? ⟨ob, 0, none⟩ = some (.int .i64 1) := kk.cell 0
                have y1 : W7.cell? ⟨ob, 1, none⟩ = some (.string o1) := kk.cell 1
                have y2 : W7.cell? ⟨ob, 2, none⟩ = some (.string o2) := kk.cell 2
                have y3 : W7.cell? ⟨ob, 3, none⟩ = some (.int .i64 o3) := kk.cell 3
                have y4 : W7.cell? ⟨ob, 4, none⟩ = some (.string o4) := kk.cell 4
                have y5 : W7.cell? ⟨ob, 5, none⟩ = some (.string val) := kk.cell 5
                have y6 : W7.cell? ⟨ob, 6, none⟩ = some (.int .i64 now) := kk.cell 6
                clear kk
                go_wp2_with fail
                try rw [hW7]
                try rw [hob]
                refine (HSH.out _).mono ?_
                rintro e w3 ⟨rfl, hb3⟩
                have H := Lib.hid (H.out.below hb3)
                clear hb3 hW7 hob HSH
                clear x0 x1 x2 x3 x4 x5 x6
                clear y0 y1 y2 y3 y4 y5 y6
                have kk := H.out.blk (List.mem_cons_self ..)
                have y0 : w3.cell? ⟨ob, 0, none⟩ = some (.int .i64 1) := kk.cell 0
                have y1 : w3.cell? ⟨ob, 1, none⟩ = some (.string o1) := kk.cell 1
                have y2 : w3.cell? ⟨ob, 2, none⟩ = some (.string o2) := kk.cell 2
                have y3 : w3.cell? ⟨ob, 3, none⟩ = some (.int .i64 o3) := kk.cell 3
                have y4 : w3.cell? ⟨ob, 4, none⟩ = some (.string o4) := kk.cell 4
                have y5 : w3.cell? ⟨ob, 5, none⟩ = some (.string val) := kk.cell 5
                have y6 : w3.cell? ⟨ob, 6, none⟩ = some (.int .i64 now) := kk.cell 6
                clear kk
                go_wp2_with fail
                refine (show Calls _ _ _ _ (RetC w C _ _ _ (.tuple #[.string gv, .bool true])) from lc_get H.out HI.out HKE.out (o1, o2, o3, o4) HFK.out (by have := HI1.out; omega) now _ HG.out).mono ?_
                rintro e w5 ⟨rfl, h5⟩
                have H := Lib.hid h5
                clear h5
                clear y0 y1 y2 y3 y4 y5 y6
                have kk := H.out.blk (List.mem_cons_self ..)
                have y0 : w5.cell? ⟨ob, 0, none⟩ = some (.int .i64 1) := kk.cell 0
                have y1 : w5.cell? ⟨ob, 1, none⟩ = some (.string o1) := kk.cell 1
                have y2 : w5.cell? ⟨ob, 2, none⟩ = some (.string o2) := kk.cell 2
                have y3 : w5.cell? ⟨ob, 3, none⟩ = some (.int .i64 o3) := kk.cell 3
                have y4 : w5.cell? ⟨ob, 4, none⟩ = some (.string o4) := kk.cell 4
                have y5 : w5.cell? ⟨ob, 5, none⟩ = some (.string val) := kk.cell 5
                have y6 : w5.cell? ⟨ob, 6, none⟩ = some (.int .i64 now) := kk.cell 6
                clear kk
                have HLW := Lib.hid (LC.hist (H.out.forget (O' := [Kh w.heap.size (.slice ua Hs.length uc) Hs]) fun p hp => List.mem_cons_of_mem _ hp))
                have HYO := Lib.hid (CA.OC0.of (o := (1, (o1, o2, o3, o4), val, now)) (H.out.blk (List.mem_cons_self ..)))
                clear y0 y1 y2 y3 y4 y5 y6
                go_wp2
                go_loopg [16, 17] Hs.length (fun gk u16 u17 wx => ∃ (j : Nat) (bo : Bool), u16 = .bool bo ∧ u17 = .int .i64 (j : Int) ∧ j + gk = Hs.length ∧ okAt (o1, o2, o3, o4) now C.ttl (some gv) (Hs.take j) = bo ∧ Below w5.heap.size w5 wx)
                case atStart => exact ⟨0, _, rfl, rfl, by omega, by rw [List.take_zero, okAt_nil]; rfl, Below.refl _ _⟩
                case round =>
                  obtain ⟨j, bo, rfl, rfl, hj, hok, hB⟩ := hrel
                  have HB := Lib.hid hB
                  cases gk with
                  | zero =>
                    have hjl : j = Hs.length := by omega
                    have hbo : bo = true := by rw [← hok, hjl, List.take_length]; exact HF.out
                    have l3 : ¬ ((j : Int) < (Hs.length : Int)) := by omega
                    subst hbo
                    have H := Lib.hid (H.out.below hB)
                    clear hj hok hB hjl HLW HYO
                    have H := Lib.hid (H.out.forget (O' := [Kh w.heap.size (.slice ua Hs.length uc) Hs]) fun p hp => List.mem_cons_of_mem _ hp)
                    obtain ⟨z, hz⟩ : ∃ z, sumE (s').T + sumE (s').K = z := ⟨_, rfl⟩
                    have lz : ¬ (40 + a0 < z) := by
                      have h1 := (HI'.out).sa
                      have h2 := HQ.out.1
                      omega
                    have HZ := Lib.hid hz
                    clear hz
                    go_wp2_with fail
                    refine (lc_bytes H.out z HZ.out).mono ?_
                    rintro e w9 ⟨rfl, hb9⟩
                    have H := Lib.hid (H.out.below hb9)
                    clear hb9
                    go_wp2
                    go_roundg g
                    case measure => exact Nat.lt_succ_self _
                    case rel => exact ⟨i1, n, s', Hs, rfl, HI1.out.1, by have := HI1.out; omega, by have := HI1.out; omega, HRG.out, HI'.out, HH'.out, H.out⟩
                  | succ gj =>
                    have hlt : j < Hs.length := by omega
                    obtain ⟨hb, hcap, he, hcp, hx⟩ := HLW.out.inv (by omega)
                    injection he with e1 _ e3
                    subst e1 e3
                    obtain ⟨p, hp0⟩ : ∃ p, Hs[j] = p := ⟨_, rfl⟩
                    have hpj : Hs[j]? = some p := by rw [List.getElem?_eq_getElem hlt, hp0]
                    have hxx := hx j p hpj
                    have hpr := HRG.out p (List.mem_of_getElem? hpj)
                    have hlh : hb < w5.heap.size := (World.ownsRow.lt HLW.out hb rfl).2
                    obtain ⟨pkd, ⟨pk1, pk2, pk3, pk4⟩, pval, pnow⟩ := p
                    simp only at hpr
                    have hbc : ∀ m u, m < 7 → (opcC (pkd, (pk1, pk2, pk3, pk4), pval, pnow))[m]? = some u → wr.cell? ⟨hb, j * 7 + m, none⟩ = some u := fun m u hm hu => (hB.cell (p := ⟨hb, j * 7 + m, none⟩) hlh).trans (hxx m u hm hu)
                    have hcj : OCj wr hb j (pkd, (pk1, pk2, pk3, pk4), pval, pnow) := ⟨hbc 0 _ (by omega) rfl, hbc 1 _ (by omega) rfl, hbc 2 _ (by omega) rfl, hbc 3 _ (by omega) rfl, hbc 4 _ (by omega) rfl, hbc 5 _ (by omega) rfl, hbc 6 _ (by omega) rfl⟩
                    have hc0 : OC0 wr ob (1, (o1, o2, o3, o4), val, now) := CA.OC0.below HYO.out hB
                    have HCE : Hid (∀ w', Below wr.heap.size wr w' → OC0 w' ob (1, (o1, o2, o3, o4), val, now) ∧ OCj w' hb j (pkd, (pk1, pk2, pk3, pk4), pval, pnow)) := Lib.hid fun w' hw => ⟨CA.OC0.below hc0 hw, CA.OCj.below hcj hw⟩
                    clear hbc hcj hc0
                    have l3 : (0 : Int) ≤ (j : Int) := by omega
                    have l4 : (j : Int) < (Hs.length : Int) := by omega
                    obtain ⟨j1, hj1⟩ : ∃ j1, j + 1 = j1 := ⟨_, rfl⟩
                    have wj : IntKind.i64.wrap ((j : Int) + 1) = (j1 : Int) := by rw [show (j : Int) + 1 = (j1 : Int) by omega]; exact IntWalk.i64_in _ (by have := HI1.out; omega)
                    have HJ : Hid (j1 + gj = Hs.length) := Lib.hid (by omega)
                    have HEQ := Lib.hid (fun W => eql_ky (pk1, pk2, pk3, pk4) (o1, o2, o3, o4) W)
                    have g1 : IntKind.i64.wrap (pnow + 1) = pnow + 1 := IntWalk.i64_in _ (by omega)
                    have g2 : IntKind.i64.wrap (pnow + 1 + a1) = pnow + 1 + a1 := IntWalk.i64_in _ (by have := HR1.out; omega)
                    cases hq : eqK (pk1, pk2, pk3, pk4) (o1, o2, o3, o4) with
                    | false =>
                      rw [hq] at HEQ
                      have HOK : Hid (okAt (o1, o2, o3, o4) now C.ttl (some gv) (Hs.take j1) = bo) := Lib.hid (by rw [← hj1, okAt_no hpj hq]; exact hok)
                      clear hj hok hB hcp hx hp0 hpj hxx hpr hlh hj1 hq hlt
                      have hq := HEQ.out
                      go_wp2_with fail
                      refine wp_region_held_drew (S := (fun w' => OC0 w' ob (1, (o1, o2, o3, o4), val, now) ∧ OCj w' hb j (pkd, (pk1, pk2, pk3, pk4), pval, pnow))) (by kernel_rfl) ?_ (fun hS => ?_)
                      · exact HCE.out _ (by first | exact (Below.refl _ _).drew | exact (Below.refl _ _).drew.drew)
                      refine tkY 0 ?_ rfl hS ?_ ?_
                      rotate_left
                      · intro wz hz
                        obtain ⟨⟨z0, z1, z2, z3, z4, z5, z6⟩, t0, t1, t2, t3, t4, t5, t6⟩ := hz
                        go_simp
                        all_goals first | with_reducible rfl | omega
                      try simp only [Act.put, pu]
                      refine tkY 1 ?_ rfl hS ?_ ?_
                      rotate_left
                      · intro wz hz
                        obtain ⟨⟨z0, z1, z2, z3, z4, z5, z6⟩, t0, t1, t2, t3, t4, t5, t6⟩ := hz
                        go_simp
                        all_goals first | with_reducible rfl | omega
                      try simp only [Act.put, pu]
                      refine tkY 2 ?_ rfl hS ?_ ?_
                      rotate_left
                      · intro wz hz
                        obtain ⟨⟨z0, z1, z2, z3, z4, z5, z6⟩, t0, t1, t2, t3, t4, t5, t6⟩ := hz
                        go_simp
                        all_goals first | with_reducible rfl | omega
                      try simp only [Act.put, pu]
                      refine tkY 3 ?_ rfl hS ?_ ?_
                      rotate_left
                      · intro wz hz
                        obtain ⟨⟨z0, z1, z2, z3, z4, z5, z6⟩, t0, t1, t2, t3, t4, t5, t6⟩ := hz
                        go_simp
                        all_goals first | with_reducible rfl | omega
                      try simp only [Act.put, pu]
                      refine tkY 4 ?_ rfl hS ?_ ?_
                      rotate_left
                      · intro wz hz
                        obtain ⟨⟨z0, z1, z2, z3, z4, z5, z6⟩, t0, t1, t2, t3, t4, t5, t6⟩ := hz
                        go_simp
                        all_goals first | with_reducible rfl | omega
                      try simp only [Act.put, pu]
                      refine tkY 5 ?_ rfl hS ?_ ?_
                      rotate_left
                      · intro wz hz
                        obtain ⟨⟨z0, z1, z2, z3, z4, z5, z6⟩, t0, t1, t2, t3, t4, t5, t6⟩ := hz
                        go_simp
                        all_goals first | with_reducible rfl | omega
                      try simp only [Act.put, pu]
                      refine tkY 6 ?_ rfl hS ?_ ?_
                      rotate_left
                      · intro wz hz
                        obtain ⟨⟨z0, z1, z2, z3, z4, z5, z6⟩, t0, t1, t2, t3, t4, t5, t6⟩ := hz
                        go_simp
                        all_goals first | with_reducible rfl | omega
                      try simp only [Act.put, pu]
                      refine tkY 7 ?_ rfl hS ?_ ?_
                      rotate_left
                      · intro wz hz
                        obtain ⟨⟨z0, z1, z2, z3, z4, z5, z6⟩, t0, t1, t2, t3, t4, t5, t6⟩ := hz
                        go_simp
                        all_goals first | with_reducible rfl | omega
                      try simp only [Act.put, pu]
                      refine wpAnyH_done (by kernel_rfl) ?_ _
                      clear hS
                      clear hq
                      go_wp2
                      go_roundg gj
                      case measure => exact Nat.lt_succ_self _
                      case rel => exact ⟨j1, _, rfl, rfl, HJ.out, HOK.out, by first | exact HB.out.drew.drew | exact HB.out.drew | exact HB.out⟩
                    | true =>
                      rw [hq] at HEQ
                      have hoy := okAt_yes (v := gv) (now := now) (ttl := C.ttl) hpj hq
                      rw [hj1] at hoy
                      have hoy : okAt (o1, o2, o3, o4) now C.ttl (some gv) (Hs.take j1) = ((pval.toList == gv.toList) && decide (now < pnow + C.ttl)) := hoy
                      rw [show pnow + C.ttl = pnow + 1 + a1 by have := HQ.out.2.2.2; omega] at hoy
                      cases hve : (pval.toList == gv.toList) with
                      | false =>
                        rw [hve, Bool.false_and] at hoy
                        have HOK := Lib.hid hoy
                        clear hj hok hB hcp hx hp0 hpj hxx hpr hlh hj1 hq hlt hoy
                        have hq := HEQ.out
                        go_wp2_with fail
                        refine wp_region_held_drew (S := (fun w' => OC0 w' ob (1, (o1, o2, o3, o4), val, now) ∧ OCj w' hb j (pkd, (pk1, pk2, pk3, pk4), pval, pnow))) (by kernel_rfl) ?_ (fun hS => ?_)
                        · exact HCE.out _ (by first | exact (Below.refl _ _).drew | exact (Below.refl _ _).drew.drew)
                        refine tkY 0 ?_ rfl hS ?_ ?_
                        rotate_left
                        · intro wz hz
                          obtain ⟨⟨z0, z1, z2, z3, z4, z5, z6⟩, t0, t1, t2, t3, t4, t5, t6⟩ := hz
                          go_simp
                          all_goals first | with_reducible rfl | omega
                        try simp only [Act.put, pu]
                        refine tkY 1 ?_ rfl hS ?_ ?_
                        rotate_left
                        · intro wz hz
                          obtain ⟨⟨z0, z1, z2, z3, z4, z5, z6⟩, t0, t1, t2, t3, t4, t5, t6⟩ := hz
                          go_simp
                          all_goals first | with_reducible rfl | omega
                        try simp only [Act.put, pu]
                        refine tkY 2 ?_ rfl hS ?_ ?_
                        rotate_left
                        · intro wz hz
                          obtain ⟨⟨z0, z1, z2, z3, z4, z5, z6⟩, t0, t1, t2, t3, t4, t5, t6⟩ := hz
                          go_simp
                          all_goals first | with_reducible rfl | omega
                        try simp only [Act.put, pu]
                        refine tkY 3 ?_ rfl hS ?_ ?_
                        rotate_left
                        · intro wz hz
                          obtain ⟨⟨z0, z1, z2, z3, z4, z5, z6⟩, t0, t1, t2, t3, t4, t5, t6⟩ := hz
                          go_simp
                          all_goals first | with_reducible rfl | omega
                        try simp only [Act.put, pu]
                        refine tkY 4 ?_ rfl hS ?_ ?_
                        rotate_left
                        · intro wz hz
                          obtain ⟨⟨z0, z1, z2, z3, z4, z5, z6⟩, t0, t1, t2, t3, t4, t5, t6⟩ := hz
                          go_simp
                          all_goals first | with_reducible rfl | omega
                        try simp only [Act.put, pu]
                        refine tkY 5 ?_ rfl hS ?_ ?_
                        rotate_left
                        · intro wz hz
                          obtain ⟨⟨z0, z1, z2, z3, z4, z5, z6⟩, t0, t1, t2, t3, t4, t5, t6⟩ := hz
                          go_simp
                          all_goals first | with_reducible rfl | omega
                        try simp only [Act.put, pu]
                        refine tkY 6 ?_ rfl hS ?_ ?_
                        rotate_left
                        · intro wz hz
                          obtain ⟨⟨z0, z1, z2, z3, z4, z5, z6⟩, t0, t1, t2, t3, t4, t5, t6⟩ := hz
                          go_simp
                          all_goals first | with_reducible rfl | omega
                        try simp only [Act.put, pu]
                        refine tkY 7 ?_ rfl hS ?_ ?_
                        rotate_left
                        · intro wz hz
                          obtain ⟨⟨z0, z1, z2, z3, z4, z5, z6⟩, t0, t1, t2, t3, t4, t5, t6⟩ := hz
                          go_simp
                          all_goals first | with_reducible rfl | omega
                        try simp only [Act.put, pu]
                        refine wpAnyH_done (by kernel_rfl) ?_ _
                        clear hS
                        clear hq
                        go_wp2_with fail
                        refine wp_region_held_drew (S := (fun w' => OC0 w' ob (1, (o1, o2, o3, o4), val, now) ∧ OCj w' hb j (pkd, (pk1, pk2, pk3, pk4), pval, pnow))) (by kernel_rfl) ?_ (fun hS => ?_)
                        · exact HCE.out _ (by first | exact (Below.refl _ _).drew | exact (Below.refl _ _).drew.drew)
                        refine tkY 0 ?_ rfl hS ?_ ?_
                        rotate_left
                        · intro wz hz
                          obtain ⟨⟨z0, z1, z2, z3, z4, z5, z6⟩, t0, t1, t2, t3, t4, t5, t6⟩ := hz
                          go_simp
                          all_goals first | with_reducible rfl | omega
                        try simp only [Act.put, pu]
                        refine tkY 1 ?_ rfl hS ?_ ?_
                        rotate_left
                        · intro wz hz
                          obtain ⟨⟨z0, z1, z2, z3, z4, z5, z6⟩, t0, t1, t2, t3, t4, t5, t6⟩ := hz
                          go_simp
                          all_goals first | with_reducible rfl | omega
                        try simp only [Act.put, pu]
                        refine tkY 2 ?_ rfl hS ?_ ?_
                        rotate_left
                        · intro wz hz
                          obtain ⟨⟨z0, z1, z2, z3, z4, z5, z6⟩, t0, t1, t2, t3, t4, t5, t6⟩ := hz
                          go_simp
                          all_goals first | with_reducible rfl | omega
                        try simp only [Act.put, pu]
                        refine tkY 3 ?_ rfl hS ?_ ?_
                        rotate_left
                        · intro wz hz
                          obtain ⟨⟨z0, z1, z2, z3, z4, z5, z6⟩, t0, t1, t2, t3, t4, t5, t6⟩ := hz
                          go_simp
                          all_goals first | with_reducible rfl | omega
                        try simp only [Act.put, pu]
                        refine tkY 4 ?_ rfl hS ?_ ?_
                        rotate_left
                        · intro wz hz
                          obtain ⟨⟨z0, z1, z2, z3, z4, z5, z6⟩, t0, t1, t2, t3, t4, t5, t6⟩ := hz
                          go_simp
                          all_goals first | with_reducible rfl | omega
                        try simp only [Act.put, pu]
                        refine tkY 5 ?_ rfl hS ?_ ?_
                        rotate_left
                        · intro wz hz
                          obtain ⟨⟨z0, z1, z2, z3, z4, z5, z6⟩, t0, t1, t2, t3, t4, t5, t6⟩ := hz
                          go_simp
                          all_goals first | with_reducible rfl | omega
                        try simp only [Act.put, pu]
                        refine tkY 6 ?_ rfl hS ?_ ?_
                        rotate_left
                        · intro wz hz
                          obtain ⟨⟨z0, z1, z2, z3, z4, z5, z6⟩, t0, t1, t2, t3, t4, t5, t6⟩ := hz
                          go_simp
                          all_goals first | with_reducible rfl | omega
                        try simp only [Act.put, pu]
                        refine tkY 7 ?_ rfl hS ?_ ?_
                        rotate_left
                        · intro wz hz
                          obtain ⟨⟨z0, z1, z2, z3, z4, z5, z6⟩, t0, t1, t2, t3, t4, t5, t6⟩ := hz
                          go_simp
                          all_goals first | with_reducible rfl | omega
                        try simp only [Act.put, pu]
                        refine tkY 8 ?_ rfl hS ?_ ?_
                        rotate_left
                        · intro wz hz
                          obtain ⟨⟨z0, z1, z2, z3, z4, z5, z6⟩, t0, t1, t2, t3, t4, t5, t6⟩ := hz
                          go_simp
                          all_goals first | with_reducible rfl | omega
                        try simp only [Act.put, pu]
                        refine tkY 9 ?_ rfl hS ?_ ?_
                        rotate_left
                        · intro wz hz
                          obtain ⟨⟨z0, z1, z2, z3, z4, z5, z6⟩, t0, t1, t2, t3, t4, t5, t6⟩ := hz
                          go_simp
                          all_goals first | with_reducible rfl | omega
                        try simp only [Act.put, pu]
                        refine tkY 10 ?_ rfl hS ?_ ?_
                        rotate_left
                        · intro wz hz
                          obtain ⟨⟨z0, z1, z2, z3, z4, z5, z6⟩, t0, t1, t2, t3, t4, t5, t6⟩ := hz
                          go_simp
                          all_goals first | with_reducible rfl | omega
                        try simp only [Act.put, pu]
                        refine tkN 11 rfl hS ?_
                        try simp only [Act.put, pu]
                        refine tkN 12 rfl hS ?_
                        try simp only [Act.put, pu]
                        refine tkN 13 rfl hS ?_
                        try simp only [Act.put, pu]
                        refine tkN 14 rfl hS ?_
                        try simp only [Act.put, pu]
                        refine tkN 15 rfl hS ?_
                        try simp only [Act.put, pu]
                        refine tkN 16 rfl hS ?_
                        try simp only [Act.put, pu]
                        refine tkN 17 rfl hS ?_
                        try simp only [Act.put, pu]
                        refine tkN 18 rfl hS ?_
                        try simp only [Act.put, pu]
                        refine tkN 19 rfl hS ?_
                        try simp only [Act.put, pu]
                        refine tkN 20 rfl hS ?_
                        try simp only [Act.put, pu]
                        refine tkN 21 rfl hS ?_
                        try simp only [Act.put, pu]
                        refine tkN 22 rfl hS ?_
                        try simp only [Act.put, pu]
                        refine tkY 23 ?_ rfl hS ?_ ?_
                        rotate_left
                        · intro wz hz
                          obtain ⟨⟨z0, z1, z2, z3, z4, z5, z6⟩, t0, t1, t2, t3, t4, t5, t6⟩ := hz
                          go_simp
                          all_goals first | with_reducible rfl | omega
                        try simp only [Act.put, pu]
                        refine tkY 24 ?_ rfl hS ?_ ?_
                        rotate_left
                        · intro wz hz
                          obtain ⟨⟨z0, z1, z2, z3, z4, z5, z6⟩, t0, t1, t2, t3, t4, t5, t6⟩ := hz
                          go_simp
                          all_goals first | with_reducible rfl | omega
                        try simp only [Act.put, pu]
                        refine tkY 25 ?_ rfl hS ?_ ?_
                        rotate_left
                        · intro wz hz
                          obtain ⟨⟨z0, z1, z2, z3, z4, z5, z6⟩, t0, t1, t2, t3, t4, t5, t6⟩ := hz
                          go_simp
                          all_goals first | with_reducible rfl | omega
                        try simp only [Act.put, pu]
                        refine wpAnyH_done (by kernel_rfl) ?_ _
                        clear hS
                        go_wp2
                        go_roundg gj
                        case measure => exact Nat.lt_succ_self _
                        case rel => exact ⟨j1, _, rfl, rfl, HJ.out, HOK.out, by first | exact HB.out.drew.drew | exact HB.out.drew | exact HB.out⟩
                      | true =>
                        rw [hve, Bool.true_and] at hoy
                        have HOK := Lib.hid hoy
                        clear hj hok hB hcp hx hp0 hpj hxx hpr hlh hj1 hq hlt hoy
                        have hq := HEQ.out
                        go_wp2_with fail
                        refine wp_region_held_drew (S := (fun w' => OC0 w' ob (1, (o1, o2, o3, o4), val, now) ∧ OCj w' hb j (pkd, (pk1, pk2, pk3, pk4), pval, pnow))) (by kernel_rfl) ?_ (fun hS => ?_)
                        · exact HCE.out _ (by first | exact (Below.refl _ _).drew | exact (Below.refl _ _).drew.drew)
                        refine tkY 0 ?_ rfl hS ?_ ?_
                        rotate_left
                        · intro wz hz
                          obtain ⟨⟨z0, z1, z2, z3, z4, z5, z6⟩, t0, t1, t2, t3, t4, t5, t6⟩ := hz
                          go_simp
                          all_goals first | with_reducible rfl | omega
                        try simp only [Act.put, pu]
                        refine tkY 1 ?_ rfl hS ?_ ?_
                        rotate_left
                        · intro wz hz
                          obtain ⟨⟨z0, z1, z2, z3, z4, z5, z6⟩, t0, t1, t2, t3, t4, t5, t6⟩ := hz
                          go_simp
                          all_goals first | with_reducible rfl | omega
                        try simp only [Act.put, pu]
                        refine tkY 2 ?_ rfl hS ?_ ?_
                        rotate_left
                        · intro wz hz
                          obtain ⟨⟨z0, z1, z2, z3, z4, z5, z6⟩, t0, t1, t2, t3, t4, t5, t6⟩ := hz
                          go_simp
                          all_goals first | with_reducible rfl | omega
                        try simp only [Act.put, pu]
                        refine tkY 3 ?_ rfl hS ?_ ?_
                        rotate_left
                        · intro wz hz
                          obtain ⟨⟨z0, z1, z2, z3, z4, z5, z6⟩, t0, t1, t2, t3, t4, t5, t6⟩ := hz
                          go_simp
                          all_goals first | with_reducible rfl | omega
                        try simp only [Act.put, pu]
                        refine tkY 4 ?_ rfl hS ?_ ?_
                        rotate_left
                        · intro wz hz
                          obtain ⟨⟨z0, z1, z2, z3, z4, z5, z6⟩, t0, t1, t2, t3, t4, t5, t6⟩ := hz
                          go_simp
                          all_goals first | with_reducible rfl | omega
                        try simp only [Act.put, pu]
                        refine tkY 5 ?_ rfl hS ?_ ?_
                        rotate_left
                        · intro wz hz
                          obtain ⟨⟨z0, z1, z2, z3, z4, z5, z6⟩, t0, t1, t2, t3, t4, t5, t6⟩ := hz
                          go_simp
                          all_goals first | with_reducible rfl | omega
                        try simp only [Act.put, pu]
                        refine tkY 6 ?_ rfl hS ?_ ?_
                        rotate_left
                        · intro wz hz
                          obtain ⟨⟨z0, z1, z2, z3, z4, z5, z6⟩, t0, t1, t2, t3, t4, t5, t6⟩ := hz
                          go_simp
                          all_goals first | with_reducible rfl | omega
                        try simp only [Act.put, pu]
                        refine tkY 7 ?_ rfl hS ?_ ?_
                        rotate_left
                        · intro wz hz
                          obtain ⟨⟨z0, z1, z2, z3, z4, z5, z6⟩, t0, t1, t2, t3, t4, t5, t6⟩ := hz
                          go_simp
                          all_goals first | with_reducible rfl | omega
                        try simp only [Act.put, pu]
                        refine wpAnyH_done (by kernel_rfl) ?_ _
                        clear hS
                        clear hq
                        go_wp2_with fail
                        refine wp_region_held_drew (S := (fun w' => OC0 w' ob (1, (o1, o2, o3, o4), val, now) ∧ OCj w' hb j (pkd, (pk1, pk2, pk3, pk4), pval, pnow))) (by kernel_rfl) ?_ (fun hS => ?_)
                        · exact HCE.out _ (by first | exact (Below.refl _ _).drew | exact (Below.refl _ _).drew.drew)
                        refine tkY 0 ?_ rfl hS ?_ ?_
                        rotate_left
                        · intro wz hz
                          obtain ⟨⟨z0, z1, z2, z3, z4, z5, z6⟩, t0, t1, t2, t3, t4, t5, t6⟩ := hz
                          go_simp
                          all_goals first | with_reducible rfl | omega
                        try simp only [Act.put, pu]
                        refine tkY 1 ?_ rfl hS ?_ ?_
                        rotate_left
                        · intro wz hz
                          obtain ⟨⟨z0, z1, z2, z3, z4, z5, z6⟩, t0, t1, t2, t3, t4, t5, t6⟩ := hz
                          go_simp
                          all_goals first | with_reducible rfl | omega
                        try simp only [Act.put, pu]
                        refine tkY 2 ?_ rfl hS ?_ ?_
                        rotate_left
                        · intro wz hz
                          obtain ⟨⟨z0, z1, z2, z3, z4, z5, z6⟩, t0, t1, t2, t3, t4, t5, t6⟩ := hz
                          go_simp
                          all_goals first | with_reducible rfl | omega
                        try simp only [Act.put, pu]
                        refine tkY 3 ?_ rfl hS ?_ ?_
                        rotate_left
                        · intro wz hz
                          obtain ⟨⟨z0, z1, z2, z3, z4, z5, z6⟩, t0, t1, t2, t3, t4, t5, t6⟩ := hz
                          go_simp
                          all_goals first | with_reducible rfl | omega
                        try simp only [Act.put, pu]
                        refine tkY 4 ?_ rfl hS ?_ ?_
                        rotate_left
                        · intro wz hz
                          obtain ⟨⟨z0, z1, z2, z3, z4, z5, z6⟩, t0, t1, t2, t3, t4, t5, t6⟩ := hz
                          go_simp
                          all_goals first | with_reducible rfl | omega
                        try simp only [Act.put, pu]
                        refine tkY 5 ?_ rfl hS ?_ ?_
                        rotate_left
                        · intro wz hz
                          obtain ⟨⟨z0, z1, z2, z3, z4, z5, z6⟩, t0, t1, t2, t3, t4, t5, t6⟩ := hz
                          go_simp
                          all_goals first | with_reducible rfl | omega
                        try simp only [Act.put, pu]
                        refine tkY 6 ?_ rfl hS ?_ ?_
                        rotate_left
                        · intro wz hz
                          obtain ⟨⟨z0, z1, z2, z3, z4, z5, z6⟩, t0, t1, t2, t3, t4, t5, t6⟩ := hz
                          go_simp
                          all_goals first | with_reducible rfl | omega
                        try simp only [Act.put, pu]
                        refine tkY 7 ?_ rfl hS ?_ ?_
                        rotate_left
                        · intro wz hz
                          obtain ⟨⟨z0, z1, z2, z3, z4, z5, z6⟩, t0, t1, t2, t3, t4, t5, t6⟩ := hz
                          go_simp
                          all_goals first | with_reducible rfl | omega
                        try simp only [Act.put, pu]
                        refine tkY 8 ?_ rfl hS ?_ ?_
                        rotate_left
                        · intro wz hz
                          obtain ⟨⟨z0, z1, z2, z3, z4, z5, z6⟩, t0, t1, t2, t3, t4, t5, t6⟩ := hz
                          go_simp
                          all_goals first | with_reducible rfl | omega
                        try simp only [Act.put, pu]
                        refine tkY 9 ?_ rfl hS ?_ ?_
                        rotate_left
                        · intro wz hz
                          obtain ⟨⟨z0, z1, z2, z3, z4, z5, z6⟩, t0, t1, t2, t3, t4, t5, t6⟩ := hz
                          go_simp
                          all_goals first | with_reducible rfl | omega
                        try simp only [Act.put, pu]
                        refine tkY 10 ?_ rfl hS ?_ ?_
                        rotate_left
                        · intro wz hz
                          obtain ⟨⟨z0, z1, z2, z3, z4, z5, z6⟩, t0, t1, t2, t3, t4, t5, t6⟩ := hz
                          go_simp
                          all_goals first | with_reducible rfl | omega
                        try simp only [Act.put, pu]
                        refine tkY 11 ?_ rfl hS ?_ ?_
                        rotate_left
                        · intro wz hz
                          obtain ⟨⟨z0, z1, z2, z3, z4, z5, z6⟩, t0, t1, t2, t3, t4, t5, t6⟩ := hz
                          go_simp
                          all_goals first | with_reducible rfl | omega
                        try simp only [Act.put, pu]
                        refine tkY 12 ?_ rfl hS ?_ ?_
                        rotate_left
                        · intro wz hz
                          obtain ⟨⟨z0, z1, z2, z3, z4, z5, z6⟩, t0, t1, t2, t3, t4, t5, t6⟩ := hz
                          go_simp
                          all_goals first | with_reducible rfl | omega
                        try simp only [Act.put, pu]
                        refine tkY 13 ?_ rfl hS ?_ ?_
                        rotate_left
                        · intro wz hz
                          obtain ⟨⟨z0, z1, z2, z3, z4, z5, z6⟩, t0, t1, t2, t3, t4, t5, t6⟩ := hz
                          go_simp
                          all_goals first | with_reducible rfl | omega
                        try simp only [Act.put, pu]
                        refine tkY 14 ?_ rfl hS ?_ ?_
                        rotate_left
                        · intro wz hz
                          obtain ⟨⟨z0, z1, z2, z3, z4, z5, z6⟩, t0, t1, t2, t3, t4, t5, t6⟩ := hz
                          go_simp
                          all_goals first | with_reducible rfl | omega
                        try simp only [Act.put, pu]
                        refine tkY 15 ?_ rfl hS ?_ ?_
                        rotate_left
                        · intro wz hz
                          obtain ⟨⟨z0, z1, z2, z3, z4, z5, z6⟩, t0, t1, t2, t3, t4, t5, t6⟩ := hz
                          go_simp
                          all_goals first | with_reducible rfl | omega
                        try simp only [Act.put, pu]
                        refine tkY 16 ?_ rfl hS ?_ ?_
                        rotate_left
                        · intro wz hz
                          obtain ⟨⟨z0, z1, z2, z3, z4, z5, z6⟩, t0, t1, t2, t3, t4, t5, t6⟩ := hz
                          go_simp
                          all_goals first | with_reducible rfl | omega
                        try simp only [Act.put, pu]
                        refine tkY 17 ?_ rfl hS ?_ ?_
                        rotate_left
                        · intro wz hz
                          obtain ⟨⟨z0, z1, z2, z3, z4, z5, z6⟩, t0, t1, t2, t3, t4, t5, t6⟩ := hz
                          go_simp
                          all_goals first | with_reducible rfl | omega
                        try simp only [Act.put, pu]
                        refine tkY 18 ?_ rfl hS ?_ ?_
                        rotate_left
                        · intro wz hz
                          obtain ⟨⟨z0, z1, z2, z3, z4, z5, z6⟩, t0, t1, t2, t3, t4, t5, t6⟩ := hz
                          go_simp
                          all_goals first | with_reducible rfl | omega
                        try simp only [Act.put, pu]
                        refine tkY 19 ?_ rfl hS ?_ ?_
                        rotate_left
                        · intro wz hz
                          obtain ⟨⟨z0, z1, z2, z3, z4, z5, z6⟩, t0, t1, t2, t3, t4, t5, t6⟩ := hz
                          go_simp
                          all_goals first | with_reducible rfl | omega
                        try simp only [Act.put, pu]
                        refine tkY 20 ?_ rfl hS ?_ ?_
                        rotate_left
                        · intro wz hz
                          obtain ⟨⟨z0, z1, z2, z3, z4, z5, z6⟩, t0, t1, t2, t3, t4, t5, t6⟩ := hz
                          go_simp
                          all_goals first | with_reducible rfl | omega
                        try simp only [Act.put, pu]
                        refine tkY 21 ?_ rfl hS ?_ ?_
                        rotate_left
                        · intro wz hz
                          obtain ⟨⟨z0, z1, z2, z3, z4, z5, z6⟩, t0, t1, t2, t3, t4, t5, t6⟩ := hz
                          go_simp
                          all_goals first | with_reducible rfl | omega
                        try simp only [Act.put, pu]
                        refine tkY 22 ?_ rfl hS ?_ ?_
                        rotate_left
                        · intro wz hz
                          obtain ⟨⟨z0, z1, z2, z3, z4, z5, z6⟩, t0, t1, t2, t3, t4, t5, t6⟩ := hz
                          go_simp
                          all_goals first | with_reducible rfl | omega
                        try simp only [Act.put, pu]
                        refine tkY 23 ?_ rfl hS ?_ ?_
                        rotate_left
                        · intro wz hz
                          obtain ⟨⟨z0, z1, z2, z3, z4, z5, z6⟩, t0, t1, t2, t3, t4, t5, t6⟩ := hz
                          go_simp
                          all_goals first | with_reducible rfl | omega
                        try simp only [Act.put, pu]
                        refine tkY 24 ?_ rfl hS ?_ ?_
                        rotate_left
                        · intro wz hz
                          obtain ⟨⟨z0, z1, z2, z3, z4, z5, z6⟩, t0, t1, t2, t3, t4, t5, t6⟩ := hz
                          go_simp
                          all_goals first | with_reducible rfl | omega
                        try simp only [Act.put, pu]
                        refine tkY 25 ?_ rfl hS ?_ ?_
                        rotate_left
                        · intro wz hz
                          obtain ⟨⟨z0, z1, z2, z3, z4, z5, z6⟩, t0, t1, t2, t3, t4, t5, t6⟩ := hz
                          go_simp
                          all_goals first | with_reducible rfl | omega
                        try simp only [Act.put, pu]
                        refine wpAnyH_done (by kernel_rfl) ?_ _
                        clear hS
                        go_wp2
                        go_roundg gj
                        case measure => exact Nat.lt_succ_self _
                        case rel => exact ⟨j1, _, rfl, rfl, HJ.out, HOK.out, by first | exact HB.out.drew.drew | exact HB.out.drew | exact HB.out⟩
            · have k0' : (kd == 0) = false := by simpa using k0
              have k1' : (kd == 1) = false := by simpa using k1
              have kk := H.out.blk (List.mem_cons_self ..)
              have y0 : W7.cell? ⟨ob, 0, none⟩ = some (.int .i64 kd) := kk.cell 0
              have y1 : W7.cell? ⟨ob, 1, none⟩ = some (.string o1) := kk.cell 1
              have y2 : W7.cell? ⟨ob, 2, none⟩ = some (.string o2) := kk.cell 2
              have y3 : W7.cell? ⟨ob, 3, none⟩ = some (.int .i64 o3) := kk.cell 3
              have y4 : W7.cell? ⟨ob, 4, none⟩ = some (.string o4) := kk.cell 4
              have y5 : W7.cell? ⟨ob, 5, none⟩ = some (.string val) := kk.cell 5
              have y6 : W7.cell? ⟨ob, 6, none⟩ = some (.int .i64 now) := kk.cell 6
              clear kk
              go_wp2_with fail
              try rw [hW7]
              try rw [hob]
              refine (HSH.out _).mono ?_
              rintro e w3 ⟨rfl, hb3⟩
              have H := Lib.hid (H.out.below hb3)
              clear hb3 hW7 hob HSH
              clear x0 x1 x2 x3 x4 x5 x6
              clear y0 y1 y2 y3 y4 y5 y6
              have kk := H.out.blk (List.mem_cons_self ..)
              have y0 : w3.cell? ⟨ob, 0, none⟩ = some (.int .i64 kd) := kk.cell 0
              have y1 : w3.cell? ⟨ob, 1, none⟩ = some (.string o1) := kk.cell 1
              have y2 : w3.cell? ⟨ob, 2, none⟩ = some (.string o2) := kk.cell 2
              have y3 : w3.cell? ⟨ob, 3, none⟩ = some (.int .i64 o3) := kk.cell 3
              have y4 : w3.cell? ⟨ob, 4, none⟩ = some (.string o4) := kk.cell 4
              have y5 : w3.cell? ⟨ob, 5, none⟩ = some (.string val) := kk.cell 5
              have y6 : w3.cell? ⟨ob, 6, none⟩ = some (.int .i64 now) := kk.cell 6
              clear kk
              have H := Lib.hid (H.out.forget (O' := [Kh w.heap.size (.slice ua Hs.length uc) Hs]) fun p hp => List.mem_cons_of_mem _ hp)
              obtain ⟨z, hz⟩ : ∃ z, sumE (σ).T + sumE (σ).K = z := ⟨_, rfl⟩
              have lz : ¬ (40 + a0 < z) := by
                have h1 := (HI.out).sa
                have h2 := HQ.out.1
                omega
              have HZ := Lib.hid hz
              clear hz
              go_wp2_with fail
              refine (lc_bytes H.out z HZ.out).mono ?_
              rintro e w9 ⟨rfl, hb9⟩
              have H := Lib.hid (H.out.below hb9)
              clear hb9
              go_wp2
              go_roundg g
              case measure => exact Nat.lt_succ_self _
              case rel => exact ⟨i1, n, σ, Hs, rfl, HI1.out.1, by have := HI1.out; omega, by have := HI1.out; omega, HRG.out, HI.out, HH.out, H.out⟩
        · have v5 : (500 : Int) < (val.size : Int) := by omega
          clear hv
          have kk := H.out.blk (List.mem_cons_self ..)
          have y0 : W7.cell? ⟨ob, 0, none⟩ = some (.int .i64 kd) := kk.cell 0
          have y1 : W7.cell? ⟨ob, 1, none⟩ = some (.string o1) := kk.cell 1
          have y2 : W7.cell? ⟨ob, 2, none⟩ = some (.string o2) := kk.cell 2
          have y3 : W7.cell? ⟨ob, 3, none⟩ = some (.int .i64 o3) := kk.cell 3
          have y4 : W7.cell? ⟨ob, 4, none⟩ = some (.string o4) := kk.cell 4
          have y5 : W7.cell? ⟨ob, 5, none⟩ = some (.string val) := kk.cell 5
          have y6 : W7.cell? ⟨ob, 6, none⟩ = some (.int .i64 now) := kk.cell 6
          clear kk
          go_wp2_with fail
          try rw [hW7]
          try rw [hob]
          refine (HSH.out _).mono ?_
          rintro e w3 ⟨rfl, hb3⟩
          have H := Lib.hid (H.out.below hb3)
          clear hb3 hW7 hob HSH
          clear x0 x1 x2 x3 x4 x5 x6
          clear y0 y1 y2 y3 y4 y5 y6
          have kk := H.out.blk (List.mem_cons_self ..)
          have y0 : w3.cell? ⟨ob, 0, none⟩ = some (.int .i64 kd) := kk.cell 0
          have y1 : w3.cell? ⟨ob, 1, none⟩ = some (.string o1) := kk.cell 1
          have y2 : w3.cell? ⟨ob, 2, none⟩ = some (.string o2) := kk.cell 2
          have y3 : w3.cell? ⟨ob, 3, none⟩ = some (.int .i64 o3) := kk.cell 3
          have y4 : w3.cell? ⟨ob, 4, none⟩ = some (.string o4) := kk.cell 4
          have y5 : w3.cell? ⟨ob, 5, none⟩ = some (.string val) := kk.cell 5
          have y6 : w3.cell? ⟨ob, 6, none⟩ = some (.int .i64 now) := kk.cell 6
          clear kk
          go_wp2
          go_roundg g
          case measure => exact Nat.lt_succ_self _
          case rel => exact ⟨i1, n, σ, Hs, rfl, HI1.out.1, by have := HI1.out; omega, by have := HI1.out; omega, HRG.out, HI.out, HH.out, H.out.forget (O' := [Kh w.heap.size (.slice ua Hs.length uc) Hs]) fun p hp => List.mem_cons_of_mem _ hp⟩
end Go.Proofs.Ytjngangojgjceaa.CA
