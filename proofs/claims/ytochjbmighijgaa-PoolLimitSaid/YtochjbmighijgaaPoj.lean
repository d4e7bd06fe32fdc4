/- Package pool, its code: a new number, open, find, end. Conditions: how many calls there were; how long names are. -/
import Derived.Test.YtochjbmighijgaaPoi
namespace Go.Proofs.Ytochjbmighijgaa.PO
open Go.ChangeShapes Go.WideShapes Go.ChangeAt Go.RowKit Go.Maps Go.ChangeMaps
open Go.Proofs.Ytochjbmighijgaa.SL Go.Proofs.Ytochjbmighijgaa.RW
open Go.Proofs.Ytochjbmighijgaa.LN (tkY tkN pu OI IS RdP)
set_option maxRecDepth 100000
set_option linter.unusedVariables false
set_option linter.unusedSimpArgs false

section
variable {B : Nat} {w w' : World} {a N : Nat} {C : Cf} {R : Raw} {M : Nat → Mem}
theorem PL.trans_fr {w0 : World} {N' : Nat} {R' : Raw} (h : Fr B w0 w) (k : PL B w' a N' C R' ∧ Fr B w w') : PL B w' a N' C R' ∧ Fr B w0 w' := ⟨k.1, h.trans k.2⟩
set_option maxHeartbeats 4000000 in
theorem come_any (h : PL B w a N C R) (hl : R.last ≤ 1000000) :
    Calls Try.prog 42 #[ptr C.pb] w fun e w' => e = .returned (nV ((R.last + 1 : Nat) : Int)) ∧ PL B w' a N C { R with last := R.last + 1 } ∧ Fr B w w' := by
  obtain ⟨M, h⟩ := h
  obtain ⟨c0, c1, c2, c3, c4, c5, c6, c7, c8, c9⟩ := h.cells
  have f5 := h.bk.frozen 5
  have p0 := h.pk.cell 0
  simp at p0
  obtain ⟨L, hL⟩ : ∃ L, R.last + 1 = L := ⟨_, rfl⟩
  have wk : IntKind.i64.wrap ((R.last : Int) + 1) = (L : Int) := by rw [show (R.last : Int) + 1 = (L : Int) by omega]; exact IntWalk.i64_in _ (by omega)
  obtain ⟨hp, hf⟩ := h.number L
  have k1 := hp.bk.cell 5
  have k2 : (w.setCell ⟨a, 5, none⟩ (nV (L : Int))).cell? ⟨C.pb, 0, none⟩ = some (ptr a) := by have := hp.pk.cell 0; simpa using this
  rw [hL]
  have HF := Lib.hid (show PL B (w.setCell ⟨a, 5, none⟩ (nV (L : Int))) a N C { R with last := L } ∧ Fr B w (w.setCell ⟨a, 5, none⟩ (nV (L : Int))) from ⟨⟨M, hp⟩, hf⟩)
  have hne : C.pb ≠ a := h.pk.ne_ h.bk (by decide)
  clear h hp hf hl hL
  go_enter Try.func42, Try.ntmps42
  go_wp2
  go_ret
  exact ⟨rfl, HF.out⟩
def openR (R : Raw) (g : Nat) (q : Row) (c : Int) : Raw := lendR { R with rows := upd R.rows g (some { q with conns := q.conns + 1 }), last := R.last + 1 } g c ((R.last + 1 : Nat) : Int)
set_option maxHeartbeats 4000000 in
theorem open_any (h : PL B w a N C R) (hN : N ≤ 1000000) (hl : R.last ≤ 1000000) {g : Nat} {q : Row} (hg : R.rows g = some q) (hq : q.conns ≤ 1000000) (c : Int) (hc : I9 c) :
    Calls Try.prog 24 #[ptr a, ptr g, nV c] w fun e w' => e = .returned (loV c ((R.last + 1 : Nat) : Int) true) ∧ PL B w' a (N + 2) C (openR R g q c) ∧ Fr B w w' := by
  obtain ⟨W0, hW0⟩ : ∃ W, w.alloc (.cells #[nV 0, nV 0, .bool false] 30) = W := ⟨_, rfl⟩
  obtain ⟨kb, hkb⟩ : ∃ b, w.heap.size = b := ⟨_, rfl⟩
  have HB0 : Hid (Below w.heap.size w W0) := Lib.hid (by rw [← hW0]; exact (Below.refl _ _).alloc (Nat.le_refl _) _)
  have HK0 : Hid (Bk W0 kb 30 #[nV 0, nV 0, .bool false]) := Lib.hid (by rw [← hW0, ← hkb]; exact Bk.new _ _ _)
  have HF0 := Lib.hid (h.fr HB0.out)
  have HBW := Lib.hid h.le
  obtain ⟨M, h⟩ := h
  have h0 := h.below HB0.out
  have hr := h0.row g q hg
  obtain ⟨x0, x1, x2, x3⟩ := hr.cells
  have f1 := hr.bk.frozen 1
  obtain ⟨L, hL⟩ : ∃ L, q.conns + 1 = L := ⟨_, rfl⟩
  have wk : IntKind.i64.wrap ((q.conns : Int) + 1) = (L : Int) := by rw [show (q.conns : Int) + 1 = (L : Int) by omega]; exact IntWalk.i64_in _ (by omega)
  obtain ⟨hp1, hf1⟩ := h0.turn hg (turned_conns hr L)
  obtain ⟨W1, hW1⟩ : ∃ W, W0.setCell ⟨g, 1, none⟩ (nV (L : Int)) = W := ⟨_, rfl⟩
  rw [hW1] at hp1 hf1
  have k1 : Bk W1 kb 30 #[nV 0, nV 0, .bool false] := hf1.kt.bk HK0.out
  have HP1 := Lib.hid (show PL B W1 a N C { R with rows := upd R.rows g (some { q with conns := L }) } from hp1)
  have HF1 := Lib.hid (HF0.out.trans hf1)
  have HK1 := Lib.hid k1
  have d6 := (PL.cells hp1).2.2.2.2.2.2.1
  have HCO := Lib.hid (come_any HP1.out hl)
  have HI : Hid (I9 (((R.last + 1 : Nat) : Int))) := Lib.hid ⟨by omega, by omega⟩
  have HCC := Lib.hid hc
  have HN := Lib.hid hN
  have HL := Lib.hid hL
  have HSZ : Hid (w.heap.size ≤ kb) := Lib.hid (Nat.le_of_eq hkb)
  clear h h0 hr hg hq hc hN hl hp1 hf1 k1 hL
  unfold openR
  rw [HL.out]
  obtain ⟨T, hT⟩ : ∃ T, R.last + 1 = T := ⟨_, rfl⟩
  rw [hT] at HCO HI ⊢
  clear hT
  go_enter Try.func24, Try.ntmps24
  go_wp2_with fail
  try rw [hW1]
  try rw [hW0]
  try rw [hkb]
  try clear hW0 hkb
  refine HCO.out.mono ?_
  rintro e w2 ⟨rfl, hp2, hf2⟩
  have HP2 := Lib.hid hp2
  have HF2 := Lib.hid (HF1.out.trans hf2)
  have HK2 := Lib.hid (hf2.kt.bk HK1.out)
  have HLE := Lib.hid (lend_any HP2.out HN.out g c (T : Int) HCC.out HI.out true)
  clear hp2 hf2
  go_wp2_with fail
  refine HLE.out.mono ?_
  rintro e w3 ⟨rfl, hp3, hf3⟩
  have HP3 := Lib.hid hp3
  have HF3 := Lib.hid (HF2.out.trans hf3)
  have k3 := hf3.kt.bk HK2.out
  have K3 := Lib.hid k3
  have q0 := k3.cell 0
  have qf0 := k3.frozen 0
  have q1 := k3.cell 1
  have qf1 := k3.frozen 1
  have q2 := k3.cell 2
  have qf2 := k3.frozen 2
  simp at q0 q1 q2
  clear hp3 hf3 k3
  go_wp2
  have k5 := ((K3.out.set_ 0 (nV c)).set_ 1 (nV (T : Int))).set_ 2 (.bool true)
  have e0 := k5.cell 0
  have e1 := k5.cell 1
  have e2 := k5.cell 2
  simp at e0 e1 e2
  refine bodyPost_ret (v := loV c (T : Int) true) (by simp [results, Try.results24, go_sem, e0, e1, e2]) rfl ?_
  have hr := PL.cell3 HP3.out HF3.out HSZ.out HBW.out K3.out (nV c) (nV (T : Int)) (.bool true)
  exact ⟨rfl, hr.1, hr.2⟩
theorem clone_any (s : ByteArray) (w : World) (hs : s.size ≤ 281474976710656) :
    Calls Try.prog 43 #[.string s] w fun e w' => e = .returned (.string s) ∧ Below w.heap.size w w' := by
  have c := fun w => Try.stringslite_Clone s w (by omega)
  go_enter Try.func43, Try.ntmps43
  go_wp2_with (go_at_call 59; refine (c _).mono ?_; rintro e w' ⟨rfl, hb⟩)
  go_ret
  exact ⟨rfl, hb⟩
theorem find_some (h : PL B w a N C R) (k : ByteArray) (hk : k.size ≤ 281474976710656) {g : Nat} (hg : R.gm k = some g) :
    Calls Try.prog 21 #[ptr a, .string k] w fun e w' => e = .returned (ptr g) ∧ w = w' := by
  obtain ⟨M, h⟩ := h
  obtain ⟨c0, c1, c2, c3, c4, c5, c6, c7, c8, c9⟩ := h.cells
  have hl := h.lookG k hk
  rw [hg] at hl
  simp only [pV, Option.isSome_some] at hl
  clear h hk hg
  go_enter Try.func21, Try.ntmps21
  go_wp2
  go_ret
  exact ⟨rfl, rfl⟩
def findR (R : Raw) (k : ByteArray) (g : Nat) : Raw := { R with gm := upd R.gm k (some g), rows := upd R.rows g (some ⟨k, 0, [], []⟩) }
set_option maxHeartbeats 4000000 in
theorem find_none (h : PL B w a N C R) (hN : N ≤ 1000000) (k : ByteArray) (hk : k.size ≤ 281474976710656) (hg : R.gm k = none) :
    Calls Try.prog 21 #[ptr a, .string k] w fun e w' => ∃ g, e = .returned (ptr g) ∧ PL B w' a (N + 1) C (findR R k g) ∧ R.rows g = none ∧ Fr B w w' := by
  have HPL := Lib.hid h
  obtain ⟨M, h⟩ := h
  obtain ⟨c0, c1, c2, c3, c4, c5, c6, c7, c8, c9⟩ := h.cells
  have hl := h.lookG k hk
  rw [hg] at hl
  simp only [pV, Option.isSome_none] at hl
  have HP := Lib.hid h
  have HC := Lib.hid (clone_any k w hk)
  have HK := Lib.hid hk
  have HN := Lib.hid hN
  have HCF := Lib.hid h.cf
  clear h hk hg hN
  go_enter Try.func21, Try.ntmps21
  go_wp2_with fail
  refine HC.out.mono ?_
  rintro e w1 ⟨rfl, hb1⟩
  have HB1 := Lib.hid hb1
  obtain ⟨d0, d1, d2, d3, d4, d5, d6, d7, d8, d9⟩ := (HP.out.below hb1).cells
  have HLN := Lib.hid (LN.new_yes w1 C.most HCF.out.2.2.1 (by have := HCF.out.2.2.2.1; omega))
  clear hb1 c0 c1 c2 c3 c4 c5 c6 c7 c8 c9
  go_wp2_with fail
  refine HLN.out.mono ?_
  rintro e w2 ⟨lb, rfl, hlc, hb2⟩
  obtain ⟨W3, hW3⟩ : ∃ W, w2.alloc (.cells #[.string k, nV 0, .slice none 0 0, ptr lb] 65) = W := ⟨_, rfl⟩
  obtain ⟨g, hgb⟩ : ∃ b, w2.heap.size = b := ⟨_, rfl⟩
  have hb3 : Below w2.heap.size w2 W3 := by rw [← hW3]; exact (Below.refl _ _).alloc (Nat.le_refl _) _
  have k3 : Bk W3 g 65 #[.string k, nV ((0 : Nat) : Int), .slice none 0 0, ptr lb] := by rw [← hW3, ← hgb]; exact Bk.new _ _ _
  have hb12 := HB1.out.trans (hb2.mono HB1.out.size)
  have hb123 := hb12.trans (hb3.mono hb12.size)
  have hBw := HPL.out.le
  have hs1 := HB1.out.size
  have hs2 := hb2.size
  have hrow : RowP B W3 C.most g ⟨k, 0, [], []⟩ ⟨.slice none 0 0, lb, .slice none 0 0⟩ := ⟨k3, EQ.nil _ _, (hlc.mono (by omega)).below hb3, by omega, HK.out⟩
  have hlb := hlc.ab
  obtain ⟨⟨M', hp4⟩, hno⟩ := HP.out.fresh hb123 hrow (fun b hb => by
    rcases hb with hb | hb | hb | hb
    · omega
    · cases hb
    · have hb : b = lb := hb
      omega
    · cases hb)
  obtain ⟨_, _, _, _, _, _, _, x7, _, _⟩ := hp4.cells
  obtain ⟨w5, hrun, hm5, ht5⟩ := hp4.mg.put strK Try.underlying49 (by have := HN.out; unfold maxLen; omega) (keyB k HK.out) (ptr g)
  obtain ⟨hp5, hf5⟩ := hp4.putG (Nat.le_succ N) k (some g) hm5 ht5
  have HF : Hid (∃ g', Ending.returned (ptr g) = .returned (ptr g') ∧ PL B w5 a (N + 1) C (findR R k g') ∧ R.rows g' = none ∧ Fr B w w5) := Lib.hid ⟨g, rfl, ⟨M', hp5⟩, hno, (HPL.out.fr hb123).trans hf5⟩
  clear hlc hb2 hb3 k3 hb12 hb123 hrow hlb hp4 hno hm5 ht5 hp5 hf5 hs1 hs2 hBw d0 d1 d2 d3 d4 d5 d6 d7 d8 d9
  go_wp2_with fail
  try rw [hW3]
  try rw [hgb]
  go_wp2
  go_ret
  exact HF.out
def endR (R : Raw) (n : Int) (g : Nat) (q : Row) : Raw := { R with nm := upd R.nm n none, rows := upd R.rows g (some { q with conns := q.conns - 1 }), gm := if q.conns = 1 then upd R.gm q.name none else R.gm }
set_option maxHeartbeats 8000000 in
theorem end_any (h : PL B w a N C R) {n : Int} {g : Nat} {q : Row} {c s : Int} (hn : I9 n) (hl : R.nm n = some (g, c, s)) (hg : R.rows g = some q) (hq : 1 ≤ q.conns ∧ q.conns ≤ 1000000) :
    Calls Try.prog 30 #[ptr a, nV n] w fun e w' => e = .returned (.tuple #[]) ∧ PL B w' a N C (endR R n g q) ∧ Fr B w w' := by
  obtain ⟨M, h⟩ := h
  obtain ⟨c0, c1, c2, c3, c4, c5, c6, c7, c8, c9⟩ := h.cells
  have hlk := h.lookL1 n hn
  rw [hl] at hlk
  simp only [lkO, lkV] at hlk
  have hfd : ∀ w : World, (Instr.field 73 (.agg #[ptr g, nV c, nV s]) 0).run Try.prog w = .ok (ptr g) w := fun _ => by kernel_rfl
  have HP := Lib.hid h
  have HKN := Lib.hid (keyI n hn)
  have HG := Lib.hid hg
  obtain ⟨L, hL⟩ : ∃ L, q.conns - 1 = L := ⟨_, rfl⟩
  have wk : IntKind.i64.wrap ((q.conns : Int) - 1) = (L : Int) := by rw [show (q.conns : Int) - 1 = (L : Int) by omega]; exact IntWalk.i64_in _ (by omega)
  have HL : Hid (q.conns - 1 = L ∧ q.conns = L + 1) := Lib.hid (by omega)
  unfold endR
  rw [HL.out.1]
  by_cases hq1 : q.conns = 1
  · rw [if_pos hq1]
    have hL0 : L = 0 := by omega
    subst hL0
    rw [hq1] at wk
    clear h hn hl hg hq hL
    go_enter Try.func30, Try.ntmps30
    go_wp2_with (at_delete; refine MV.wpList_del rfl _ _ 51 rfl 73 iK Try.underlying51 rfl HP.out.mn _ _ rfl HKN.out ?_; intro w1 hm1 ht1; (obtain ⟨hp1, hf1⟩ := HP.out.putL (Nat.le_refl N) n none hm1 ht1); (have hr1 := hp1.row g q HG.out); (obtain ⟨x0, x1, x2, x3⟩ := hr1.cells); (have f1 := hr1.bk.frozen 1); (obtain ⟨⟨M2, hp2⟩, hf2⟩ := hp1.turn HG.out (turned_conns hr1 0)); (obtain ⟨W2, hW2⟩ : ∃ W, w1.setCell ⟨g, 1, none⟩ (nV 0) = W := ⟨_, rfl⟩); (have hp2 : PB B W2 a N C { last := R.last, gm := R.gm, sm := R.sm, nm := upd R.nm n none, rows := upd R.rows g (some { name := q.name, conns := 0, idle := q.idle, line := q.line }) } M2 := by rw [← hW2]; exact hp2); (have hf2 : Fr B w1 W2 := by rw [← hW2]; exact hf2); have HP2 := Lib.hid (show PL B W2 a N C { last := R.last, gm := R.gm, sm := R.sm, nm := upd R.nm n none, rows := upd R.rows g (some { name := q.name, conns := 0, idle := q.idle, line := q.line }) } from ⟨M2, hp2⟩); have HF2 := Lib.hid (hf1.trans hf2); (have y1 := (hp2.row g { q with conns := 0 } (upd_at _ _ _)).cells.2.1); (have y0 := (hp2.row g { q with conns := 0 } (upd_at _ _ _)).cells.1); (have y7 := hp2.cells.2.2.2.2.2.2.2.1); clear hm1 ht1 hp1 hf1 hr1 c0 c1 c2 c3 c4 c5 c6 c7 c8 c9)
    have hu := hp2.below (w' := W2.drew) (Below.refl _ _).drew
    obtain ⟨w5, hrun, hm5, ht5⟩ := hu.mg.drop strK Try.underlying49 (keyB q.name (hu.row g { q with conns := 0 } (upd_at _ _ _)).nm) 0
    obtain ⟨hp5, hf5⟩ := hu.putG (Nat.le_refl N) q.name none hm5 ht5
    have HF := Lib.hid (show PL B w5 a N C { last := R.last, gm := upd R.gm q.name none, sm := R.sm, nm := upd R.nm n none, rows := upd R.rows g (some { name := q.name, conns := 0, idle := q.idle, line := q.line }) } ∧ Fr B w w5 from ⟨⟨M2, hp5⟩, (HF2.out.trans (Fr.below (Below.refl _ _).drew hp2.le)).trans hf5⟩)
    clear hu hm5 ht5 hp5 hf5 hp2
    go_wp2_with fail
    try rw [hW2]
    go_region
    go_end0
    exact ⟨rfl, HF.out⟩
  · rw [if_neg hq1]
    have hL0 : ¬ ((L : Int) = 0) := by omega
    clear h hn hl hg hq hL
    go_enter Try.func30, Try.ntmps30
    go_wp2_with (at_delete; refine MV.wpList_del rfl _ _ 51 rfl 73 iK Try.underlying51 rfl HP.out.mn _ _ rfl HKN.out ?_; intro w1 hm1 ht1; (obtain ⟨hp1, hf1⟩ := HP.out.putL (Nat.le_refl N) n none hm1 ht1); (have hr1 := hp1.row g q HG.out); (obtain ⟨x0, x1, x2, x3⟩ := hr1.cells); (have f1 := hr1.bk.frozen 1); (obtain ⟨⟨M2, hp2⟩, hf2⟩ := hp1.turn HG.out (turned_conns hr1 L)); (obtain ⟨W2, hW2⟩ : ∃ W, w1.setCell ⟨g, 1, none⟩ (nV (L : Int)) = W := ⟨_, rfl⟩); (have hp2 : PB B W2 a N C { last := R.last, gm := R.gm, sm := R.sm, nm := upd R.nm n none, rows := upd R.rows g (some { name := q.name, conns := L, idle := q.idle, line := q.line }) } M2 := by rw [← hW2]; exact hp2); (have hf2 : Fr B w1 W2 := by rw [← hW2]; exact hf2); have HP2 := Lib.hid (show PL B W2 a N C { last := R.last, gm := R.gm, sm := R.sm, nm := upd R.nm n none, rows := upd R.rows g (some { name := q.name, conns := L, idle := q.idle, line := q.line }) } from ⟨M2, hp2⟩); have HF2 := Lib.hid (hf1.trans hf2); (have y1 := (hp2.row g { q with conns := L } (upd_at _ _ _)).cells.2.1); (have y0 := (hp2.row g { q with conns := L } (upd_at _ _ _)).cells.1); (have y7 := hp2.cells.2.2.2.2.2.2.2.1); clear hm1 ht1 hp1 hf1 hr1 c0 c1 c2 c3 c4 c5 c6 c7 c8 c9)
    clear hp2
    go_wp2_with fail
    try rw [hW2]
    go_end0
    exact ⟨rfl, HP2.out, HF2.out⟩
end
end Go.Proofs.Ytochjbmighijgaa.PO
