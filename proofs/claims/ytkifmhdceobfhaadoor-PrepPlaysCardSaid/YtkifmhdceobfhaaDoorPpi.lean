/- Package prep, its code: Has. Conditions: how many texts there are. -/
import Derived.Test.YtkifmhdceobfhaaDoorPph
import Derived.Laws.MakeOwn
import Derived.Laws.IdiomRangeMap
import Derived.Maps.RangeWalk
namespace Go.Proofs.YtkifmhdceobfhaaDoor.PP
open Go.ChangeShapes Go.WideShapes Go.ChangeAt Go.RowKit Go.Maps Go.ChangeMaps
open Go.Proofs.YtkifmhdceobfhaaDoor.SL
set_option maxRecDepth 100000
set_option linter.unusedVariables false
set_option linter.unusedSimpArgs false

theorem iTx : ∃ i, Tryd.prog.info? 9 = some i ∧ i.zero = some (.string ByteArray.empty) ∧ i.size = 1 ∧ i.bytes = 16 := by
  have h : (Tryd.prog.info? 9).bind (fun i => if i.size = 1 ∧ i.bytes = 16 then i.zero else none) = some (.string ByteArray.empty) := by kernel_rfl
  cases hi : Tryd.prog.info? 9 with
  | none => rw [hi] at h; cases h
  | some j =>
    rw [hi] at h
    by_cases hc : j.size = 1 ∧ j.bytes = 16
    · simp only [Option.bind_some, if_pos hc] at h
      exact ⟨j, rfl, h, hc.1, hc.2⟩
    · simp [hc] at h
abbrev txA (d : List Tx) : Array Value := (d.map bV).toArray
/-- an empty list of texts of some length -/
theorem make_texts (w : World) (n : Nat) (hn : n ≤ 65536) : (Instr.makeSlice 27 (nV (n : Int)) (nV (n : Int))).run Tryd.prog w = .ok (.slice (some ⟨w.heap.size, 0, none⟩) n n) (w.alloc (.cells (txA (List.replicate n ByteArray.empty)) 9)) := by
  obtain ⟨i, hi, hz, hs, hb⟩ := iTx
  have := run_makeSlice (P := Tryd.prog) w 27 9 i (.string ByteArray.empty) Tryd.underlying27 hi hz .i64 .i64 (n : Int) (n : Int) (by omega) (Int.le_refl _) (by rw [hs]; omega) (by rw [hb]; omega) (by omega)
  rw [this]
  have e1 : madeCells (Value.string ByteArray.empty).cells ((n : Int).toNat * i.size) = txA (List.replicate n ByteArray.empty) := by
    rw [hs, Int.toNat_natCast, Nat.mul_one]
    apply Array.ext
    · rw [size_madeCells]; simp
    · intro k h1 h2
      unfold madeCells txA
      have hz : ∀ k : Nat, ((Value.string ByteArray.empty).cells)[k % (Value.string ByteArray.empty).cells.size]! = Value.string ByteArray.empty := by
        intro k
        show (#[Value.string ByteArray.empty] : Array Value)[k % 1]! = _
        rw [Nat.mod_one]; rfl
      simp [hz]
  rw [e1, Int.toNat_natCast]
theorem bk_texts {w : World} {B g : Nat} {d : List Tx} (h : Bk w g 9 (txA d)) (hB : B ≤ g) (hd : d.length ≤ 65536) : OT B w (.slice (some ⟨g, 0, none⟩) d.length d.length) d := by
  refine ⟨by simp, .inr ⟨g, d.length, txA d, rfl, hB, h, Nat.le_refl _, by unfold maxLen; omega, by simp, ?_⟩⟩
  simp
  exact List.take_of_length_le (by simp)
theorem txA_set (d : List Tx) (i : Nat) (x : Tx) : (txA d).setIfInBounds i (.string x) = txA (d.set i x) := by
  unfold txA
  simp [List.map_set]
theorem txA_at (d : List Tx) (i : Nat) (x : Tx) (h : d[i]? = some x) : (txA d)[i]? = some (.string x) := by
  unfold txA
  simp [h]
/-- how far a list of names has come: those that are still to come are empty -/
def Part (l : List Nat) (left : Lit → Bool) (d : List Tx) : Prop := d.length = l.length ∧ ∀ (i x : Nat), l[i]? = some x → d[i]? = some (if left (.int .i64 (x : Int)) = true then ByteArray.empty else nm x)
theorem key_i64 (k : Int) : WideAt.IsKeyLit (.int .i64 k) := trivial
theorem Part.start (l : List Nat) (left : Lit → Bool) (h : ∀ x ∈ l, left (.int .i64 (x : Int)) = true) : Part l left (List.replicate l.length ByteArray.empty) := by
  refine ⟨by simp, fun i x hx => ?_⟩
  have hi := (List.getElem?_eq_some_iff.1 hx).1
  rw [if_pos (h x (List.mem_of_getElem? hx)), List.getElem?_replicate, if_pos hi]
theorem Part.done {l : List Nat} {left : Lit → Bool} {d : List Tx} (h : Part l left d) (hl : ∀ kl, left kl = false) : d = l.map nm := by
  obtain ⟨h1, h2⟩ := h
  apply List.ext_getElem?
  intro i
  rw [List.getElem?_map]
  cases hx : l[i]? with
  | none =>
    have := List.getElem?_eq_none_iff.1 hx
    rw [Option.map_none, List.getElem?_eq_none_iff]
    omega
  | some x => rw [h2 i x hx, hl]; rfl
theorem Part.step {l : List Nat} {left : Lit → Bool} {d : List Tx} (h : Part l left d) (hn : l.Nodup) {i x : Nat} (hx : l[i]? = some x) : Part l (fun z => left z && !z.sameKey (.int .i64 (x : Int))) (d.set i (nm x)) := by
  obtain ⟨h1, h2⟩ := h
  refine ⟨by rw [List.length_set]; exact h1, fun j y hy => ?_⟩
  have hi := (List.getElem?_eq_some_iff.1 hx).1
  by_cases e : j = i
  · subst e
    rw [hx] at hy
    injection hy with hy
    subst hy
    show _ = some (if (left (.int .i64 (x : Int)) && !(Lit.int .i64 (x : Int)).sameKey (.int .i64 (x : Int))) = true then ByteArray.empty else nm x)
    rw [WideAt.sameKey_self (key_i64 _), List.getElem?_set_self (by omega)]
    simp
  · have hne : (Lit.int .i64 (y : Int)).sameKey (.int .i64 (x : Int)) = false := sameKey_ne fun e2 => by
      injection e2 with _ e2
      have e2 : y = x := by omega
      subst e2
      obtain ⟨j1, j2⟩ := List.getElem?_eq_some_iff.1 hy
      obtain ⟨i1, i2⟩ := List.getElem?_eq_some_iff.1 hx
      rcases Nat.lt_or_gt_of_ne e with hh | hh
      · exact (List.pairwise_iff_getElem.1 hn) j i j1 i1 hh (by rw [j2, i2])
      · exact (List.pairwise_iff_getElem.1 hn) i j i1 j1 hh (by rw [j2, i2])
    show _ = some (if (left (.int .i64 (y : Int)) && !(Lit.int .i64 (y : Int)).sameKey (.int .i64 (x : Int))) = true then ByteArray.empty else nm y)
    rw [List.getElem?_set_ne (Ne.symm e), h2 j y hy, hne]
    simp
theorem rng_obj {P : Program} {K : TypeId} {w : World} {b r n cnt : Nat} {f : Lit → Option Value} {left : Lit → Bool} (h : MV.RangeV P K w b r n f left cnt) : ∃ m s se c, w.heap[r]? = some (.mapIter m s se c) := by
  obtain ⟨D, ⟨es, clock, since, seen, c0, hb, F, hs, hD, hr, rest⟩, ha⟩ := h
  exact ⟨_, _, _, _, hr⟩
theorem gD_some {D : List Cn} {c : Int} {kl : Lit} {v : Value} (h : gD D c kl = some v) : ∃ i x : Nat, (nms D c)[i]? = some x ∧ kl = .int .i64 (x : Int) ∧ v = nV (i : Int) := by
  unfold gD MV.fI at h
  cases kl with
  | int q n =>
    cases q with
    | i64 =>
      have h : (ixN (nms D c) n).map _ = some v := h
      rw [Option.map_eq_some_iff] at h
      obtain ⟨i, hi, hv⟩ := h
      obtain ⟨x, hx, hxn⟩ := ixN_some hi
      exact ⟨i, x, hx, by rw [hxn], hv.symm⟩
    | _ => cases h
  | _ => cases h
section
variable {B : Nat} {w w' : World} {a N : Nat} {C : Cf} {S : St}
theorem Inv.names_lt (h : Inv S) {c : Int} {x : Nat} (hx : x ∈ nms S.D c) : 1 ≤ x ∧ x ≤ S.T.length := h.nr (c, x) (nms_mem.1 hx)
set_option maxHeartbeats 8000000 in
theorem has_any (h : CB B w a N C S) (hN : N ≤ 65536) (c : Int) (hI : I9 c) (hk : S.T.length ≤ 99) :
    Calls Tryd.prog 23 #[ptr a, nV c] w fun e w' => ∃ v, e = .returned v ∧ OT w.heap.size w' v ((nms S.D c).map nm) ∧ Below w.heap.size w w' := by
  obtain ⟨c0, _, c2, _⟩ := h.cells
  have hG := given_yes w a c0
  obtain ⟨hO, _, hLN⟩ := h.lookD c hI 0 ⟨by omega, by omega⟩
  obtain ⟨l, hl⟩ : ∃ l, nms S.D c = l := ⟨_, rfl⟩
  rw [hl] at hLN ⊢
  obtain ⟨n, hn⟩ : ∃ n, l.length = n := ⟨_, rfl⟩
  have hn2 : n ≤ 65536 := by rw [← hn, ← hl]; exact Nat.le_trans (nms_len _ _) (Nat.le_trans h.few.2.1 hN)
  rw [hn] at hLN
  have hmk := make_texts w n hn2
  obtain ⟨W1, hW1⟩ : ∃ W, w.alloc (.cells (txA (List.replicate n ByteArray.empty)) 9) = W := ⟨_, rfl⟩
  obtain ⟨g, hg⟩ : ∃ b, w.heap.size = b := ⟨_, rfl⟩
  have hb1 : Below w.heap.size w W1 := by rw [← hW1]; exact (Below.refl _ _).alloc (Nat.le_refl _) _
  have k1 : Bk W1 g 9 (txA (List.replicate n ByteArray.empty)) := by rw [← hW1, ← hg]; exact Bk.new _ _ _
  rw [hW1, hg] at hmk
  have h1 := h.below hb1
  obtain ⟨hO1, _, _⟩ := h1.lookD c hI 0 ⟨by omega, by omega⟩
  have x2 := h1.cells.2.2.1
  have HK1 := Lib.hid k1
  have HB1 := Lib.hid hb1
  have HG : Hid (w.heap.size ≤ g ∧ g < W1.heap.size) := Lib.hid ⟨by omega, k1.lt⟩
  have HN := Lib.hid hn
  have HN2 := Lib.hid hn2
  have HND : Hid l.Nodup := Lib.hid (by rw [← hl]; exact nms_nodup h.inv.ud c)
  have HLT : Hid (∀ x ∈ l, x < 100) := Lib.hid fun x hx => by
    rw [← hl] at hx
    have := (h.inv.names_lt hx).2
    omega
  cases hc : C.G c with
  | none =>
    have h0 : n = 0 := by
      have := (h.hd.m0 c hc).1
      have e : (nms S.D c).length = 0 := this
      rw [hl, hn] at e
      exact e
    subst h0
    have hrg := run_range_nilMap (P := Tryd.prog) W1 65 _ _ Tryd.underlying65
    have hnx := fun ty => run_next_nilMap (P := Tryd.prog) W1 ty 0 0 #[]
    rw [hc] at hO hLN hO1
    rw [show ((0 : Nat) : Int) = 0 from rfl] at hLN hmk
    have HF : Hid (OT w.heap.size (W1.alloc (.mapIter none 0 #[] 0)) (.slice (some ⟨g, 0, none⟩) 0 0) (l.map nm) ∧ Below w.heap.size w (W1.alloc (.mapIter none 0 #[] 0))) := Lib.hid (by
      have hl0 : l = [] := List.eq_nil_of_length_eq_zero HN.out
      have hb2 : Below W1.heap.size W1 (W1.alloc (.mapIter none 0 #[] 0)) := (Below.refl _ _).alloc (Nat.le_refl _) _
      refine ⟨?_, hb1.trans (hb2.mono hb1.size)⟩
      rw [hl0]
      exact bk_texts (d := []) (k1.heap (hb2.block g k1.lt)) (by omega) (by simp))
    clear h h1 hN hI hk hl hn hn2 hb1 k1 hc HK1 HB1 HG HN HN2 HND HLT
    go_enter Tryd.func23, Tryd.ntmps23
    go_wp2_with (go_at_call 27; refine hG.mono ?_; rintro e w' ⟨rfl, rfl⟩)
    try go_frame
    go_loopw [6, 7] (fun u6 u7 wr => wr = W1.alloc (.mapIter none 0 #[] 0)) (fun _ _ _ => 0)
    case atStart => rfl
    case round =>
      subst hrel
      go_wp2
      go_ret
      exact ⟨_, rfl, HF.out⟩
  | some b =>
    rw [hc] at hO hLN hO1
    have H1 := Lib.hid h1
    have hm := h1.hd.mi c b hc
    have HM := Lib.hid hm.mv
    have HOB : Hid (b < W1.heap.size ∧ w.heap.size ≠ b ∧ g ≠ b) := Lib.hid ⟨hm.lt, by have := (h.hd.mi c b hc).lt; omega, by have := (h.hd.mi c b hc).lt; omega⟩
    have HGD : Hid (∀ kl v, gD S.D c kl = some v → ∃ i x : Nat, l[i]? = some x ∧ kl = .int .i64 (x : Int) ∧ v = nV (i : Int)) := Lib.hid fun kl v hv => by rw [← hl]; exact gD_some hv
    have HGS : Hid (∀ x ∈ l, (gD S.D c (.int .i64 (x : Int))).isSome = true) := Lib.hid fun x hx => by
      rw [gD_at, Option.isSome_map, hl]
      exact ixN_isSome.2 hx
    generalize gD S.D c = f at *
    generalize cD S.D c = cn at *
    have HHG := Lib.hid hg
    clear h h1 hN hI hk hl hn hn2 hb1 k1 hc hm
    go_enter Tryd.func23, Tryd.ntmps23
    go_wp2_with fail
    refine hG.mono ?_
    rintro e w' ⟨rfl, rfl⟩
    go_wp2_with (at_range; refine MV.wpList_range rfl _ 65 rfl 3 iK Tryd.underlying65 rfl HM.out ?_; intro w0 cnt0 left0 hrg0 hleft0 hcnt0 hg0 hs0)
    have hb0 : Below W1.heap.size W1 w0 := ⟨hg0.os, hg0.tape, hg0.output, hg0.size, fun k hk => hg0.block k hk (by simp)⟩
    have HRG0 := Lib.hid hrg0
    have HLE0 := Lib.hid hleft0
    have HB0 := Lib.hid (HB1.out.trans (hb0.mono HB1.out.size))
    have HK0 := Lib.hid (HK1.out.heap (hb0.block g HK1.out.lt))
    clear hrg0 hleft0 hcnt0 hg0 hs0 hb0
    go_frame
    go_loopw [6, 7] (fun u6 u7 wr => ∃ (left : Lit → Bool) (cnt : Nat) (d : List Tx), Hid (MV.RangeV Tryd.prog 3 wr b W1.heap.size cn f left cnt) ∧ Hid (Part l left d) ∧ Hid (Bk wr g 9 (txA d)) ∧ Hid (Below w.heap.size w wr)) (fun _ _ wr => wr.rangeLeft b W1.heap.size)
    case atStart =>
      refine ⟨left0, cnt0, _, HRG0, Lib.hid (Part.start l left0 fun x hx => ?_), Lib.hid (by rw [HN.out]; exact HK0.out), HB0⟩
      rw [HLE0.out _ (key_i64 _)]
      exact HGS.out x hx
    case round =>
      obtain ⟨left, cnt, d, hrg, hpt, hkd, hbw⟩ := hrel
      clear HRG0 HLE0 HB0 HK0
      go_wp2_with (at_next; refine MV.wpList_step (fun x : Value => x) (fun key kl hk => ⟨key, rfl⟩) rfl _ rfl iK W1.heap.size left cnt rfl hrg.out ?_ ?_)
      · intro hl0
        have hfin : OT w.heap.size wr (.slice (some ⟨g, 0, none⟩) n n) (l.map nm) ∧ Below w.heap.size w wr := by
          have e1 := hpt.out.done hl0
          have e2 : d.length = n := by rw [hpt.out.1]; exact HN.out
          have := bk_texts hkd.out HG.out.1 (by rw [e2]; exact HN2.out)
          rw [e2] at this
          rw [← e1]
          exact ⟨this, hbw.out⟩
        have HF := Lib.hid hfin
        clear hl0 hfin
        go_wp2
        go_ret
        exact ⟨_, rfl, HF.out⟩
      · intro x v kl w2 cnt1 hkey hlk hfk hrg1 hlt hg1 hs1 hen
        obtain ⟨i, k, hik, rfl, rfl⟩ := HGD.out kl v hfk
        have hk100 : k < 100 := HLT.out k (List.mem_of_getElem? hik)
        have hil : i < n := by rw [← HN.out]; exact (List.getElem?_eq_some_iff.1 hik).1
        obtain rfl : x = nV (k : Int) := iK.inj hkey (keyI (k : Int) ⟨by omega, by omega⟩)
        obtain ⟨_, _, _, _, hob⟩ := rng_obj hrg.out
        have hgr : g ≠ W1.heap.size := by have := HG.out.2; omega
        have hkd2 : Bk w2 g 9 (txA d) := hkd.out.heap (hg1.block g hkd.out.lt fun e => by injection e with e; first | exact hgr e | exact hgr e.symm)
        have hbw2 : Below w.heap.size w w2 := hbw.out.grown hg1 hbw.out.size fun j hj => by injection hj with hj; have := HB1.out.size; omega
        obtain ⟨y, hy⟩ : ∃ y, d[i]? = some y := ⟨_, hpt.out.2 i k hik⟩
        have x0 : w2.cell? ⟨g, i, none⟩ = some (.string y) := (hkd2.cell i).trans (txA_at d i y hy)
        have f0 : w2.frozen? ⟨g, i, none⟩ = false := hkd2.frozen i
        have l0 : (0 : Int) ≤ (i : Int) := by omega
        have l1 : (i : Int) < (n : Int) := by omega
        have l2 : i < n := hil
        have HNM := Lib.hid (name_any k hk100 w2)
        have HPT := Lib.hid (hpt.out.step HND.out hik)
        have HKD : Hid (Bk (w2.setCell ⟨g, i, none⟩ (.string (nm k))) g 9 (txA (d.set i (nm k)))) := Lib.hid (by
          have := hkd2.set_ i (.string (nm k))
          rw [txA_set] at this
          exact this)
        have HBW : Hid (Below w.heap.size w (w2.setCell ⟨g, i, none⟩ (.string (nm k)))) := Lib.hid (hbw2.setCell (p := ⟨g, i, none⟩) HG.out.1 _)
        have HRG : Hid (MV.RangeV Tryd.prog 3 (w2.setCell ⟨g, i, none⟩ (.string (nm k))) b W1.heap.size cn f (fun z => left z && !z.sameKey (.int .i64 (k : Int))) cnt1) := Lib.hid (hrg1.kept (Below.heap_setCell _ ⟨g, i, none⟩ _ b HOB.out.2.2.symm) (Below.heap_setCell _ ⟨g, i, none⟩ _ _ hgr.symm))
        have HME : Hid (cnt1 < wr.rangeLeft b W1.heap.size) := Lib.hid (by rw [hrg.out.left_eq]; exact hlt)
        generalize nm k = z at *
        clear hik hlk hfk hrg1 hlt hg1 hs1 hkey hk100 hil hob hgr hkd2 hbw2 hy hrg hpt hkd hbw
        go_wp2_with (go_at_call 33; refine HNM.out.mono ?_; rintro e w3 ⟨rfl, rfl⟩)
        go_roundw
        case rel => exact ⟨_, _, _, HRG, HPT, HKD, HBW⟩
        case measure =>
          rw [HRG.out.left_eq]
          exact HME.out
end
end Go.Proofs.YtkifmhdceobfhaaDoor.PP
