/- Package prep, its code: Copy. Conditions: how many calls there were. -/
import Derived.Test.YtkifmhdceobfhaaDoorPpi
namespace Go.Proofs.YtkifmhdceobfhaaDoor.PP
open Go.ChangeShapes Go.WideShapes Go.ChangeAt Go.RowKit Go.Maps Go.ChangeMaps
open Go.Proofs.YtkifmhdceobfhaaDoor.SL
set_option maxRecDepth 100000
set_option linter.unusedVariables false
set_option linter.unusedSimpArgs false

theorem key_in {x : Value} {c : Int} (h : keyOf Tryd.prog 3 x = some (.int .i64 c)) : I9 c := by
  unfold keyOf at h
  rw [Tryd.underlying3] at h
  simp only at h
  unfold mapKey at h
  rw [Tryd.underlying3] at h
  cases x with
  | int q m =>
    simp only at h
    by_cases hw : q = IntKind.i64 ∧ (Lit.int IntKind.i64 m).wf = true
    · have := hw.2
      have e : m = c := by
        have hw1 := hw.1
        subst hw1
        simp [hw.2] at h
        exact h
      subst e
      simp [Lit.wf, IntKind.min, IntKind.max, IntKind.signed, IntKind.bits] at this
      exact ⟨by omega, by omega⟩
    · exfalso
      simp at h hw
      grind
  | _ => simp at h
open Classical
/-- somebody is handed a map -/
theorem Held.hand {K : TypeId} {w : World} {h N : Nat} {F : Int → Option Nat} {cnt : Int → Nat} {g : Int → Lit → Option Value} {t e : TypeId} (H : Held K w h N F cnt g) (ht : Tryd.prog.underlying t = some (.map 3 e)) {c : Int} (hI : I9 c) (hc : F c = none) (hN : N < maxLen) {q n : Nat} {f : Lit → Option Value} (hq : MapN Tryd.prog K w q n f) (hno : ¬ Own F h q) :
    ∃ w', (Instr.mapUpdate t (.map (some h)) (nV c) (.map (some q))).run Tryd.prog w = .ok () w' ∧ Held K w' h (N + 1) (upd F c (some q)) (upd cnt c n) (upd g c f) ∧ Chg (fun x => x = h) w w' := by
  obtain ⟨w', h1, h2, h3⟩ := H.mo.put iK ht hN (keyI c hI) (.map (some q))
  have hg := turned_chg h3
  have hF : ∀ x y, upd F c (some q) x = some y → (x = c ∧ y = q) ∨ (x ≠ c ∧ F x = some y) := fun x y hx => by
    by_cases e : x = c
    · subst e; rw [upd_at] at hx; injection hx with hx; exact .inl ⟨rfl, hx.symm⟩
    · rw [upd_ne _ _ e] at hx; exact .inr ⟨e, hx⟩
  have hqh : q ≠ h := fun e => hno (.inl e)
  refine ⟨w', h1, ⟨h2.congr fun kl => fI_map F c (some q) kl, fun x y hx => ?_, fun x hx => ?_, fun x y hx => ?_, fun x x' y hx hx' => ?_⟩, hg⟩
  · rcases hF x y hx with ⟨rfl, rfl⟩ | ⟨e, hx⟩
    · rw [upd_at, upd_at]
      exact hq.keep (hg.block _ hq.lt hqh)
    · rw [upd_ne _ _ e, upd_ne _ _ e]
      exact (H.mi x y hx).keep (hg.block _ (H.mi x y hx).lt (H.nh x y hx))
  · by_cases e : x = c
    · subst e; rw [upd_at] at hx; cases hx
    · rw [upd_ne _ _ e] at hx; rw [upd_ne _ _ e, upd_ne _ _ e]; exact H.m0 x hx
  · rcases hF x y hx with ⟨rfl, rfl⟩ | ⟨e, hx⟩
    · exact hqh
    · exact H.nh x y hx
  · rcases hF x y hx with ⟨rfl, rfl⟩ | ⟨e, hx2⟩
    · rcases hF x' _ hx' with ⟨rfl, _⟩ | ⟨e', hx3⟩
      · rfl
      · exact absurd (.inr ⟨x', hx3⟩) hno
    · rcases hF x' _ hx' with ⟨rfl, rfl⟩ | ⟨e', hx3⟩
      · exact absurd (.inr ⟨x, hx2⟩) hno
      · exact H.inj x x' y hx2 hx3
def hfN (left : Lit → Bool) (cnt : Int → Nat) : Int → Nat := fun c => if left (.int .i64 c) = true then 0 else cnt c
def hfG (left : Lit → Bool) (g : Int → Lit → Option Value) : Int → Lit → Option Value := fun c => if left (.int .i64 c) = true then fun _ => none else g c
theorem left_ne {left : Lit → Bool} {c x : Int} (h : x ≠ c) : (left (.int .i64 x) && !(Lit.int .i64 x).sameKey (.int .i64 c)) = left (.int .i64 x) := by
  have : (Lit.int .i64 x).sameKey (.int .i64 c) = false := sameKey_ne fun e => h (by injection e)
  rw [this]; simp
theorem left_eq {left : Lit → Bool} {c : Int} : (left (.int .i64 c) && !(Lit.int .i64 c).sameKey (.int .i64 c)) = false := by
  rw [WideAt.sameKey_self (key_i64 c)]; simp
theorem hfN_step (left : Lit → Bool) (cnt : Int → Nat) (c x : Int) : upd (hfN left cnt) c (cnt c) x = hfN (fun z => left z && !z.sameKey (.int .i64 c)) cnt x := by
  unfold hfN
  by_cases e : x = c
  · subst e
    rw [upd_at]
    show _ = if (left (.int .i64 x) && !(Lit.int .i64 x).sameKey (.int .i64 x)) = true then 0 else cnt x
    rw [left_eq]; rfl
  · rw [upd_ne _ _ e]
    show _ = if (left (.int .i64 x) && !(Lit.int .i64 x).sameKey (.int .i64 c)) = true then 0 else cnt x
    rw [left_ne e]
theorem hfG_step (left : Lit → Bool) (g : Int → Lit → Option Value) (c x : Int) (kl : Lit) : upd (hfG left g) c (g c) x kl = hfG (fun z => left z && !z.sameKey (.int .i64 c)) g x kl := by
  unfold hfG
  by_cases e : x = c
  · subst e
    rw [upd_at]
    show _ = (if (left (.int .i64 x) && !(Lit.int .i64 x).sameKey (.int .i64 x)) = true then _ else g x) kl
    rw [left_eq]; rfl
  · rw [upd_ne _ _ e]
    show _ = (if (left (.int .i64 x) && !(Lit.int .i64 x).sameKey (.int .i64 c)) = true then _ else g x) kl
    rw [left_ne e]
theorem Held.iter {K : TypeId} {w w' : World} {h N r : Nat} {F : Int → Option Nat} {cnt : Int → Nat} {g : Int → Lit → Option Value} (H : Held K w h N F cnt g) (hr : ∃ m s se c, w.heap[r]? = some (.mapIter m s se c)) (hg : w.grownBy w' (some r)) : Held K w' h N F cnt g := by
  obtain ⟨m, s, se, c, hx⟩ := hr
  refine H.keep fun b hb => hg.block b (H.lt hb) (fun e => ?_)
  injection e with e
  subst e
  obtain ⟨es, cl, hy⟩ := H.obj hb
  rw [hx] at hy
  cases hy
set_option maxHeartbeats 2000000 in
theorem mclone_t (w : World) (b n : Nat) (f : Lit → Option Value) (h : MapN Tryd.prog 9 w b n f) :
    Calls Tryd.prog 38 #[.map (some b)] w fun e w' => e = .returned (.map (some w.heap.size)) ∧ MapN Tryd.prog 9 w' w.heap.size n f ∧ Below w.heap.size w w' := by
  obtain ⟨D, ⟨es, clock, hb, r⟩, hs, ha⟩ := h
  have hq := fun w => run_eql_map_nil_sl (P := Tryd.prog) w 50 _ _ (some b) Tryd.underlying50
  have hcl := run_maps_clone_sl (P := Tryd.prog) w 50 hb
  have hext : (callFunc 43 #[.iface 50 (.map (some b))]).run Tryd.prog w = .ok (.value (.iface 50 (.map (some w.heap.size)))) (w.alloc (.map es clock)) := by
    rw [run_callFunc_extern Tryd.func43 (by kernel_rfl) (by kernel_rfl) (by kernel_rfl) (e := Extern.MapsClone.clone) (by kernel_rfl), hcl]; rfl
  have hta := fun W v => run_typeAssert_map_sl (P := Tryd.prog) W 50 20 _ _ v Tryd.underlying50
  have hbl : Below w.heap.size w (w.alloc (.map es clock)) := (Below.refl _ _).alloc (Nat.le_refl _) _
  have hown : MapN Tryd.prog 9 (w.alloc (.map es clock)) w.heap.size n f := ⟨D, ⟨es, clock, heap_alloc_new w _, r⟩, hs, ha⟩
  have HOW := Lib.hid hown
  have HBL := Lib.hid hbl
  clear hown hbl ha
  go_enter Tryd.func38, Tryd.ntmps38
  go_wp2
  go_ret
  exact ⟨rfl, HOW.out, HBL.out⟩
set_option maxHeartbeats 2000000 in
theorem mclone_s (w : World) (b n : Nat) (f : Lit → Option Value) (h : MapN Tryd.prog 9 w b n f) :
    Calls Tryd.prog 41 #[.map (some b)] w fun e w' => e = .returned (.map (some w.heap.size)) ∧ MapN Tryd.prog 9 w' w.heap.size n f ∧ Below w.heap.size w w' := by
  obtain ⟨D, ⟨es, clock, hb, r⟩, hs, ha⟩ := h
  have hq := fun w => run_eql_map_nil_sl (P := Tryd.prog) w 58 _ _ (some b) Tryd.underlying58
  have hcl := run_maps_clone_sl (P := Tryd.prog) w 58 hb
  have hext : (callFunc 43 #[.iface 58 (.map (some b))]).run Tryd.prog w = .ok (.value (.iface 58 (.map (some w.heap.size)))) (w.alloc (.map es clock)) := by
    rw [run_callFunc_extern Tryd.func43 (by kernel_rfl) (by kernel_rfl) (by kernel_rfl) (e := Extern.MapsClone.clone) (by kernel_rfl), hcl]; rfl
  have hta := fun W v => run_typeAssert_map_sl (P := Tryd.prog) W 58 20 _ _ v Tryd.underlying58
  have hbl : Below w.heap.size w (w.alloc (.map es clock)) := (Below.refl _ _).alloc (Nat.le_refl _) _
  have hown : MapN Tryd.prog 9 (w.alloc (.map es clock)) w.heap.size n f := ⟨D, ⟨es, clock, heap_alloc_new w _, r⟩, hs, ha⟩
  have HOW := Lib.hid hown
  have HBL := Lib.hid hbl
  clear hown hbl ha
  go_enter Tryd.func41, Tryd.ntmps41
  go_wp2
  go_ret
  exact ⟨rfl, HOW.out, HBL.out⟩
set_option maxHeartbeats 2000000 in
theorem mclone_i (w : World) (b n : Nat) (f : Lit → Option Value) (h : MapN Tryd.prog 3 w b n f) :
    Calls Tryd.prog 42 #[.map (some b)] w fun e w' => e = .returned (.map (some w.heap.size)) ∧ MapN Tryd.prog 3 w' w.heap.size n f ∧ Below w.heap.size w w' := by
  obtain ⟨D, ⟨es, clock, hb, r⟩, hs, ha⟩ := h
  have hq := fun w => run_eql_map_nil_sl (P := Tryd.prog) w 65 _ _ (some b) Tryd.underlying65
  have hcl := run_maps_clone_sl (P := Tryd.prog) w 65 hb
  have hext : (callFunc 43 #[.iface 65 (.map (some b))]).run Tryd.prog w = .ok (.value (.iface 65 (.map (some w.heap.size)))) (w.alloc (.map es clock)) := by
    rw [run_callFunc_extern Tryd.func43 (by kernel_rfl) (by kernel_rfl) (by kernel_rfl) (e := Extern.MapsClone.clone) (by kernel_rfl), hcl]; rfl
  have hta := fun W v => run_typeAssert_map_sl (P := Tryd.prog) W 65 20 _ _ v Tryd.underlying65
  have hbl : Below w.heap.size w (w.alloc (.map es clock)) := (Below.refl _ _).alloc (Nat.le_refl _) _
  have hown : MapN Tryd.prog 3 (w.alloc (.map es clock)) w.heap.size n f := ⟨D, ⟨es, clock, heap_alloc_new w _, r⟩, hs, ha⟩
  have HOW := Lib.hid hown
  have HBL := Lib.hid hbl
  clear hown hbl ha
  go_enter Tryd.func42, Tryd.ntmps42
  go_wp2
  go_ret
  exact ⟨rfl, HOW.out, HBL.out⟩
set_option maxHeartbeats 8000000 in
theorem copied_s {w : World} {h N : Nat} {F : Int → Option Nat} {cnt : Int → Nat} {g : Int → Lit → Option Value} (H : Held 9 w h N F cnt g) (hN : N ≤ 1000000) :
    Calls Tryd.prog 36 #[mpV h] w fun e w' => ∃ h' F', e = .returned (mpV h') ∧ Held 9 w' h' N F' cnt g ∧ (∀ b, Own F' h' b → w.heap.size ≤ b) ∧ Below w.heap.size w w' := by
  have hmm := @run_makeMap Tryd.prog
  obtain ⟨W1, hW1⟩ : ∃ W, w.alloc (.map #[] 0) = W := ⟨_, rfl⟩
  obtain ⟨h', hh'⟩ : ∃ b, w.heap.size = b := ⟨_, rfl⟩
  have hb1 : Below w.heap.size w W1 := by rw [← hW1]; exact (Below.refl _ _).alloc (Nat.le_refl _) _
  have hm1 : Held 9 W1 h' 0 (fun _ => none) (fun _ => 0) (fun _ _ => none) := by rw [← hW1, ← hh']; exact Held.made _ _
  have HB1 := Lib.hid hb1
  have HM1 := Lib.hid hm1
  have HH := Lib.hid H
  have H1 := Lib.hid (H.below hb1)
  have HN := Lib.hid hN
  have HHH := Lib.hid hh'
  clear hb1 hm1 H hN
  go_enter Tryd.func36, Tryd.ntmps36
  go_wp2_with (at_range; refine MV.wpList_range rfl _ 47 rfl 58 iK Tryd.underlying47 rfl H1.out.mo ?_; intro w0 cnt0 left0 hrg0 hleft0 hcnt0 hg0 hs0)
  have hb0 : Below W1.heap.size W1 w0 := ⟨hg0.os, hg0.tape, hg0.output, hg0.size, fun k hk => hg0.block k hk (by simp)⟩
  have HRG0 := Lib.hid hrg0
  have HLE0 := Lib.hid hleft0
  have HC0 := Lib.hid hcnt0
  have HB0 := Lib.hid (HB1.out.trans (hb0.mono HB1.out.size))
  have HM0 := Lib.hid (HM1.out.below hb0)
  have HR : Hid (h' < W1.heap.size ∧ w.heap.size ≤ W1.heap.size) := Lib.hid ⟨HM1.out.mo.lt, HB1.out.size⟩
  clear hrg0 hleft0 hcnt0 hg0 hs0 hb0 HM1
  try rw [hh']
  try clear hW1 hh'
  go_frame
  go_loopw [4, 5] (fun u4 u5 wr => ∃ (left : Lit → Bool) (n M : Nat) (F' : Int → Option Nat), Hid (MV.RangeV Tryd.prog 3 wr h W1.heap.size N (MV.fI fun c => (F c).map mpV) left n) ∧ Hid (Held 9 wr h' M F' (hfN left cnt) (hfG left g)) ∧ Hid (M + n ≤ N) ∧ Hid (∀ b, Own F' h' b → w.heap.size ≤ b) ∧ Hid (Below w.heap.size w wr) ∧ Hid (∀ c, left (.int .i64 c) = true → F' c = none)) (fun _ _ wr => wr.rangeLeft h W1.heap.size)
  case atStart =>
    have hle : ∀ c, left0 (.int .i64 c) = (F c).isSome := fun c => by
      rw [HLE0.out _ (key_i64 c)]
      show ((F c).map mpV).isSome = _
      rw [Option.isSome_map]
    refine ⟨left0, cnt0, 0, fun _ => none, HRG0, Lib.hid (HM0.out.congr (fun c => ?_) fun c kl => ?_), Lib.hid (by have := HC0.out; omega), Lib.hid ?_, HB0, Lib.hid fun _ _ => rfl⟩
    · unfold hfN
      rw [hle]
      split
      · rfl
      · rename_i hh
        exact ((HH.out.m0 c (by cases hc : F c with | none => rfl | some b => rw [hc] at hh; simp at hh)).1).symm
    · unfold hfG
      rw [hle]
      split
      · rfl
      · rename_i hh
        exact ((HH.out.m0 c (by cases hc : F c with | none => rfl | some b => rw [hc] at hh; simp at hh)).2 kl).symm
    · rintro b (rfl | ⟨_, hb⟩)
      · exact Nat.le_of_eq HHH.out
      · cases hb
  case round =>
    obtain ⟨left, n, M, F', hrg, hhd, hto, how, hbw, hlf⟩ := hrel
    clear HRG0 HLE0 HC0 HB0 HM0
    go_wp2_with (at_next; refine MV.wpList_step (fun x : Value => x) (fun key kl hk => ⟨key, rfl⟩) rfl _ rfl iK W1.heap.size left n rfl hrg.out ?_ ?_)
    · intro hl0
      have HF : Hid (∃ h2 F2, mpV h' = mpV h2 ∧ Held 9 wr h2 N F2 cnt g ∧ (∀ b, Own F2 h2 b → w.heap.size ≤ b) ∧ Below w.heap.size w wr) := Lib.hid ⟨h', F', rfl, (hhd.out.mono (by have := hto.out; omega)).congr (fun c => by unfold hfN; rw [hl0]; rfl) (fun c kl => by unfold hfG; rw [hl0]; rfl), how.out, hbw.out⟩
      clear hl0
      go_wp2
      go_ret
      obtain ⟨h2, F2, e2, r⟩ := HF.out
      injection e2 with e2
      injection e2 with e2
      subst e2
      exact ⟨h', F2, rfl, r⟩
    · intro x v kl w2 cnt1 hkey hlk hfk hrg1 hlt hg1 hs1 hen
      obtain ⟨c, b, hcb, rfl, rfl⟩ : ∃ c b, F c = some b ∧ kl = .int .i64 c ∧ v = mpV b := by
        unfold MV.fI at hfk
        cases kl with
        | int q k =>
          cases q with
          | i64 =>
            have hfk : (F k).map mpV = some v := hfk
            rw [Option.map_eq_some_iff] at hfk
            obtain ⟨b, hb, hv⟩ := hfk
            exact ⟨k, b, hb, rfl, hv.symm⟩
          | _ => cases hfk
        | _ => cases hfk
      have hI : I9 c := key_in hkey
      obtain rfl : x = nV c := iK.inj hkey (keyI c hI)
      have hrs : w.heap.size ≤ W1.heap.size := HR.out.2
      have hbw2 : Below w.heap.size w w2 := hbw.out.grown hg1 hbw.out.size fun j hj => by injection hj with hj; omega
      have hhd2 := hhd.out.iter (rng_obj hrg.out) hg1
      have hmb := (HH.out.below hbw2).mi c b hcb
      have HCL := Lib.hid (mclone_s w2 b (cnt c) (g c) hmb)
      have hF'c : F' c = none := hlf.out c hlk
      have HX : Hid (∀ w3, MapN Tryd.prog 9 w3 w2.heap.size (cnt c) (g c) → Below w2.heap.size w2 w3 → ∃ w4, (Instr.mapUpdate 47 (mpV h') (nV c) (.map (some w2.heap.size))).run Tryd.prog w3 = .ok () w4 ∧ Hid (MV.RangeV Tryd.prog 3 w4 h W1.heap.size N (MV.fI fun c => (F c).map mpV) (fun z => left z && !z.sameKey (.int .i64 c)) cnt1) ∧
          Hid (Held 9 w4 h' (M + 1) (upd F' c (some w2.heap.size)) (hfN (fun z => left z && !z.sameKey (.int .i64 c)) cnt) (hfG (fun z => left z && !z.sameKey (.int .i64 c)) g)) ∧ Hid (M + 1 + cnt1 ≤ N) ∧ Hid (∀ b, Own (upd F' c (some w2.heap.size)) h' b → w.heap.size ≤ b) ∧ Hid (Below w.heap.size w w4) ∧ Hid (∀ x, (left (.int .i64 x) && !(Lit.int .i64 x).sameKey (.int .i64 c)) = true → upd F' c (some w2.heap.size) x = none)) := Lib.hid fun w3 hq hb3 => by
        have hhd3 := hhd2.below hb3
        obtain ⟨w4, hr4, H4, hc4⟩ := hhd3.hand Tryd.underlying47 hI hF'c (by have := hto.out; have := HN.out; unfold maxLen; omega) hq (fun hk => by have := hhd2.lt hk; omega)
        have hrg3 := hrg1.below hb3
        have hh'h : h' ≠ h := by have := HH.out.mo.lt; have := HHH.out; omega
        have hh'r : h' ≠ W1.heap.size := by have := HR.out.1; omega
        refine ⟨w4, hr4, Lib.hid (hrg3.kept (hc4.block _ hrg3.map.lt hh'h.symm) (hc4.block _ hrg3.lt hh'r.symm)), Lib.hid (H4.congr (fun x => hfN_step left cnt c x) (fun x kl => hfG_step left g c x kl)), Lib.hid (by have := hto.out; omega), Lib.hid ?_, Lib.hid ((hbw2.trans (hb3.mono hbw2.size)).trans (hc4.below (by have := hbw2.size; have := hb3.size; omega) fun x hx e => by have := HHH.out; omega)), Lib.hid fun x hx => ?_⟩
        rotate_left
        · by_cases e : x = c
          · subst e; rw [left_eq] at hx; cases hx
          · rw [upd_ne _ _ e]
            rw [left_ne e] at hx
            exact hlf.out x hx
        rintro y (rfl | ⟨z, hz⟩)
        · exact how.out _ (.inl rfl)
        · by_cases e : z = c
          · subst e
            rw [upd_at] at hz
            injection hz with hz
            have := hbw2.size
            omega
          · rw [upd_ne _ _ e] at hz
            exact how.out _ (.inr ⟨z, hz⟩)
      have HME : Hid (cnt1 < wr.rangeLeft h W1.heap.size) := Lib.hid (by rw [hrg.out.left_eq]; exact hlt)
      clear hlk hfk hrg1 hlt hg1 hs1 hkey hbw2 hhd2 hmb hrg hhd hto how hbw hlf hF'c hcb hI hrs
      go_wp2_with fail
      refine HCL.out.mono ?_
      rintro e w3 ⟨rfl, hq, hb3⟩
      obtain ⟨w4, hr4, G1, G2, G3, G4, G5, G6⟩ := HX.out w3 hq hb3
      clear hq hb3
      go_wp2
      go_roundw
      case rel => exact ⟨_, _, _, _, G1, G2, G3, G4, G5, G6⟩
      case measure =>
        rw [G1.out.left_eq]
        exact HME.out
set_option maxHeartbeats 8000000 in
theorem copied_i {w : World} {h N : Nat} {F : Int → Option Nat} {cnt : Int → Nat} {g : Int → Lit → Option Value} (H : Held 3 w h N F cnt g) (hN : N ≤ 1000000) :
    Calls Tryd.prog 37 #[mpV h] w fun e w' => ∃ h' F', e = .returned (mpV h') ∧ Held 3 w' h' N F' cnt g ∧ (∀ b, Own F' h' b → w.heap.size ≤ b) ∧ Below w.heap.size w w' := by
  have hmm := @run_makeMap Tryd.prog
  obtain ⟨W1, hW1⟩ : ∃ W, w.alloc (.map #[] 0) = W := ⟨_, rfl⟩
  obtain ⟨h', hh'⟩ : ∃ b, w.heap.size = b := ⟨_, rfl⟩
  have hb1 : Below w.heap.size w W1 := by rw [← hW1]; exact (Below.refl _ _).alloc (Nat.le_refl _) _
  have hm1 : Held 3 W1 h' 0 (fun _ => none) (fun _ => 0) (fun _ _ => none) := by rw [← hW1, ← hh']; exact Held.made _ _
  have HB1 := Lib.hid hb1
  have HM1 := Lib.hid hm1
  have HH := Lib.hid H
  have H1 := Lib.hid (H.below hb1)
  have HN := Lib.hid hN
  have HHH := Lib.hid hh'
  clear hb1 hm1 H hN
  go_enter Tryd.func37, Tryd.ntmps37
  go_wp2_with (at_range; refine MV.wpList_range rfl _ 49 rfl 65 iK Tryd.underlying49 rfl H1.out.mo ?_; intro w0 cnt0 left0 hrg0 hleft0 hcnt0 hg0 hs0)
  have hb0 : Below W1.heap.size W1 w0 := ⟨hg0.os, hg0.tape, hg0.output, hg0.size, fun k hk => hg0.block k hk (by simp)⟩
  have HRG0 := Lib.hid hrg0
  have HLE0 := Lib.hid hleft0
  have HC0 := Lib.hid hcnt0
  have HB0 := Lib.hid (HB1.out.trans (hb0.mono HB1.out.size))
  have HM0 := Lib.hid (HM1.out.below hb0)
  have HR : Hid (h' < W1.heap.size ∧ w.heap.size ≤ W1.heap.size) := Lib.hid ⟨HM1.out.mo.lt, HB1.out.size⟩
  clear hrg0 hleft0 hcnt0 hg0 hs0 hb0 HM1
  try rw [hh']
  try clear hW1 hh'
  go_frame
  go_loopw [4, 5] (fun u4 u5 wr => ∃ (left : Lit → Bool) (n M : Nat) (F' : Int → Option Nat), Hid (MV.RangeV Tryd.prog 3 wr h W1.heap.size N (MV.fI fun c => (F c).map mpV) left n) ∧ Hid (Held 3 wr h' M F' (hfN left cnt) (hfG left g)) ∧ Hid (M + n ≤ N) ∧ Hid (∀ b, Own F' h' b → w.heap.size ≤ b) ∧ Hid (Below w.heap.size w wr) ∧ Hid (∀ c, left (.int .i64 c) = true → F' c = none)) (fun _ _ wr => wr.rangeLeft h W1.heap.size)
  case atStart =>
    have hle : ∀ c, left0 (.int .i64 c) = (F c).isSome := fun c => by
      rw [HLE0.out _ (key_i64 c)]
      show ((F c).map mpV).isSome = _
      rw [Option.isSome_map]
    refine ⟨left0, cnt0, 0, fun _ => none, HRG0, Lib.hid (HM0.out.congr (fun c => ?_) fun c kl => ?_), Lib.hid (by have := HC0.out; omega), Lib.hid ?_, HB0, Lib.hid fun _ _ => rfl⟩
    · unfold hfN
      rw [hle]
      split
      · rfl
      · rename_i hh
        exact ((HH.out.m0 c (by cases hc : F c with | none => rfl | some b => rw [hc] at hh; simp at hh)).1).symm
    · unfold hfG
      rw [hle]
      split
      · rfl
      · rename_i hh
        exact ((HH.out.m0 c (by cases hc : F c with | none => rfl | some b => rw [hc] at hh; simp at hh)).2 kl).symm
    · rintro b (rfl | ⟨_, hb⟩)
      · exact Nat.le_of_eq HHH.out
      · cases hb
  case round =>
    obtain ⟨left, n, M, F', hrg, hhd, hto, how, hbw, hlf⟩ := hrel
    clear HRG0 HLE0 HC0 HB0 HM0
    go_wp2_with (at_next; refine MV.wpList_step (fun x : Value => x) (fun key kl hk => ⟨key, rfl⟩) rfl _ rfl iK W1.heap.size left n rfl hrg.out ?_ ?_)
    · intro hl0
      have HF : Hid (∃ h2 F2, mpV h' = mpV h2 ∧ Held 3 wr h2 N F2 cnt g ∧ (∀ b, Own F2 h2 b → w.heap.size ≤ b) ∧ Below w.heap.size w wr) := Lib.hid ⟨h', F', rfl, (hhd.out.mono (by have := hto.out; omega)).congr (fun c => by unfold hfN; rw [hl0]; rfl) (fun c kl => by unfold hfG; rw [hl0]; rfl), how.out, hbw.out⟩
      clear hl0
      go_wp2
      go_ret
      obtain ⟨h2, F2, e2, r⟩ := HF.out
      injection e2 with e2
      injection e2 with e2
      subst e2
      exact ⟨h', F2, rfl, r⟩
    · intro x v kl w2 cnt1 hkey hlk hfk hrg1 hlt hg1 hs1 hen
      obtain ⟨c, b, hcb, rfl, rfl⟩ : ∃ c b, F c = some b ∧ kl = .int .i64 c ∧ v = mpV b := by
        unfold MV.fI at hfk
        cases kl with
        | int q k =>
          cases q with
          | i64 =>
            have hfk : (F k).map mpV = some v := hfk
            rw [Option.map_eq_some_iff] at hfk
            obtain ⟨b, hb, hv⟩ := hfk
            exact ⟨k, b, hb, rfl, hv.symm⟩
          | _ => cases hfk
        | _ => cases hfk
      have hI : I9 c := key_in hkey
      obtain rfl : x = nV c := iK.inj hkey (keyI c hI)
      have hrs : w.heap.size ≤ W1.heap.size := HR.out.2
      have hbw2 : Below w.heap.size w w2 := hbw.out.grown hg1 hbw.out.size fun j hj => by injection hj with hj; omega
      have hhd2 := hhd.out.iter (rng_obj hrg.out) hg1
      have hmb := (HH.out.below hbw2).mi c b hcb
      have HCL := Lib.hid (mclone_i w2 b (cnt c) (g c) hmb)
      have hF'c : F' c = none := hlf.out c hlk
      have HX : Hid (∀ w3, MapN Tryd.prog 3 w3 w2.heap.size (cnt c) (g c) → Below w2.heap.size w2 w3 → ∃ w4, (Instr.mapUpdate 49 (mpV h') (nV c) (.map (some w2.heap.size))).run Tryd.prog w3 = .ok () w4 ∧ Hid (MV.RangeV Tryd.prog 3 w4 h W1.heap.size N (MV.fI fun c => (F c).map mpV) (fun z => left z && !z.sameKey (.int .i64 c)) cnt1) ∧
          Hid (Held 3 w4 h' (M + 1) (upd F' c (some w2.heap.size)) (hfN (fun z => left z && !z.sameKey (.int .i64 c)) cnt) (hfG (fun z => left z && !z.sameKey (.int .i64 c)) g)) ∧ Hid (M + 1 + cnt1 ≤ N) ∧ Hid (∀ b, Own (upd F' c (some w2.heap.size)) h' b → w.heap.size ≤ b) ∧ Hid (Below w.heap.size w w4) ∧ Hid (∀ x, (left (.int .i64 x) && !(Lit.int .i64 x).sameKey (.int .i64 c)) = true → upd F' c (some w2.heap.size) x = none)) := Lib.hid fun w3 hq hb3 => by
        have hhd3 := hhd2.below hb3
        obtain ⟨w4, hr4, H4, hc4⟩ := hhd3.hand Tryd.underlying49 hI hF'c (by have := hto.out; have := HN.out; unfold maxLen; omega) hq (fun hk => by have := hhd2.lt hk; omega)
        have hrg3 := hrg1.below hb3
        have hh'h : h' ≠ h := by have := HH.out.mo.lt; have := HHH.out; omega
        have hh'r : h' ≠ W1.heap.size := by have := HR.out.1; omega
        refine ⟨w4, hr4, Lib.hid (hrg3.kept (hc4.block _ hrg3.map.lt hh'h.symm) (hc4.block _ hrg3.lt hh'r.symm)), Lib.hid (H4.congr (fun x => hfN_step left cnt c x) (fun x kl => hfG_step left g c x kl)), Lib.hid (by have := hto.out; omega), Lib.hid ?_, Lib.hid ((hbw2.trans (hb3.mono hbw2.size)).trans (hc4.below (by have := hbw2.size; have := hb3.size; omega) fun x hx e => by have := HHH.out; omega)), Lib.hid fun x hx => ?_⟩
        rotate_left
        · by_cases e : x = c
          · subst e; rw [left_eq] at hx; cases hx
          · rw [upd_ne _ _ e]
            rw [left_ne e] at hx
            exact hlf.out x hx
        rintro y (rfl | ⟨z, hz⟩)
        · exact how.out _ (.inl rfl)
        · by_cases e : z = c
          · subst e
            rw [upd_at] at hz
            injection hz with hz
            have := hbw2.size
            omega
          · rw [upd_ne _ _ e] at hz
            exact how.out _ (.inr ⟨z, hz⟩)
      have HME : Hid (cnt1 < wr.rangeLeft h W1.heap.size) := Lib.hid (by rw [hrg.out.left_eq]; exact hlt)
      clear hlk hfk hrg1 hlt hg1 hs1 hkey hbw2 hhd2 hmb hrg hhd hto how hbw hlf hF'c hcb hI hrs
      go_wp2_with fail
      refine HCL.out.mono ?_
      rintro e w3 ⟨rfl, hq, hb3⟩
      obtain ⟨w4, hr4, G1, G2, G3, G4, G5, G6⟩ := HX.out w3 hq hb3
      clear hq hb3
      go_wp2
      go_roundw
      case rel => exact ⟨_, _, _, _, G1, G2, G3, G4, G5, G6⟩
      case measure =>
        rw [G1.out.left_eq]
        exact HME.out
end Go.Proofs.YtkifmhdceobfhaaDoor.PP
