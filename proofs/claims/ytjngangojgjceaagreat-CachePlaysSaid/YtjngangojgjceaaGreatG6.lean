/- What package slru's shrinkKept, Touch and Put do to a store. Conditions: how long keys are, how many puts there were.
   What package slru's Touch and Put tell, and what they make of a store. Conditions: how long keys are, how many puts there were.
   What package slru's Keys and Copy tell. Condition: none but what a store is.
   What the document's answer for sets: Texts, on lists of texts. Condition: how many.
   A store of package slru beside what it told, as plain lists: what each call tells and makes. Conditions: how long keys are, how many puts there were.
   Layer 10's known is true. No condition.
   What may stand in a store of package slru, as plain lists: budgets are kept, whatever is put, touched and dropped. No program; no condition.
   Layer 10's arguments opened: arrays of three and of two small numbers, of three numbers; lists of operations; bytes. Condition: none. -/
import Derived.Test.YtjngangojgjceaaGreatG5
import Derived.Deep.Slices
import Derived.Deep.Fields
import Derived.ChangeSame
import Derived.Lib.SmallJoins
import Derived.SizedLaws
import Derived.Deep.RegionHeld3
import Derived.ChangeOld
set_option linter.unusedSimpArgs false
set_option linter.unusedVariables false
namespace Go.Proofs.YtjngangojgjceaaGreat.SL
open Go.ChangeShapes Go.WideShapes Go.ChangeAt Go.RowKit Go.Maps Go.ChangeMaps
set_option maxRecDepth 100000
set_option linter.unusedVariables false
set_option linter.unusedSimpArgs false

theorem St.len {w : World} {g n : Nat} {al ke mo : Int} {x : Sx} (h : St w g n al ke mo x) : x.tE.length + x.kE.length ≤ 1073741824 := by
  have := sum_pos h.gg.en_pos.1; have := sum_pos h.gg.en_pos.2; have := h.lim
  have e1 : sumE x.tE = sumE (en x.F x.T) := rfl
  have e2 : sumE x.kE = sumE (en x.F x.K) := rfl
  have e3 : x.tE.length = (en x.F x.T).length := rfl
  have e4 : x.kE.length = (en x.F x.K).length := rfl
  omega
set_option maxHeartbeats 2000000 in
theorem shrink_any (w : World) (g n : Nat) (al ke mo : Int) (x : Sx) (h : St w g n al ke mo x) (hke : 0 ≤ ke) (R : List En × List En × List ByteArray) (hR : shrE ke x.kE.length x.tE x.kE = R) :
    Calls Tryz.prog 86 #[ptr g] w (RoomP g n al ke mo x R w) := by
  have HH := Lib.hid h
  have HR := Lib.hid hR
  have HKE := Lib.hid hke
  have HN := Lib.hid h.len
  clear h hR hke
  go_enter Tryz.func86, Tryz.ntmps86
  go_wp2
  go_loopg [3] x.kE.length (fun gk u3 wx => ∃ x' gone, St wx g n al ke mo x' ∧ OT w.heap.size wx u3 gone ∧ x'.kE.length = gk ∧ gone.length + gk = x.kE.length ∧ (shrE ke gk x'.tE x'.kE).1 = R.1 ∧ (shrE ke gk x'.tE x'.kE).2.1 = R.2.1 ∧ gone ++ (shrE ke gk x'.tE x'.kE).2.2 = R.2.2 ∧ (∀ y, x'.own g y → x.own g y) ∧ Chg (x.own g) w wx)
  case atStart => exact ⟨x, [], HH.out, OT.nil _ _, rfl, by simp, by rw [HR.out], by rw [HR.out], by rw [HR.out]; rfl, fun _ e => e, Chg.refl _ _⟩
  case round =>
    obtain ⟨x', gone, hst, hot, hgk, hln, hr1, hr2, hr3, hown, hchg⟩ := hrel
    have hsum := hst.sums
    have hlim := hst.lim
    obtain ⟨c0, _, c2, _, _, _, c6, _, _⟩ := hst.cells
    obtain ⟨sK, hsK⟩ : ∃ s, sumE x'.kE = s := ⟨_, rfl⟩
    have HBT := Lib.hid (fun N => bytes_true (wr.drewN N) g n al ke mo x' (hst.sm ⟨rfl, rfl, rfl, rfl⟩))
    rw [hsK] at HBT hsum hlim
    by_cases hc : ke < sK
    · have w5 : decide (ke < sK) = true := decide_eq_true hc
      go_wp2
      go_quiet ((go_at_call 60; (with_reducible exact Calls.quiet_of (HBT.out _))))
      obtain ⟨W0, hW0⟩ : ∃ W0, wr.drewN nq = W0 := ⟨_, rfl⟩
      have sm0 : Sm wr W0 := by rw [← hW0]; exact ⟨rfl, rfl, rfl, rfl⟩
      rw [hW0]
      obtain ⟨b0, b1, _, _, b4, _, b6, _, _⟩ := (hst.sm sm0).cells
      obtain ⟨_, _, _, v3, _⟩ := (hst.sm sm0).node (b := x'.e1) (.inr (.inl rfl))
      clear HBT c0 c2 c6
      rcases hst.gg.swap.last with ⟨hKn, _⟩ | ⟨L, c, hL, hnw2⟩
      · exfalso
        have h2 : sK = 0 := by rw [← hsK]; show sumE (en x'.F x'.K) = 0; rw [hKn]; rfl
        have := HKE.out
        omega
      rw [hnw2] at v3
      obtain ⟨kc, hkc⟩ : ∃ k, (x'.F c).k = k := ⟨_, rfl⟩
      obtain ⟨zc, hzc⟩ : ∃ z, (x'.F c).z = z := ⟨_, rfl⟩
      obtain ⟨q1, q2, q3, q4, q5, q6, q7, q8⟩ := hst.lastK hL
      have hcK : c ∈ x'.K := by rw [hL]; simp
      have HMV := Lib.hid (move_KT W0 g n al ke mo x' (hst.sm sm0) c hcK)
      rw [hkc] at q1 q2 q3 q8
      rw [hzc] at q3 q7 q8
      rw [hkc, hzc] at HMV
      have hend : ∀ w2 (x2 : Sx), x2.tE = (kc, zc) :: delE kc x'.tE → St w2 g n al ke mo x2 → w2.cell? ⟨c, 0, none⟩ = some (.string kc) → True := fun _ _ _ _ _ => trivial
      obtain ⟨gko, hgo⟩ : ∃ gko, gk = gko + 1 := ⟨gk - 1, by omega⟩
      subst hgo
      have hroom : shrE ke (gko + 1) x'.tE x'.kE = ((shrE ke gko ((kc, zc) :: x'.tE) x'.kE.dropLast).1, (shrE ke gko ((kc, zc) :: x'.tE) x'.kE.dropLast).2.1, kc :: (shrE ke gko ((kc, zc) :: x'.tE) x'.kE.dropLast).2.2) := by
        rw [shrE, hsK, if_pos hc, q3]
      rw [hroom] at hr1 hr2 hr3
      simp only at hr1 hr2 hr3
      have hlt := fun b hb => (hst.sm sm0).lt (b := b) hb
      have HLT := Lib.hid hlt
      have HW0 := Lib.hid (show Chg (x.own g) w W0 from hchg.trans (sm0.chg _))
      have HOT0 := Lib.hid (show OT w.heap.size W0 u3 gone from hot.keep fun q hq => by rw [sm0.heap])
      have HOWN := Lib.hid hown
      have HR1 := Lib.hid hr1
      have HR2 := Lib.hid hr2
      have HR3 := Lib.hid hr3
      have HGL := Lib.hid hln
      have Q1 := Lib.hid q1
      have Q2 := Lib.hid q2
      have HLEN := Lib.hid (show x'.kE.dropLast.length = gko by omega)
      have HL1 := Lib.hid (last_any W0 g 6 x'.e1 c b6 v3)
      have HC0 := Lib.hid (show x'.nd c from q6)
      have HKC := Lib.hid (show (x'.F c).k = kc from hkc)
      have HCF := Lib.hid (hst.sm sm0)
      clear hst hot hgk hln hr1 hr2 hr3 hown hchg hsK hc sm0 hW0 hlt hroom q1 q2 q3 q4 q5 q6 q7 q8 hkc hzc hL hnw2 hcK hend
      go_wp2_with fail
      refine HL1.out.mono ?_
      rintro e w' ⟨rfl, rfl⟩
      go_wp2_with fail
      refine HMV.out.mono ?_
      rintro e w2 ⟨rfl, hp⟩
      obtain ⟨⟨x2, s1, s2, s3, s4, s5, s6⟩, z0⟩ := hp
      have hot2 : OT w.heap.size w2 u3 gone := HOT0.out.chg s5 (fun q hq e => by have h1 := (World.ownsRow.lt HOT0.out q hq).1; have h2 := HH.out.lt (HOWN.out _ e); omega)
      have HOT2 := Lib.hid hot2
      have HC2 := Lib.hid (show Chg (x.own g) w w2 from HW0.out.trans (s5.mono fun b _ hb => HOWN.out b hb))
      have HS2 := Lib.hid s1
      have HT2 := Lib.hid s2
      have HK2 := Lib.hid s3
      have HO2 := Lib.hid (show ∀ y, x2.own g y → x.own g y from fun y hy => HOWN.out y (s4 y hy))
      have HWS := Lib.hid (show w.heap.size ≤ w2.heap.size from HC2.out.size)
      clear hot2 s1 s2 s3 s4 s5 s6
      go_wp2_with (at_builtin; refine wpList_app_text w.heap.size u3 gone kc w2.heap.size rfl _ _ rfl rfl (HOT2.out.below ((Below.refl _ _).alloc (Nat.le_refl _) _)) rfl (Bk.new w2 _ _) (by have := HGL.out; have := HN.out; omega) (by have := HWS.out; simp; omega) ?_; intro g9 cap9 w9 o9 gr9)
      have HO9 := Lib.hid o9
      have HG9 := Lib.hid gr9
      clear o9 gr9
      go_wp2
      go_roundg gko
      case measure => exact Nat.lt_succ_self _
      case rel =>
        have hgr : ∀ b, b < w2.heap.size → (∀ k, u3.ownBlock = some k → b ≠ k) → w9.heap[b]? = w2.heap[b]? := fun b hb hn => (HG9.out.block b (by simp; omega) (fun e => hn b e.symm rfl)).trans (Below.heap_alloc _ _ _ hb)
        have hnr : ∀ b, x.own g b → ∀ k, u3.ownBlock = some k → b ≠ k := fun b hb k hk e => by have h1 := (World.ownsRow.lt HOT0.out k hk).1; have h2 := HH.out.lt hb; omega
        refine ⟨x2, gone ++ [kc], HS2.out.keep fun b hb => hgr b (HS2.out.lt hb) (hnr b (HO2.out b hb)), ?_, ?_, ?_, ?_, ?_, ?_, HO2.out, ?_⟩
        · have := HO9.out
          simpa using this
        · rw [HK2.out, Q1.out]; exact HLEN.out
        · have := HGL.out; simp; omega
        · rw [HT2.out, HK2.out, Q1.out, Q2.out]; exact HR1.out
        · rw [HT2.out, HK2.out, Q1.out, Q2.out]; exact HR2.out
        · rw [HT2.out, HK2.out, Q1.out, Q2.out, List.append_assoc]; exact HR3.out
        · exact ((HC2.out.alloc _).grown HG9.out fun k hk hlt => by have h1 := (World.ownsRow.lt HOT0.out k hk).1; omega)
    · have w5 : decide (ke < sK) = false := decide_eq_false hc
      have hfin : ∀ N, RoomP g n al ke mo x R w (.returned u3) (wr.drewN N) := by
        have e : shrE ke gk x'.tE x'.kE = (x'.tE, x'.kE, []) := by
          cases gk with
          | zero => rfl
          | succ gk => unfold shrE; rw [hsK, if_neg hc]
        rw [e] at hr1 hr2 hr3
        exact fun N => ⟨u3, x', rfl, (by rw [← hr3, List.append_nil]; exact hot : OT w.heap.size wr u3 R.2.2), hst.sm ⟨rfl, rfl, rfl, rfl⟩, hr1, hr2, hown, hchg.drewN N⟩
      have HFIN := Lib.hid hfin
      clear hst hot hgk hln hr1 hr2 hr3 hown hchg hsK hc hfin
      go_wp2
      go_quiet ((go_at_call 60; (with_reducible exact Calls.quiet_of (HBT.out _))))
      go_wp2
      go_ret
      exact HFIN.out _
end Go.Proofs.YtjngangojgjceaaGreat.SL
namespace Go.Proofs.YtjngangojgjceaaGreat.SL
open Go.ChangeShapes Go.WideShapes Go.ChangeAt Go.RowKit Go.Maps Go.ChangeMaps
set_option maxRecDepth 100000
set_option linter.unusedVariables false
set_option linter.unusedSimpArgs false

theorem OT.mono {B B' : Nat} {w : World} {v : Value} {d : List ByteArray} (h : OT B w v d) (hB : B' ≤ B) : OT B' w v d := by
  refine ⟨h.1, ?_⟩
  rcases h.2 with h2 | ⟨g, cap, cur, rfl, hb, hr⟩
  · exact .inl h2
  · exact .inr ⟨g, cap, cur, rfl, Nat.le_trans hB hb, hr⟩
theorem OT.form {B : Nat} {w : World} {v : Value} {d : List ByteArray} (h : OT B w v d) : ∃ a c, v = .slice a d.length c := by
  rcases h.2 with ⟨rfl, h0⟩ | ⟨g, cap, cur, rfl, _⟩
  · exact ⟨_, _, by rw [h0]⟩
  · exact ⟨_, _, rfl⟩
theorem shr_none {ke : Int} {n : Nat} {T K : List En} (h : sumE K ≤ ke) : shrE ke n T K = (T, K, []) := by
  cases n with
  | zero => rfl
  | succ n => unfold shrE; rw [if_neg (by omega)]
/-- a list of texts that is told, beside a second answer, and what has become of the store -/
def TellP (g n n' : Nat) (al ke mo : Int) (x : Sx) (R : List En × List En × List ByteArray) (a : Value) (w : World) (e : Ending) (w' : World) : Prop :=
  ∃ v x', e = .returned (.tuple #[v, a]) ∧ OT w.heap.size w' v R.2.2 ∧ St w' g n' al ke mo x' ∧ x'.tE = R.1 ∧ x'.kE = R.2.1 ∧ (∀ y, x'.own g y → x.own g y ∨ w.heap.size ≤ y ∧ v.ownBlock ≠ some y) ∧ Chg (x.own g) w w'
theorem touch_no (w : World) (g n : Nat) (al ke mo : Int) (x : Sx) (h : St w g n al ke mo x) (k : ByteArray) (hk : k.size ≤ 281474976710656) (hf : x.f k = none) :
    Calls Tryz.prog 47 #[ptr g, .string k] w fun e w' => e = .returned (.tuple #[.slice none 0 0, .bool false]) ∧ w = w' := by
  have HFI := Lib.hid (find_no w g n al ke mo x h k hk hf)
  clear h hk hf
  go_enter Tryz.func47, Tryz.ntmps47
  go_wp2_with (go_at_call 84; refine HFI.out.mono ?_; rintro e w' ⟨rfl, rfl⟩)
  go_ret2
  exact ⟨rfl, rfl⟩
theorem touch_nil (w : World) (k : ByteArray) :
    Calls Tryz.prog 47 #[.pointer none, .string k] w fun e w' => e = .returned (.tuple #[.slice none 0 0, .bool false]) ∧ w = w' := by
  go_enter Tryz.func47, Tryz.ntmps47
  go_wp2_with (go_at_call 84; refine (find_nil _ _).mono ?_; rintro e w' ⟨rfl, rfl⟩)
  go_ret2
  exact ⟨rfl, rfl⟩
theorem touch_zero (w : World) (g : Nat) (k : ByteArray) (h : w.cell? ⟨g, 0, none⟩ = some (.pointer none)) :
    Calls Tryz.prog 47 #[ptr g, .string k] w fun e w' => e = .returned (.tuple #[.slice none 0 0, .bool false]) ∧ w = w' := by
  go_enter Tryz.func47, Tryz.ntmps47
  go_wp2_with (go_at_call 84; refine (find_zero _ g _ h).mono ?_; rintro e w' ⟨rfl, rfl⟩)
  go_ret2
  exact ⟨rfl, rfl⟩
set_option maxHeartbeats 2000000 in
theorem touch_TK (w : World) (g n : Nat) (al ke mo : Int) (x : Sx) (h : St w g n al ke mo x) (hke : 0 ≤ ke) (k : ByteArray) (hk : k.size ≤ 281474976710656) (b : Nat) (hf : x.f k = some b) (hb : b ∈ x.T) (z : Int) (hz : (x.F b).z = z) (hc : decide (z ≤ ke) = true)
    (R : List En × List En × List ByteArray) (hR : shrE ke ((k, z) :: delE k x.kE).length (delE k x.tE) ((k, z) :: delE k x.kE) = R) :
    Calls Tryz.prog 47 #[ptr g, .string k] w (TellP g n n al ke mo x R (.bool true) w) := by
  obtain ⟨hkb, _, hnb, _⟩ := h.some_ hf
  have HFI := Lib.hid (find_yes w g n al ke mo x h k hk b hf)
  obtain ⟨_, d1, _⟩ := h.node hnb
  rw [hz] at d1
  obtain ⟨_, _, c2, _⟩ := h.cells
  have HMV := Lib.hid (fun N => move_TK (w.drewN N) g n al ke mo x (h.sm ⟨rfl, rfl, rfl, rfl⟩) b hb)
  rw [hkb, hz] at HMV
  have HR := Lib.hid hR
  have HKE := Lib.hid hke
  have HLT := Lib.hid (fun y hy => h.lt (b := y) hy)
  clear h hf hb hz hR hkb hnb hk hke
  go_enter Tryz.func47, Tryz.ntmps47
  go_wp2_with fail
  refine HFI.out.mono ?_
  rintro e w' ⟨rfl, rfl⟩
  go_wp2
  go_quiet (fail)
  go_wp2_with fail
  refine (HMV.out nq).mono ?_
  rintro e w2 ⟨rfl, ⟨x2, s1, s2, s3, s4, s5, s6⟩, _⟩
  have HSH := Lib.hid (shrink_any w2 g n al ke mo x2 s1 HKE.out R (by rw [s2, s3]; exact HR.out))
  have HS4 := Lib.hid s4
  have HS5 := Lib.hid s5
  have HS6 : Hid (w2.heap.size = w.heap.size) := Lib.hid s6
  clear s1 s2 s3 s4 s5 s6
  go_wp2_with fail
  refine HSH.out.mono ?_
  rintro e w3 ⟨v, x3, rfl, t1, t2, t3, t4, t5, t6⟩
  obtain ⟨va, vc, rfl⟩ := t1.form
  go_wp2
  go_ret2
  exact ⟨_, x3, rfl, by rw [← HS6.out]; exact t1, t2, t3, t4, fun y hy => .inl (HS4.out y (t5 y hy)), ((Chg.refl _ w).drewN nq).trans (HS5.out.trans (t6.mono fun q _ hq => HS4.out q hq))⟩
set_option maxHeartbeats 2000000 in
theorem touch_TT (w : World) (g n : Nat) (al ke mo : Int) (x : Sx) (h : St w g n al ke mo x) (hke : 0 ≤ ke) (k : ByteArray) (hk : k.size ≤ 281474976710656) (b : Nat) (hf : x.f k = some b) (hb : b ∈ x.T) (z : Int) (hz : (x.F b).z = z) (hc : decide (z ≤ ke) = false)
    (R : List En × List En × List ByteArray) (hR : shrE ke (delE k x.kE).length ((k, z) :: delE k x.tE) (delE k x.kE) = R) :
    Calls Tryz.prog 47 #[ptr g, .string k] w (TellP g n n al ke mo x R (.bool true) w) := by
  obtain ⟨hkb, _, hnb, _⟩ := h.some_ hf
  have HFI := Lib.hid (find_yes w g n al ke mo x h k hk b hf)
  obtain ⟨_, d1, _⟩ := h.node hnb
  rw [hz] at d1
  obtain ⟨_, _, c2, _⟩ := h.cells
  have HMV := Lib.hid (fun N => move_TT (w.drewN N) g n al ke mo x (h.sm ⟨rfl, rfl, rfl, rfl⟩) b hb)
  rw [hkb, hz] at HMV
  have HR := Lib.hid hR
  have HKE := Lib.hid hke
  have HLT := Lib.hid (fun y hy => h.lt (b := y) hy)
  clear h hf hb hz hR hkb hnb hk hke
  go_enter Tryz.func47, Tryz.ntmps47
  go_wp2_with fail
  refine HFI.out.mono ?_
  rintro e w' ⟨rfl, rfl⟩
  go_wp2
  go_quiet (fail)
  go_wp2_with fail
  refine (HMV.out nq).mono ?_
  rintro e w2 ⟨rfl, ⟨x2, s1, s2, s3, s4, s5, s6⟩, _⟩
  have HSH := Lib.hid (shrink_any w2 g n al ke mo x2 s1 HKE.out R (by rw [s2, s3]; exact HR.out))
  have HS4 := Lib.hid s4
  have HS5 := Lib.hid s5
  have HS6 : Hid (w2.heap.size = w.heap.size) := Lib.hid s6
  clear s1 s2 s3 s4 s5 s6
  go_wp2_with fail
  refine HSH.out.mono ?_
  rintro e w3 ⟨v, x3, rfl, t1, t2, t3, t4, t5, t6⟩
  obtain ⟨va, vc, rfl⟩ := t1.form
  go_wp2
  go_ret2
  exact ⟨_, x3, rfl, by rw [← HS6.out]; exact t1, t2, t3, t4, fun y hy => .inl (HS4.out y (t5 y hy)), ((Chg.refl _ w).drewN nq).trans (HS5.out.trans (t6.mono fun q _ hq => HS4.out q hq))⟩
set_option maxHeartbeats 2000000 in
theorem touch_KK (w : World) (g n : Nat) (al ke mo : Int) (x : Sx) (h : St w g n al ke mo x) (hke : 0 ≤ ke) (k : ByteArray) (hk : k.size ≤ 281474976710656) (b : Nat) (hf : x.f k = some b) (hb : b ∈ x.K) (z : Int) (hz : (x.F b).z = z) (hc : decide (z ≤ ke) = true)
    (R : List En × List En × List ByteArray) (hR : shrE ke ((k, z) :: delE k x.kE).length (delE k x.tE) ((k, z) :: delE k x.kE) = R) :
    Calls Tryz.prog 47 #[ptr g, .string k] w (TellP g n n al ke mo x R (.bool true) w) := by
  obtain ⟨hkb, _, hnb, _⟩ := h.some_ hf
  have HFI := Lib.hid (find_yes w g n al ke mo x h k hk b hf)
  obtain ⟨_, d1, _⟩ := h.node hnb
  rw [hz] at d1
  obtain ⟨_, _, c2, _⟩ := h.cells
  have HMV := Lib.hid (fun N => move_KK (w.drewN N) g n al ke mo x (h.sm ⟨rfl, rfl, rfl, rfl⟩) b hb)
  rw [hkb, hz] at HMV
  have HR := Lib.hid hR
  have HKE := Lib.hid hke
  have HLT := Lib.hid (fun y hy => h.lt (b := y) hy)
  clear h hf hb hz hR hkb hnb hk hke
  go_enter Tryz.func47, Tryz.ntmps47
  go_wp2_with fail
  refine HFI.out.mono ?_
  rintro e w' ⟨rfl, rfl⟩
  go_wp2
  go_quiet (fail)
  go_wp2_with fail
  refine (HMV.out nq).mono ?_
  rintro e w2 ⟨rfl, ⟨x2, s1, s2, s3, s4, s5, s6⟩, _⟩
  have HSH := Lib.hid (shrink_any w2 g n al ke mo x2 s1 HKE.out R (by rw [s2, s3]; exact HR.out))
  have HS4 := Lib.hid s4
  have HS5 := Lib.hid s5
  have HS6 : Hid (w2.heap.size = w.heap.size) := Lib.hid s6
  clear s1 s2 s3 s4 s5 s6
  go_wp2_with fail
  refine HSH.out.mono ?_
  rintro e w3 ⟨v, x3, rfl, t1, t2, t3, t4, t5, t6⟩
  obtain ⟨va, vc, rfl⟩ := t1.form
  go_wp2
  go_ret2
  exact ⟨_, x3, rfl, by rw [← HS6.out]; exact t1, t2, t3, t4, fun y hy => .inl (HS4.out y (t5 y hy)), ((Chg.refl _ w).drewN nq).trans (HS5.out.trans (t6.mono fun q _ hq => HS4.out q hq))⟩
/-- Touch of a key that is there -/
theorem touch_yes (w : World) (g n : Nat) (al ke mo : Int) (x : Sx) (h : St w g n al ke mo x) (hke : 0 ≤ ke) (hsk : sumE x.kE ≤ ke) (k : ByteArray) (hk : k.size ≤ 281474976710656) (z : Int) (hz : hasS k x.tE x.kE = some z) :
    Calls Tryz.prog 47 #[ptr g, .string k] w (TellP g n n al ke mo x (touchE ke k z x.tE x.kE) (.bool true) w) := by
  cases hf : x.f k with
  | none =>
    obtain ⟨_, h1, h2, _⟩ := h.none_ hf
    unfold hasS at hz
    rw [h1, h2] at hz
    cases hz
  | some b =>
    obtain ⟨hkb, _, hnb, h0⟩ := h.some_ hf
    rcases h0 with ⟨hb, _, _, h1, h2, hd⟩ | ⟨hb, _, _, h1, h2, hd⟩
    · have hz2 : (x.F b).z = z := by unfold hasS at hz; rw [h1, h2] at hz; simpa using hz
      unfold touchE
      by_cases hc : z ≤ ke
      · rw [if_pos hc]
        exact touch_TK w g n al ke mo x h hke k hk b hf hb z hz2 (decide_eq_true hc) _ (by rw [List.length_cons])
      · rw [if_neg hc]
        exact touch_TT w g n al ke mo x h hke k hk b hf hb z hz2 (decide_eq_false hc) _ (shr_none (by rw [hd]; exact hsk))
    · have hz2 : (x.F b).z = z := by unfold hasS at hz; rw [h1, h2] at hz; simpa using hz
      have hc : z ≤ ke := by
        have := sum_mem h.gg.en_pos.2 ((x.F b).k, (x.F b).z) (List.mem_map.2 ⟨b, hb, rfl⟩)
        have e : sumE x.kE = sumE (en x.F x.K) := rfl
        simp only at this
        omega
      unfold touchE
      rw [if_pos hc]
      exact touch_KK w g n al ke mo x h hke k hk b hf hb z hz2 (decide_eq_true hc) _ (by rw [List.length_cons])
/-! ### Put -/
theorem room_sub {al z : Int} : ∀ (n : Nat) (T K : List En), (∀ y ∈ (roomE al z n T K).1, y ∈ T) ∧ ∀ y ∈ (roomE al z n T K).2.1, y ∈ K
  | 0, T, K => ⟨fun _ h => h, fun _ h => h⟩
  | n + 1, T, K => by
    unfold roomE
    split
    · split
      · rename_i a _
        obtain ⟨h1, h2⟩ := room_sub (al := al) (z := z) n T.dropLast K
        exact ⟨fun y hy => List.dropLast_subset _ (h1 y hy), h2⟩
      · split
        · obtain ⟨h1, h2⟩ := room_sub (al := al) (z := z) n T K.dropLast
          exact ⟨h1, fun y hy => List.dropLast_subset _ (h2 y hy)⟩
        · exact ⟨fun _ h => h, fun _ h => h⟩
    · exact ⟨fun _ h => h, fun _ h => h⟩
theorem room_fit {al z : Int} (hz : z ≤ al) : ∀ (n : Nat) (T K : List En), T.length + K.length = n → sumE (roomE al z n T K).1 + sumE (roomE al z n T K).2.1 + z ≤ al
  | 0, T, K, h => by
    have h1 : T = [] := List.eq_nil_of_length_eq_zero (by omega)
    have h2 : K = [] := List.eq_nil_of_length_eq_zero (by omega)
    subst h1 h2
    show (0 : Int) + 0 + z ≤ al
    omega
  | n + 1, T, K, h => by
    unfold roomE
    split
    · split
      · rename_i a ha
        have : 0 < T.length := by cases T; simp at ha; simp
        exact room_fit hz n T.dropLast K (by rw [List.length_dropLast]; omega)
      · rename_i ha
        have : T = [] := List.getLast?_eq_none_iff.1 ha
        subst this
        split
        · rename_i b hb
          have : 0 < K.length := by cases K; simp at hb; simp
          exact room_fit hz n [] K.dropLast (by rw [List.length_dropLast]; simp at h ⊢; omega)
        · rename_i hb
          have : K = [] := List.getLast?_eq_none_iff.1 hb
          subst this
          simp at h
    · simp only; omega
theorem St.fnone {w : World} {g n : Nat} {al ke mo : Int} {x : Sx} (h : St w g n al ke mo x) {k : ByteArray} (hT : ∀ y ∈ x.tE, y.1 ≠ k) (hK : ∀ y ∈ x.kE, y.1 ≠ k) : x.f k = none := by
  cases hf : x.f k with
  | none => rfl
  | some b =>
    exfalso
    obtain ⟨hb, e⟩ := (h.lk k b).1 hf
    rcases hb with hb | hb
    · exact hT _ (List.mem_map.2 ⟨b, hb, rfl⟩) e
    · exact hK _ (List.mem_map.2 ⟨b, hb, rfl⟩) e
theorem del_ne {k : ByteArray} {l : List En} {y : En} (h : y ∈ delE k l) : y ∈ l ∧ y.1 ≠ k := by
  obtain ⟨h1, h2⟩ := List.mem_filter.1 h
  exact ⟨h1, by simpa using h2⟩
theorem put_low (w : World) (g n : Nat) (al ke mo : Int) (x : Sx) (h : St w g n al ke mo x) (k : ByteArray) (z : Int) (hz : z < 1) :
    Calls Tryz.prog 32 #[ptr g, .string k, .int .i64 z] w fun e w' => e = .returned (.tuple #[.slice none 0 0, .int .i64 1]) ∧ w = w' := by
  obtain ⟨c0, _, _, c3, _⟩ := h.cells
  have d1 : decide (z < 1) = true := decide_eq_true hz
  clear h hz
  go_enter Tryz.func32, Tryz.ntmps32
  go_wp2_with (go_at_call 68; refine (given_yes _ g c0).mono ?_; rintro e w' ⟨rfl, rfl⟩)
  go_ret2
  exact ⟨rfl, rfl⟩
theorem put_big (w : World) (g n : Nat) (al ke mo : Int) (x : Sx) (h : St w g n al ke mo x) (k : ByteArray) (z : Int) (hz : 1 ≤ z) (hm : mo < z) :
    Calls Tryz.prog 32 #[ptr g, .string k, .int .i64 z] w fun e w' => e = .returned (.tuple #[.slice none 0 0, .int .i64 2]) ∧ w = w' := by
  obtain ⟨c0, _, _, c3, _⟩ := h.cells
  have d1 : decide (z < 1) = false := decide_eq_false (by omega)
  have d2 : decide (mo < z) = true := decide_eq_true hm
  clear h hz hm
  go_enter Tryz.func32, Tryz.ntmps32
  go_wp2_with (go_at_call 68; refine (given_yes _ g c0).mono ?_; rintro e w' ⟨rfl, rfl⟩)
  go_ret2
  exact ⟨rfl, rfl⟩
theorem put_nil (w : World) (k : ByteArray) (z : Int) :
    Calls Tryz.prog 32 #[.pointer none, .string k, .int .i64 z] w fun e w' => e = .returned (.tuple #[.slice none 0 0, .int .i64 12]) ∧ w = w' := by
  go_enter Tryz.func32, Tryz.ntmps32
  go_wp2_with (go_at_call 68; refine (given_nil _).mono ?_; rintro e w' ⟨rfl, rfl⟩)
  go_ret2
  exact ⟨rfl, rfl⟩
theorem put_zero (w : World) (g : Nat) (k : ByteArray) (z : Int) (h : w.cell? ⟨g, 0, none⟩ = some (.pointer none)) :
    Calls Tryz.prog 32 #[ptr g, .string k, .int .i64 z] w fun e w' => e = .returned (.tuple #[.slice none 0 0, .int .i64 12]) ∧ w = w' := by
  go_enter Tryz.func32, Tryz.ntmps32
  go_wp2_with (go_at_call 68; refine (given_zero _ g h).mono ?_; rintro e w' ⟨rfl, rfl⟩)
  go_ret2
  exact ⟨rfl, rfl⟩
set_option maxHeartbeats 2000000 in
theorem put_ok (w : World) (g n : Nat) (al ke mo : Int) (x : Sx) (h : St w g n al ke mo x) (hal : mo ≤ al ∧ al ≤ 1073741824) (hn : n < 1099511627776) (hks : ∀ y ∈ x.tE ++ x.kE, y.1.size ≤ 281474976710656) (k : ByteArray) (hk : k.size ≤ 281474976710656) (z : Int) (hz : 1 ≤ z) (hm : z ≤ mo)
    (R : List En × List En × List ByteArray) (hR : putE al k z x.tE x.kE = R) :
    Calls Tryz.prog 32 #[ptr g, .string k, .int .i64 z] w (TellP g n (n + 1) al ke mo x R (.int .i64 0) w) := by
  obtain ⟨c0, _, _, c3, _⟩ := h.cells
  have d1 : decide (z < 1) = false := decide_eq_false (by omega)
  have d2 : decide (mo < z) = false := decide_eq_false (by omega)
  have HDR := Lib.hid (drop_any w g n al ke mo x h k hk)
  obtain ⟨Q, hQ⟩ : ∃ Q, roomE al z ((delE k x.tE).length + (delE k x.kE).length) (delE k x.tE) (delE k x.kE) = Q := ⟨_, rfl⟩
  have hR2 : R = ((k, z) :: Q.1, Q.2.1, Q.2.2) := by rw [← hR]; unfold putE; rw [hQ]
  subst hR2
  have hsub := room_sub (al := al) (z := z) ((delE k x.tE).length + (delE k x.kE).length) (delE k x.tE) (delE k x.kE)
  have hfit := room_fit (al := al) (z := z) (by omega) ((delE k x.tE).length + (delE k x.kE).length) (delE k x.tE) (delE k x.kE) rfl
  rw [hQ] at hsub hfit
  have HRO := Lib.hid (fun (W : World) (x1 : Sx) (s1 : St W g n al ke mo x1) (s2 : x1.tE = delE k x.tE) (s3 : x1.kE = delE k x.kE) => room_any W g n al ke mo x1 s1 z ⟨hz, by omega, by omega⟩ (fun y hy => hks y (by
    rw [s2, s3] at hy
    rcases List.mem_append.1 hy with h0 | h0
    · exact List.mem_append.2 (.inl (del_ne h0).1)
    · exact List.mem_append.2 (.inr (del_ne h0).1))) Q (by rw [s2, s3]; exact hQ))
  have HAD := Lib.hid (fun (W : World) (x2 : Sx) (s1 : St W g n al ke mo x2) (s2 : x2.tE = Q.1) (s3 : x2.kE = Q.2.1) => add_T W g n al ke mo x2 s1 k hk (s1.fnone (fun y hy => (del_ne (hsub.1 y (by rw [← s2]; exact hy))).2) (fun y hy => (del_ne (hsub.2 y (by rw [← s3]; exact hy))).2)) z hz (by rw [s2, s3]; omega) hn)
  have HLT := Lib.hid (fun y hy => h.lt (b := y) hy)
  have HK := Lib.hid hk
  clear h hal hn hks hk hz hm hR hQ hsub hfit
  go_enter Tryz.func32, Tryz.ntmps32
  go_wp2_with fail
  refine (given_yes _ g c0).mono ?_
  rintro e w' ⟨rfl, rfl⟩
  go_wp2_with fail
  refine HDR.out.mono ?_
  rintro e w1 ⟨rfl, x1, s1, s2, s3, s4, s5, s6⟩
  have HR1 := Lib.hid (HRO.out w1 x1 s1 s2 s3)
  have HO1 := Lib.hid s4
  have HC1 := Lib.hid s5
  have HZ1 := Lib.hid s6
  clear s1 s2 s3 s4 s5 s6
  go_wp2_with fail
  refine HR1.out.mono ?_
  rintro e w2 ⟨v, x2, rfl, t1, t2, t3, t4, t5, t6⟩
  obtain ⟨va, vc, rfl⟩ := t1.form
  have HV := Lib.hid t1
  have HS2 := Lib.hid t2
  have HT2 := Lib.hid t3
  have HK2 := Lib.hid t4
  have HO2 := Lib.hid t5
  have HC2 := Lib.hid t6
  clear t1 t2 t3 t4 t5 t6
  go_wp2_with fail
  refine (clone_any k _ HK.out).mono ?_
  rintro e w3 ⟨rfl, hb3⟩
  have HA := Lib.hid (HAD.out w3 x2 (HS2.out.below hb3) HT2.out HK2.out)
  have HB3 := Lib.hid hb3
  clear hb3
  go_wp2_with fail
  refine HA.out.mono ?_
  rintro e w4 ⟨rfl, x4, u1, u2, u3, u4, u5⟩
  have HA4 := Lib.hid u4
  have HC4 := Lib.hid u5
  have HS4 := Lib.hid u1
  have HT4 := Lib.hid u2
  have HK4 := Lib.hid u3
  clear u1 u2 u3 u4 u5
  go_wp2
  go_ret2
  have hlow : ∀ q, (Value.slice va Q.2.2.length vc).ownBlock = some q → w.heap.size ≤ q ∧ q < w2.heap.size := fun q hq => by
    obtain ⟨h1, h2⟩ := World.ownsRow.lt HV.out q hq
    have := HZ1.out
    exact ⟨by omega, h2⟩
  have hx2 : ∀ y, x2.own g y → x.own g y := fun y hy => HO1.out y (HO2.out y hy)
  refine ⟨_, x4, rfl, ?_, HS4.out, by rw [HT4.out, HT2.out], by rw [HK4.out, HK2.out], fun y hy => ?_, ?_⟩
  · refine ((HV.out.mono (B' := w.heap.size) (by rw [HZ1.out]; exact Nat.le_refl _)).below HB3.out).chg HC4.out fun q hq e => ?_
    have h1 := (hlow q hq).1
    have h2 := HLT.out q (hx2 q e)
    omega
  · rcases HA4.out y hy with h0 | h0
    · exact .inl (hx2 y h0)
    · refine .inr ⟨?_, fun e => ?_⟩
      · have := HB3.out.size; have := HC2.out.size; have := HZ1.out; omega
      · have := (hlow y e).2; have := HB3.out.size; omega
  · exact HC1.out.trans ((HC2.out.mono fun q _ hq => HO1.out q hq).trans ((Chg.of_below HB3.out).trans (HC4.out.mono fun q _ hq => hx2 q hq)))
end Go.Proofs.YtjngangojgjceaaGreat.SL
namespace Go.Proofs.YtjngangojgjceaaGreat.SL
open Go.ChangeShapes Go.WideShapes Go.ChangeAt Go.RowKit Go.Maps Go.ChangeMaps
set_option maxRecDepth 100000
set_option linter.unusedVariables false
set_option linter.unusedSimpArgs false

def keysE (l : List En) : List ByteArray := l.map (·.1)
theorem od_next {F : Nat → Nd} {e c d : Nat} {L1 L2 B : List Nat} (h : Lnk F (e :: (L1 ++ c :: L2 ++ [e]))) (hr : L2 ++ [e] = d :: B) : (F c).od = some d := by
  have e1 : e :: (L1 ++ c :: L2 ++ [e]) = (e :: L1) ++ c :: (d :: B) := by rw [← hr]; simp
  rw [e1, Lnk.split] at h
  exact h.2.1
theorem nw_next {F : Nat → Nd} {e c d : Nat} {L1 L2 A : List Nat} (h : Lnk F (e :: (L1 ++ c :: L2 ++ [e]))) (hr : e :: L1 = A ++ [d]) : (F c).nw = some d := by
  have e1 : e :: (L1 ++ c :: L2 ++ [e]) = A ++ d :: (c :: (L2 ++ [e])) := by
    rw [List.append_assoc, ← List.cons_append, hr]; simp
  rw [e1, Lnk.split] at h
  exact h.2.2.1
def KeysP (d : List ByteArray) (w : World) (e : Ending) (w' : World) : Prop := ∃ v, e = .returned v ∧ OT w.heap.size w' v d ∧ Below w.heap.size w w'
theorem keys_nil (w : World) (b : Bool) :
    Calls Tryz.prog 94 #[.pointer none, .bool b] w fun e w' => e = .returned (.slice none 0 0) ∧ w = w' := by
  go_enter Tryz.func94, Tryz.ntmps94
  go_wp2_with (go_at_call 68; refine (given_nil _).mono ?_; rintro e w' ⟨rfl, rfl⟩)
  go_ret
  exact ⟨rfl, rfl⟩
theorem keys_zero (w : World) (g : Nat) (b : Bool) (h : w.cell? ⟨g, 0, none⟩ = some (.pointer none)) :
    Calls Tryz.prog 94 #[ptr g, .bool b] w fun e w' => e = .returned (.slice none 0 0) ∧ w = w' := by
  go_enter Tryz.func94, Tryz.ntmps94
  go_wp2_with (go_at_call 68; refine (given_zero _ g h).mono ?_; rintro e w' ⟨rfl, rfl⟩)
  go_ret
  exact ⟨rfl, rfl⟩
theorem copy_nil (w : World) :
    Calls Tryz.prog 56 #[.pointer none] w fun e w' => e = .returned (.pointer none) ∧ w = w' := by
  go_enter Tryz.func56, Tryz.ntmps56
  go_wp2_with (go_at_call 68; refine (given_nil _).mono ?_; rintro e w' ⟨rfl, rfl⟩)
  go_ret
  exact ⟨rfl, rfl⟩
theorem copy_zero (w : World) (g : Nat) (h : w.cell? ⟨g, 0, none⟩ = some (.pointer none)) :
    Calls Tryz.prog 56 #[ptr g] w fun e w' => e = .returned (.pointer none) ∧ w = w' := by
  go_enter Tryz.func56, Tryz.ntmps56
  go_wp2_with (go_at_call 68; refine (given_zero _ g h).mono ?_; rintro e w' ⟨rfl, rfl⟩)
  go_ret
  exact ⟨rfl, rfl⟩
set_option maxHeartbeats 2000000 in
theorem keys_T (w : World) (g n : Nat) (al ke mo : Int) (x : Sx) (h : St w g n al ke mo x) :
    Calls Tryz.prog 94 #[ptr g, .bool false] w (KeysP (keysE x.tE) w) := by
  obtain ⟨c0, _, _, _, c4, _, c6, _, _⟩ := h.cells
  obtain ⟨a, A, _, _, r1, r2, _, _⟩ := ring_ends h.gg.l0
  obtain ⟨_, _, _, _, d4⟩ := h.node (b := x.e0) (.inl rfl)
  rw [r2] at d4
  have HH := Lib.hid h
  have HNW := Lib.hid (fun N => newest_any (w.drewN N) g 4 x.e0 a c4 d4)
  have HR1 := Lib.hid r1
  have HLN := Lib.hid h.len
  have HK : keysE x.tE = x.T.map fun b => (x.F b).k := by show ((en x.F x.T).map (·.1)) = _; unfold en; rw [List.map_map]; rfl
  rw [HK]
  have HLE : Hid (x.T.length ≤ 1073741824) := Lib.hid (by have := h.len; have e1 : x.tE.length = x.T.length := List.length_map ..; omega)
  have nz := en_ne0
  clear h r1 r2 HK c4 c6 d4
  go_enter Tryz.func94, Tryz.ntmps94
  go_wp2_with (go_at_call 68; refine (given_yes _ g c0).mono ?_; rintro e w' ⟨rfl, rfl⟩)
  go_quiet ((first
    | (go_at_call 99; exact Calls.quiet_of_same ((where_any false _).mono fun _ _ h => ⟨h.1, h.2.symm⟩))
    | (go_at_call 121; exact Calls.quiet_of_same ((HNW.out _).mono fun _ _ h => ⟨h.1, h.2.symm⟩))))
  go_wp2
  go_loopg [5, 6] x.T.length (fun gk u5 u6 wx => ∃ L1 L2 c, x.T = L1 ++ L2 ∧ L2.length = gk ∧ u6 = ptr c ∧ (∃ B, L2 ++ [x.e0] = c :: B) ∧ OT w.heap.size wx u5 (L1.map fun b => (x.F b).k) ∧ Below w.heap.size w wx)
  case atStart => exact ⟨[], x.T, a, rfl, rfl, rfl, ⟨A, HR1.out⟩, OT.nil _ _, (Below.refl _ _).trans (below_drewN _ _ _)⟩
  case round =>
    obtain ⟨L1, L2, c, hL, hlen, rfl, ⟨B, hB⟩, hot, hbel⟩ := hrel
    have hst := HH.out.below hbel
    have HOT := Lib.hid hot
    have HBE := Lib.hid hbel
    cases gk with
    | zero =>
      have hL2 : L2 = [] := List.eq_nil_of_length_eq_zero hlen
      subst hL2
      have hc : c = x.e0 := by simp at hB; exact hB.1.symm
      subst hc
      obtain ⟨d0, d1, _⟩ := hst.node (b := x.e0) (.inl rfl)
      rw [hst.gg.z0.1] at d0
      rw [hst.gg.z0.2] at d1
      have hfin : KeysP (x.T.map fun b => (x.F b).k) w (.returned u5) wr := ⟨u5, rfl, by rw [hL, List.append_nil]; exact hot, hbel⟩
      have HFIN := Lib.hid hfin
      clear hst hot hbel hL hlen hB hfin
      go_wp2
      go_ret
      exact HFIN.out
    | succ gko =>
      obtain ⟨d, L3, rfl⟩ : ∃ d L3, L2 = d :: L3 := by
        cases L2 with
        | nil => simp at hlen
        | cons d L3 => exact ⟨d, L3, rfl⟩
      have hdc : d = c := by simp at hB; exact hB.1
      subst hdc
      have hx : d ∈ x.T := by rw [hL]; simp
      obtain ⟨c', B', hB'⟩ := snoc_cons x.e0 L3
      have hod : (x.F d).od = some c' := by
        have hl := hst.gg.l0
        rw [hL] at hl
        exact od_next (L1 := L1) (L2 := L3) (by simpa using hl) hB'
      obtain ⟨d0, d1, _, _, d4⟩ := hst.node (b := d) (.inr (.inr (.inl hx)))
      rw [hod] at d4
      have hpos := hst.gg.pos d (.inl hx)
      obtain ⟨kc, hkc⟩ : ∃ k, (x.F d).k = k := ⟨_, rfl⟩
      obtain ⟨zc, hzc⟩ : ∃ z, (x.F d).z = z := ⟨_, rfl⟩
      rw [hkc] at d0
      rw [hzc] at d1 hpos
      have qe := fun W => en_ne kc zc hpos W
      have hlt := hst.lt (.inr (.inr (.inr (.inr (.inl hx)))) : x.own g d)
      have HL := Lib.hid hL
      have HLEN := Lib.hid (show L1.length ≤ 1073741824 by have h1 := HLE.out; have h2 := congrArg List.length hL; rw [List.length_append] at h2; omega)
      have HB2 := Lib.hid hB'
      have HKC := Lib.hid hkc
      have HL3 := Lib.hid (show L3.length = gko by simpa using hlen)
      have HWS := Lib.hid (show w.heap.size ≤ wr.heap.size from hbel.size)
      have HGR := Lib.hid (fun (w9 : World) (gr9 : (wr.alloc (.cells #[.string kc] 9)).grownBy w9 u5.ownBlock) (b : Nat) (hb : b < wr.heap.size) (hn : ∀ k, u5.ownBlock = some k → b ≠ k) => (show w9.heap[b]? = wr.heap[b]? from (gr9.block b (by simp; omega) (fun e => hn b e.symm rfl)).trans (Below.heap_alloc _ _ _ hb)))
      have HD9 := Lib.hid (fun (w9 : World) (gr9 : (wr.alloc (.cells #[.string kc] 9)).grownBy w9 u5.ownBlock) => (show w9.cell? ⟨d, 4, none⟩ = some (ptr c') from ((World.cell?_of_block (w := wr) (a := ⟨d, 4, none⟩) (HGR.out w9 gr9 d hlt (fun k hk e => by
        have h1 := (World.ownsRow.lt HOT.out k hk).1
        have h2 := HH.out.lt (.inr (.inr (.inr (.inr (.inl hx)))) : x.own g d)
        omega)))).trans d4))
      clear hst hot hbel hL hlen hB hB' hod hpos hkc hzc hx hlt d4
      go_wp2_with (at_builtin; refine wpList_app_text w.heap.size u5 (L1.map fun b => (x.F b).k) kc wr.heap.size rfl _ _ rfl rfl (HOT.out.below ((Below.refl _ _).alloc (Nat.le_refl _) _)) rfl (Bk.new wr _ _) (by have := HLEN.out; rw [List.length_map]; omega) (by have := HWS.out; simp; omega) ?_; intro g9 cap9 w9 o9 gr9; have d49 := HD9.out w9 gr9)
      have hbl9 : Below w.heap.size w w9 := (HBE.out.alloc HWS.out _).grown gr9 (by have := HWS.out; simp; omega) (fun k hk => (World.ownsRow.lt HOT.out k hk).1)
      have HO9 := Lib.hid o9
      have HB9 := Lib.hid hbl9
      clear o9 gr9 hbl9
      go_wp2
      go_roundg gko
      case measure => exact Nat.lt_succ_self _
      case rel =>
        refine ⟨L1 ++ [d], L3, c', by rw [HL.out]; simp, HL3.out, rfl, ⟨B', HB2.out⟩, ?_, HB9.out⟩
        rw [List.map_append, List.map_cons, List.map_nil, HKC.out]
        have := HO9.out
        simpa using this
set_option maxHeartbeats 2000000 in
theorem keys_K (w : World) (g n : Nat) (al ke mo : Int) (x : Sx) (h : St w g n al ke mo x) :
    Calls Tryz.prog 94 #[ptr g, .bool true] w (KeysP (keysE x.kE) w) := by
  obtain ⟨c0, _, _, _, c4, _, c6, _, _⟩ := h.cells
  obtain ⟨a, A, _, _, r1, r2, _, _⟩ := ring_ends h.gg.swap.l0
  obtain ⟨_, _, _, _, d4⟩ := h.node (b := x.e1) (.inr (.inl rfl))
  rw [r2] at d4
  have HH := Lib.hid h
  have HNW := Lib.hid (fun N => newest_any (w.drewN N) g 6 x.e1 a c6 d4)
  have HR1 := Lib.hid r1
  have HLN := Lib.hid h.len
  have HK : keysE x.kE = x.K.map fun b => (x.F b).k := by show ((en x.F x.K).map (·.1)) = _; unfold en; rw [List.map_map]; rfl
  rw [HK]
  have HLE : Hid (x.K.length ≤ 1073741824) := Lib.hid (by have := h.len; have e1 : x.kE.length = x.K.length := List.length_map ..; omega)
  have nz := en_ne0
  clear h r1 r2 HK c4 c6 d4
  go_enter Tryz.func94, Tryz.ntmps94
  go_wp2_with (go_at_call 68; refine (given_yes _ g c0).mono ?_; rintro e w' ⟨rfl, rfl⟩)
  go_quiet ((first
    | (go_at_call 99; exact Calls.quiet_of_same ((where_any true _).mono fun _ _ h => ⟨h.1, h.2.symm⟩))
    | (go_at_call 121; exact Calls.quiet_of_same ((HNW.out _).mono fun _ _ h => ⟨h.1, h.2.symm⟩))))
  go_wp2
  go_loopg [5, 6] x.K.length (fun gk u5 u6 wx => ∃ L1 L2 c, x.K = L1 ++ L2 ∧ L2.length = gk ∧ u6 = ptr c ∧ (∃ B, L2 ++ [x.e1] = c :: B) ∧ OT w.heap.size wx u5 (L1.map fun b => (x.F b).k) ∧ Below w.heap.size w wx)
  case atStart => exact ⟨[], x.K, a, rfl, rfl, rfl, ⟨A, HR1.out⟩, OT.nil _ _, (Below.refl _ _).trans (below_drewN _ _ _)⟩
  case round =>
    obtain ⟨L1, L2, c, hL, hlen, rfl, ⟨B, hB⟩, hot, hbel⟩ := hrel
    have hst := HH.out.below hbel
    have HOT := Lib.hid hot
    have HBE := Lib.hid hbel
    cases gk with
    | zero =>
      have hL2 : L2 = [] := List.eq_nil_of_length_eq_zero hlen
      subst hL2
      have hc : c = x.e1 := by simp at hB; exact hB.1.symm
      subst hc
      obtain ⟨d0, d1, _⟩ := hst.node (b := x.e1) (.inr (.inl rfl))
      rw [hst.gg.z1.1] at d0
      rw [hst.gg.z1.2] at d1
      have hfin : KeysP (x.K.map fun b => (x.F b).k) w (.returned u5) wr := ⟨u5, rfl, by rw [hL, List.append_nil]; exact hot, hbel⟩
      have HFIN := Lib.hid hfin
      clear hst hot hbel hL hlen hB hfin
      go_wp2
      go_ret
      exact HFIN.out
    | succ gko =>
      obtain ⟨d, L3, rfl⟩ : ∃ d L3, L2 = d :: L3 := by
        cases L2 with
        | nil => simp at hlen
        | cons d L3 => exact ⟨d, L3, rfl⟩
      have hdc : d = c := by simp at hB; exact hB.1
      subst hdc
      have hx : d ∈ x.K := by rw [hL]; simp
      obtain ⟨c', B', hB'⟩ := snoc_cons x.e1 L3
      have hod : (x.F d).od = some c' := by
        have hl := hst.gg.swap.l0
        rw [hL] at hl
        exact od_next (L1 := L1) (L2 := L3) (by simpa using hl) hB'
      obtain ⟨d0, d1, _, _, d4⟩ := hst.node (b := d) (.inr (.inr (.inr hx)))
      rw [hod] at d4
      have hpos := hst.gg.pos d (.inr hx)
      obtain ⟨kc, hkc⟩ : ∃ k, (x.F d).k = k := ⟨_, rfl⟩
      obtain ⟨zc, hzc⟩ : ∃ z, (x.F d).z = z := ⟨_, rfl⟩
      rw [hkc] at d0
      rw [hzc] at d1 hpos
      have qe := fun W => en_ne kc zc hpos W
      have hlt := hst.lt (.inr (.inr (.inr (.inr (.inr hx)))) : x.own g d)
      have HL := Lib.hid hL
      have HLEN := Lib.hid (show L1.length ≤ 1073741824 by have h1 := HLE.out; have h2 := congrArg List.length hL; rw [List.length_append] at h2; omega)
      have HB2 := Lib.hid hB'
      have HKC := Lib.hid hkc
      have HL3 := Lib.hid (show L3.length = gko by simpa using hlen)
      have HWS := Lib.hid (show w.heap.size ≤ wr.heap.size from hbel.size)
      have HGR := Lib.hid (fun (w9 : World) (gr9 : (wr.alloc (.cells #[.string kc] 9)).grownBy w9 u5.ownBlock) (b : Nat) (hb : b < wr.heap.size) (hn : ∀ k, u5.ownBlock = some k → b ≠ k) => (show w9.heap[b]? = wr.heap[b]? from (gr9.block b (by simp; omega) (fun e => hn b e.symm rfl)).trans (Below.heap_alloc _ _ _ hb)))
      have HD9 := Lib.hid (fun (w9 : World) (gr9 : (wr.alloc (.cells #[.string kc] 9)).grownBy w9 u5.ownBlock) => (show w9.cell? ⟨d, 4, none⟩ = some (ptr c') from ((World.cell?_of_block (w := wr) (a := ⟨d, 4, none⟩) (HGR.out w9 gr9 d hlt (fun k hk e => by
        have h1 := (World.ownsRow.lt HOT.out k hk).1
        have h2 := HH.out.lt (.inr (.inr (.inr (.inr (.inr hx)))) : x.own g d)
        omega)))).trans d4))
      clear hst hot hbel hL hlen hB hB' hod hpos hkc hzc hx hlt d4
      go_wp2_with (at_builtin; refine wpList_app_text w.heap.size u5 (L1.map fun b => (x.F b).k) kc wr.heap.size rfl _ _ rfl rfl (HOT.out.below ((Below.refl _ _).alloc (Nat.le_refl _) _)) rfl (Bk.new wr _ _) (by have := HLEN.out; rw [List.length_map]; omega) (by have := HWS.out; simp; omega) ?_; intro g9 cap9 w9 o9 gr9; have d49 := HD9.out w9 gr9)
      have hbl9 : Below w.heap.size w w9 := (HBE.out.alloc HWS.out _).grown gr9 (by have := HWS.out; simp; omega) (fun k hk => (World.ownsRow.lt HOT.out k hk).1)
      have HO9 := Lib.hid o9
      have HB9 := Lib.hid hbl9
      clear o9 gr9 hbl9
      go_wp2
      go_roundg gko
      case measure => exact Nat.lt_succ_self _
      case rel =>
        refine ⟨L1 ++ [d], L3, c', by rw [HL.out]; simp, HL3.out, rfl, ⟨B', HB2.out⟩, ?_, HB9.out⟩
        rw [List.map_append, List.map_cons, List.map_nil, HKC.out]
        have := HO9.out
        simpa using this
end Go.Proofs.YtjngangojgjceaaGreat.SL
namespace Go.Proofs.YtjngangojgjceaaGreat.SL
open Go.ChangeShapes Go.WideShapes Go.ChangeAt Go.RowKit Go.Maps Go.ChangeMaps
set_option maxRecDepth 100000
set_option linter.unusedVariables false
set_option linter.unusedSimpArgs false

theorem TS.at_ {w : World} {v : Value} {d : List ByteArray} (h : TS w v d) : ∃ a cap, v = .slice a d.length cap ∧ (d.length = 0 ∨ ∃ g off, a = some ⟨g, off, none⟩ ∧ d.length ≤ cap ∧ ∀ k (hk : k < d.length), w.cell? ⟨g, off + k, none⟩ = some (.string d[k])) := by
  rcases h with ⟨A, cap, rfl, rfl⟩ | ⟨g, off, cap, rfl, hc, hx⟩
  · exact ⟨_, _, rfl, .inl rfl⟩
  · exact ⟨_, _, rfl, .inr ⟨g, off, rfl, hc, fun k hk => hx k d[k] (List.getElem?_eq_getElem hk)⟩⟩
end Go.Proofs.YtjngangojgjceaaGreat.SL
namespace Go.Proofs.YtjngangojgjceaaGreat.SL
open Go.ChangeShapes Go.WideShapes Go.ChangeAt Go.RowKit Go.Maps Go.ChangeMaps
set_option maxRecDepth 100000
set_option linter.unusedVariables false
set_option linter.unusedSimpArgs false

/-- what lies beside a store: a list of texts that was told; a block known whole -/
inductive Kp where
  | txt (v : Value) (d : List ByteArray)
  | blk (b : Nat) (t : TypeId) (cs : Array Value)
  | keep (P : World → Prop) (S : Nat → Prop)
def Kp.ok (B : Nat) (w : World) (own : Nat → Prop) : Kp → Prop
  | .txt v d => OT B w v d ∧ ∀ q, v.ownBlock = some q → ¬ own q
  | .blk b t cs => Bk w b t cs ∧ ¬ own b
  | .keep P S => P w ∧ (∀ b, S b → b < w.heap.size ∧ ¬ own b) ∧ ∀ w1 w2, P w1 → (∀ b, S b → w2.heap[b]? = w1.heap[b]?) → P w2
theorem Kp.ok.below {B : Nat} {w w' : World} {own : Nat → Prop} {p : Kp} (h : p.ok B w own) (hb : Below w.heap.size w w') : p.ok B w' own := by
  cases p with
  | txt v d => exact ⟨h.1.below hb, h.2⟩
  | blk b t cs => exact ⟨h.1.below hb, h.2⟩
  | keep P S => exact ⟨h.2.2 _ _ h.1 fun b hs => hb.block b (h.2.1 b hs).1, fun b hs => ⟨Nat.lt_of_lt_of_le (h.2.1 b hs).1 hb.size, (h.2.1 b hs).2⟩, h.2.2⟩
theorem Kp.ok.chg {B : Nat} {w w' : World} {own own' : Nat → Prop} {p : Kp} (h : p.ok B w own) (hc : Chg own w w') (ho : ∀ b, b < w.heap.size → own' b → own b) : p.ok B w' own' := by
  cases p with
  | txt v d => exact ⟨h.1.chg hc h.2, fun q hq hx => h.2 q hq (ho q (World.ownsRow.lt h.1 q hq).2 hx)⟩
  | blk b t cs => exact ⟨h.1.chg hc h.2, fun hx => h.2 (ho b h.1.lt hx)⟩
  | keep P S => exact ⟨h.2.2 _ _ h.1 fun b hs => hc.block b (h.2.1 b hs).1 (h.2.1 b hs).2, fun b hs => ⟨Nat.lt_of_lt_of_le (h.2.1 b hs).1 hc.size, fun hx => (h.2.1 b hs).2 (ho b (h.2.1 b hs).1 hx)⟩, h.2.2⟩
/-- at block g stands a store with these entries, made since w0; what O names was told, and lies apart -/
def LS (w0 w : World) (g n : Nat) (al ke mo : Int) (T K : List En) (O : List Kp) : Prop :=
  ∃ x, St w g n al ke mo x ∧ x.tE = T ∧ x.kE = K ∧ (∀ b, x.own g b → w0.heap.size ≤ b) ∧ Below w0.heap.size w0 w ∧ ∀ p ∈ O, p.ok w0.heap.size w (x.own g)
section
variable {w0 w w' : World} {g n : Nat} {al ke mo : Int} {T K : List En} {O : List Kp}
theorem LS.below (h : LS w0 w g n al ke mo T K O) (hb : Below w.heap.size w w') : LS w0 w' g n al ke mo T K O := by
  obtain ⟨x, h1, h2, h3, h4, h5, h6⟩ := h
  exact ⟨x, h1.below hb, h2, h3, h4, h5.trans (hb.mono h5.size), fun p hp => (h6 p hp).below hb⟩
theorem LS.bel (h : LS w0 w g n al ke mo T K O) : Below w0.heap.size w0 w := by obtain ⟨x, h1, h2, h3, h4, h5, h6⟩ := h; exact h5
theorem LS.told (h : LS w0 w g n al ke mo T K O) {v : Value} {d : List ByteArray} (hp : Kp.txt v d ∈ O) : OT w0.heap.size w v d := by obtain ⟨x, h1, h2, h3, h4, h5, h6⟩ := h; exact (h6 _ hp).1
theorem LS.blk (h : LS w0 w g n al ke mo T K O) {b : Nat} {t : TypeId} {cs : Array Value} (hp : Kp.blk b t cs ∈ O) : Bk w b t cs := by obtain ⟨x, h1, h2, h3, h4, h5, h6⟩ := h; exact (h6 _ hp).1
theorem LS.box (h : LS w0 w g n al ke mo T K O) (t : TypeId) (cs : Array Value) : LS w0 (w.alloc (.cells cs t)) g n al ke mo T K (.blk w.heap.size t cs :: O) := by
  obtain ⟨x, h1, h2, h3, h4, h5, h6⟩ := h
  have hb : Below w.heap.size w (w.alloc (.cells cs t)) := (Below.refl _ _).alloc (Nat.le_refl _) _
  refine ⟨x, h1.below hb, h2, h3, h4, h5.trans (hb.mono h5.size), fun p hp => ?_⟩
  rcases List.mem_cons.1 hp with rfl | hp
  · exact ⟨Bk.new _ _ _, fun hx => by have := h1.lt hx; omega⟩
  · exact (h6 p hp).below hb
theorem LS.pos (h : LS w0 w g n al ke mo T K O) : (∀ y ∈ T, 1 ≤ y.2) ∧ ∀ y ∈ K, 1 ≤ y.2 := by
  obtain ⟨x, h1, rfl, rfl, _⟩ := h
  exact h1.gg.en_pos
theorem LS.apart (h : LS w0 w g n al ke mo T K O) : ∀ k, k ∈ keysE T → k ∉ keysE K := by
  obtain ⟨x, h1, rfl, rfl, _⟩ := h
  intro k hk hk2
  obtain ⟨y, hy, rfl⟩ := List.mem_map.1 hk
  obtain ⟨b, hb, rfl⟩ := List.mem_map.1 hy
  obtain ⟨y', hy', e⟩ := List.mem_map.1 hk2
  obtain ⟨c, hc, rfl⟩ := List.mem_map.1 hy'
  have := h1.gg.uq c b (.inr hc) (.inl hb) e
  subst this
  exact h1.gg.ap c (.inr hb) (.inr hc)
theorem LS.lens (h : LS w0 w g n al ke mo T K O) : T.length + K.length ≤ 1073741824 ∧ sumE T + sumE K ≤ 1073741824 := by
  obtain ⟨x, h1, rfl, rfl, _⟩ := h
  exact ⟨h1.len, h1.lim⟩
theorem LS.add (h : LS w0 w g n al ke mo T K O) (hb : Below w.heap.size w w') {v : Value} {d : List ByteArray} (hv : OT w.heap.size w' v d) : LS w0 w' g n al ke mo T K (.txt v d :: O) := by
  obtain ⟨x, h1, h2, h3, h4, h5, h6⟩ := h
  refine ⟨x, h1.below hb, h2, h3, h4, h5.trans (hb.mono h5.size), fun p hp => ?_⟩
  rcases List.mem_cons.1 hp with rfl | hp
  · exact ⟨hv.mono h5.size, fun q hq hx => by have := (World.ownsRow.lt hv q hq).1; have := h1.lt hx; omega⟩
  · exact (h6 p hp).below hb
theorem LS.forget (h : LS w0 w g n al ke mo T K O) {O' : List Kp} (hO : ∀ p ∈ O', p ∈ O) : LS w0 w g n al ke mo T K O' := by
  obtain ⟨x, h1, h2, h3, h4, h5, h6⟩ := h
  exact ⟨x, h1, h2, h3, h4, h5, fun p hp => h6 p (hO p hp)⟩
theorem below_chg {S : Nat → Prop} (h5 : Below w0.heap.size w0 w) (hc : Chg S w w') (hs : ∀ b, S b → w0.heap.size ≤ b) : Below w0.heap.size w0 w' :=
  h5.trans (hc.below h5.size fun b hb hsb => by have := hs b hsb; omega)
theorem LS.tell {n' : Nat} {x : Sx} (h1 : St w g n al ke mo x) (h4 : ∀ b, x.own g b → w0.heap.size ≤ b) (h5 : Below w0.heap.size w0 w) (h6 : ∀ p ∈ O, p.ok w0.heap.size w (x.own g))
    {R : List En × List En × List ByteArray} {a : Value} {e : Ending} (t : TellP g n n' al ke mo x R a w e w') : ∃ v c, e = .returned (.tuple #[.slice v R.2.2.length c, a]) ∧ LS w0 w' g n' al ke mo R.1 R.2.1 (.txt (.slice v R.2.2.length c) R.2.2 :: O) := by
  obtain ⟨v, x', t1, t2, t3, t4, t5, t6, t7⟩ := t
  obtain ⟨va, vc, rfl⟩ := t2.form
  refine ⟨va, vc, t1, x', t3, t4, t5, fun b hb => ?_, below_chg h5 t7 h4, fun p hp => ?_⟩
  · rcases t6 b hb with h | h
    · exact h4 b h
    · have := h5.size; omega
  · rcases List.mem_cons.1 hp with rfl | hp
    · refine ⟨t2.mono h5.size, fun q hq hx => ?_⟩
      rcases t6 q hx with h | h
      · have := (World.ownsRow.lt t2 q hq).1; have := h1.lt h; omega
      · exact h.2 hq
    · exact (h6 p hp).chg t7 fun q hq hx => by
        rcases t6 q hx with h | h
        · exact h
        · omega
def kLe (l : List En) : Prop := ∀ y ∈ l, y.1.size ≤ 281474976710656
def PutP (w0 : World) (g n : Nat) (al ke mo : Int) (R : List En × List En × List ByteArray) (a : Value) (O : List Kp) (e : Ending) (w' : World) : Prop :=
  ∃ v c, e = .returned (.tuple #[.slice v R.2.2.length c, a]) ∧ LS w0 w' g n al ke mo R.1 R.2.1 (.txt (.slice v R.2.2.length c) R.2.2 :: O)
theorem ls_put (h : LS w0 w g n al ke mo T K O) (hal : mo ≤ al ∧ al ≤ 1073741824) (hn : n < 1099511627776) (hT : kLe T) (hK : kLe K) (k : ByteArray) (hk : k.size ≤ 281474976710656) (z : Int) (hz : 1 ≤ z) (hm : z ≤ mo) :
    Calls Tryz.prog 32 #[ptr g, .string k, .int .i64 z] w (PutP w0 g (n + 1) al ke mo (putE al k z T K) (.int .i64 0) O) := by
  obtain ⟨x, h1, rfl, rfl, h4, h5, h6⟩ := h
  refine (put_ok w g n al ke mo x h1 hal hn (fun y hy => (List.mem_append.1 hy).elim (hT y) (hK y)) k hk z hz hm _ rfl).mono ?_
  intro e w' t
  exact LS.tell h1 h4 h5 h6 t
theorem ls_low (h : LS w0 w g n al ke mo T K O) (k : ByteArray) (z : Int) (hz : z < 1) :
    Calls Tryz.prog 32 #[ptr g, .string k, .int .i64 z] w fun e w' => e = .returned (.tuple #[.slice none 0 0, .int .i64 1]) ∧ w = w' := by
  obtain ⟨x, h1, _⟩ := h
  exact put_low w g n al ke mo x h1 k z hz
theorem ls_big (h : LS w0 w g n al ke mo T K O) (k : ByteArray) (z : Int) (hz : 1 ≤ z) (hm : mo < z) :
    Calls Tryz.prog 32 #[ptr g, .string k, .int .i64 z] w fun e w' => e = .returned (.tuple #[.slice none 0 0, .int .i64 2]) ∧ w = w' := by
  obtain ⟨x, h1, _⟩ := h
  exact put_big w g n al ke mo x h1 k z hz hm
theorem ls_touch (h : LS w0 w g n al ke mo T K O) (hke : 0 ≤ ke) (hsk : sumE K ≤ ke) (k : ByteArray) (hk : k.size ≤ 281474976710656) (z : Int) (hz : hasS k T K = some z) :
    Calls Tryz.prog 47 #[ptr g, .string k] w (PutP w0 g n al ke mo (touchE ke k z T K) (.bool true) O) := by
  obtain ⟨x, h1, rfl, rfl, h4, h5, h6⟩ := h
  refine (touch_yes w g n al ke mo x h1 hke hsk k hk z hz).mono ?_
  intro e w' t
  exact LS.tell h1 h4 h5 h6 t
theorem ls_miss (h : LS w0 w g n al ke mo T K O) (k : ByteArray) (hk : k.size ≤ 281474976710656) (hz : hasS k T K = none) :
    Calls Tryz.prog 47 #[ptr g, .string k] w fun e w' => e = .returned (.tuple #[.slice none 0 0, .bool false]) ∧ w = w' := by
  obtain ⟨x, h1, rfl, rfl, _⟩ := h
  cases hf : x.f k with
  | none => exact touch_no w g n al ke mo x h1 k hk hf
  | some b =>
    exfalso
    obtain ⟨_, _, _, h0⟩ := h1.some_ hf
    unfold hasS at hz
    rcases h0 with ⟨_, _, _, e1, e2, _⟩ | ⟨_, _, _, e1, e2, _⟩
    · rw [e1, e2] at hz; cases hz
    · rw [e1, e2] at hz; cases hz
def DropP (w0 : World) (g n : Nat) (al ke mo : Int) (T K : List En) (b : Bool) (O : List Kp) (e : Ending) (w' : World) : Prop :=
  e = .returned (.bool b) ∧ LS w0 w' g n al ke mo T K O
theorem ls_drop (h : LS w0 w g n al ke mo T K O) (k : ByteArray) (hk : k.size ≤ 281474976710656) :
    Calls Tryz.prog 50 #[ptr g, .string k] w (DropP w0 g n al ke mo (delE k T) (delE k K) (hasS k T K).isSome O) := by
  obtain ⟨x, h1, rfl, rfl, h4, h5, h6⟩ := h
  refine (drop_any w g n al ke mo x h1 k hk).mono ?_
  rintro e w' ⟨he, x', s1, s2, s3, s4, s5, s6⟩
  refine ⟨he, x', s1, s2, s3, fun b hb => h4 b (s4 b hb), below_chg h5 s5 h4, fun p hp => (h6 p hp).chg s5 fun q _ hx => s4 q hx⟩
def TextsP (w0 : World) (g n : Nat) (al ke mo : Int) (T K : List En) (d : List ByteArray) (O : List Kp) (e : Ending) (w' : World) : Prop :=
  ∃ v c, e = .returned (.slice v d.length c) ∧ LS w0 w' g n al ke mo T K (.txt (.slice v d.length c) d :: O)
theorem ls_keysT (h : LS w0 w g n al ke mo T K O) : Calls Tryz.prog 94 #[ptr g, .bool false] w (TextsP w0 g n al ke mo T K (keysE T) O) := by
  have h0 := h
  obtain ⟨x, h1, rfl, rfl, _⟩ := h
  refine (keys_T w g n al ke mo x h1).mono ?_
  rintro e w' ⟨v, he, hv, hb⟩
  obtain ⟨va, vc, rfl⟩ := hv.form
  exact ⟨va, vc, he, h0.add hb hv⟩
theorem ls_keysK (h : LS w0 w g n al ke mo T K O) : Calls Tryz.prog 94 #[ptr g, .bool true] w (TextsP w0 g n al ke mo T K (keysE K) O) := by
  have h0 := h
  obtain ⟨x, h1, rfl, rfl, _⟩ := h
  refine (keys_K w g n al ke mo x h1).mono ?_
  rintro e w' ⟨v, he, hv, hb⟩
  obtain ⟨va, vc, rfl⟩ := hv.form
  exact ⟨va, vc, he, h0.add hb hv⟩
def NumP (w0 : World) (g n : Nat) (al ke mo : Int) (T K : List En) (z : Int) (O : List Kp) (e : Ending) (w' : World) : Prop :=
  e = .returned (.int .i64 z) ∧ LS w0 w' g n al ke mo T K O
theorem ls_bytesT (h : LS w0 w g n al ke mo T K O) : Calls Tryz.prog 60 #[ptr g, .bool false] w (NumP w0 g n al ke mo T K (sumE T) O) := by
  have h0 := h
  obtain ⟨x, h1, rfl, rfl, _⟩ := h
  refine (bytes_false w g n al ke mo x h1).mono ?_
  rintro e w' ⟨he, m, rfl⟩
  exact ⟨he, h0.below (below_drewN _ _ _)⟩
theorem ls_bytesK (h : LS w0 w g n al ke mo T K O) : Calls Tryz.prog 60 #[ptr g, .bool true] w (NumP w0 g n al ke mo T K (sumE K) O) := by
  have h0 := h
  obtain ⟨x, h1, rfl, rfl, _⟩ := h
  refine (bytes_true w g n al ke mo x h1).mono ?_
  rintro e w' ⟨he, m, rfl⟩
  exact ⟨he, h0.below (below_drewN _ _ _)⟩
def MakeP (w0 : World) (al ke mo : Int) (e : Ending) (w' : World) : Prop := ∃ g, e = .returned (.tuple #[ptr g, .int .i64 0]) ∧ LS w0 w' g 0 al ke mo [] [] []
theorem ls_new (w0 w : World) (h0 : Below w0.heap.size w0 w) (al ke mo : Int) (hb : okB al ke mo) : Calls Tryz.prog 26 #[.int .i64 al, .int .i64 ke, .int .i64 mo] w (MakeP w0 al ke mo) := by
  refine (new_yes al ke mo w hb).mono ?_
  rintro e w' ⟨g, x, he, h1, h2, h3, h4, h5⟩
  exact ⟨g, he, x, h1, h2, h3, fun b hb => Nat.le_trans h0.size (h4 b hb), h0.trans (h5.mono h0.size), fun p hp => by simp at hp⟩
theorem one_ts {w : World} {b : Nat} {k : ByteArray} (h : Bk w b 9 #[.string k]) : TS w (.slice (some ⟨b, 0, none⟩) 1 1) [k] :=
  .inr ⟨b, 0, 1, rfl, Nat.le_refl _, fun i x hi => by
    cases i with
    | zero => simp at hi; subst hi; exact h.cell 0
    | succ i => simp at hi⟩
end
end Go.Proofs.YtjngangojgjceaaGreat.SL
namespace Go.Proofs.YtjngangojgjceaaGreat.SL
open Go.ChangeShapes Go.WideShapes Go.ChangeAt Go.RowKit Go.Maps Go.ChangeMaps
set_option maxRecDepth 100000
set_option linter.unusedVariables false
set_option linter.unusedSimpArgs false

abbrev ka : ByteArray := ⟨#[97]⟩
abbrev kb : ByteArray := ⟨#[98]⟩
abbrev kc : ByteArray := ⟨#[99]⟩
abbrev kd : ByteArray := ⟨#[100]⟩
theorem k1 : putE 10 ka 4 [] [] = ([(ka, 4)], [], []) := by kernel_rfl
theorem k2 : putE 10 kb 4 [(ka, 4)] [] = ([(kb, 4), (ka, 4)], [], []) := by kernel_rfl
theorem k3 : hasS ka [(kb, 4), (ka, 4)] [] = some 4 := by kernel_rfl
theorem k4 : touchE 6 ka 4 [(kb, 4), (ka, 4)] [] = ([(kb, 4)], [(ka, 4)], []) := by kernel_rfl
theorem k5 : putE 10 kc 4 [(kb, 4)] [(ka, 4)] = ([(kc, 4)], [(ka, 4)], [kb]) := by kernel_rfl
theorem k6 : hasS ka [(kc, 4)] [(ka, 4)] = some 4 := by kernel_rfl
theorem k7 : hasS kb [(kc, 4)] [(ka, 4)] = none := by kernel_rfl
theorem k8 : (hasS kc [(kc, 4)] [(ka, 4)]).isSome = true := by kernel_rfl
theorem k9 : delE kc [(kc, 4)] = [] := by kernel_rfl
theorem k10 : delE kc [(ka, 4)] = [(ka, 4)] := by kernel_rfl
theorem k11 : (hasS kc [] [(ka, 4)]).isSome = false := by kernel_rfl
theorem kLe_k {l : List En} (h : l.all (fun y => decide (y.1.size ≤ 281474976710656)) = true) : kLe l := fun y hy => of_decide_eq_true (List.all_eq_true.1 h y hy)
section
variable {w0 w : World} {g n : Nat} {al ke mo : Int} {T K : List En} {O : List Kp}
theorem put_to (h : LS w0 w g n al ke mo T K O) (hal : mo ≤ al ∧ al ≤ 1073741824) (hn : n < 1099511627776) (hT : kLe T) (hK : kLe K) (k : ByteArray) (hk : k.size ≤ 281474976710656) (z : Int) (hz : 1 ≤ z) (hm : z ≤ mo) (R : List En × List En × List ByteArray) (hR : putE al k z T K = R) :
    Calls Tryz.prog 32 #[ptr g, .string k, .int .i64 z] w (PutP w0 g (n + 1) al ke mo R (.int .i64 0) O) := by
  subst hR; exact ls_put h hal hn hT hK k hk z hz hm
theorem touch_to (h : LS w0 w g n al ke mo T K O) (hke : 0 ≤ ke) (hsk : sumE K ≤ ke) (k : ByteArray) (hk : k.size ≤ 281474976710656) (z : Int) (hz : hasS k T K = some z) (R : List En × List En × List ByteArray) (hR : touchE ke k z T K = R) :
    Calls Tryz.prog 47 #[ptr g, .string k] w (PutP w0 g n al ke mo R (.bool true) O) := by
  subst hR; exact ls_touch h hke hsk k hk z hz
theorem drop_to (h : LS w0 w g n al ke mo T K O) (k : ByteArray) (hk : k.size ≤ 281474976710656) (T' K' : List En) (b : Bool) (hT : delE k T = T') (hK : delE k K = K') (hb : (hasS k T K).isSome = b) :
    Calls Tryz.prog 50 #[ptr g, .string k] w (DropP w0 g n al ke mo T' K' b O) := by
  subst hT hK hb; exact ls_drop h k hk
end
end Go.Proofs.YtjngangojgjceaaGreat.SL
namespace Go.Proofs.YtjngangojgjceaaGreat.SL
open Go.ChangeShapes Go.WideShapes Go.ChangeAt Go.RowKit Go.Maps Go.ChangeMaps
set_option maxRecDepth 100000
set_option linter.unusedVariables false
set_option linter.unusedSimpArgs false

def posE (l : List En) : Prop := ∀ y ∈ l, 1 ≤ y.2
theorem posE.del {l : List En} (h : posE l) (k : ByteArray) : posE (delE k l) := fun y hy => h y (del_ne hy).1
theorem sum_del_has {k : ByteArray} : ∀ {l : List En}, posE l → (∀ z, hasE k l = some z → sumE (delE k l) + z ≤ sumE l) ∧ sumE (delE k l) ≤ sumE l
  | [], _ => ⟨fun z h => by simp [hasE] at h, Int.le_refl _⟩
  | x :: l, h => by
    have hx := h x (by simp)
    obtain ⟨h1, h2⟩ := sum_del_has (k := k) (l := l) fun y hy => h y (by simp [hy])
    by_cases e : x.1 = k
    · have e1 : delE k (x :: l) = delE k l := by unfold delE; rw [List.filter_cons, if_neg (by simp [e])]
      rw [e1, sumE]
      refine ⟨fun z hz => ?_, by omega⟩
      have : x.2 = z := by unfold hasE at hz; rw [List.find?_cons_of_pos (by simp [e])] at hz; simpa using hz
      omega
    · have e1 : delE k (x :: l) = x :: delE k l := by unfold delE; rw [List.filter_cons, if_pos (by simp [e])]
      have e2 : hasE k (x :: l) = hasE k l := by unfold hasE; rw [List.find?_cons_of_neg (by simp [e])]
      rw [e1, e2, sumE, sumE]
      refine ⟨fun z hz => ?_, by omega⟩
      have := h1 z hz
      omega
theorem has_pos {k : ByteArray} {l : List En} (h : posE l) {z : Int} (hz : hasE k l = some z) : 1 ≤ z := by
  unfold hasE at hz
  cases hf : l.find? (fun x => decide (x.1 = k)) with
  | none => rw [hf] at hz; cases hz
  | some y => rw [hf] at hz; injection hz with hz; rw [← hz]; exact h y (List.mem_of_find?_eq_some hf)
theorem has_key {k : ByteArray} {l : List En} {z : Int} (hz : hasE k l = some z) : ∃ y ∈ l, y.1 = k ∧ y.2 = z := by
  unfold hasE at hz
  cases hf : l.find? (fun x => decide (x.1 = k)) with
  | none => rw [hf] at hz; cases hz
  | some y =>
    rw [hf] at hz; injection hz with hz
    exact ⟨y, List.mem_of_find?_eq_some hf, by simpa using List.find?_some hf, hz⟩
theorem last_app {l : List En} {x : En} (h : l.getLast? = some x) : l = l.dropLast ++ [x] := by
  obtain ⟨a, rfl⟩ : ∃ a, l = a ++ [x] := by
    cases hl : l with
    | nil => rw [hl] at h; cases h
    | cons y t =>
      refine ⟨l.dropLast, ?_⟩
      have hne : l ≠ [] := by rw [hl]; simp
      have h2 := List.getLast?_eq_some_getLast hne
      rw [h] at h2
      injection h2 with h2
      rw [← hl, h2]
      exact (List.dropLast_concat_getLast hne).symm
  simp
theorem room_le {al z : Int} : ∀ (n : Nat) (T K : List En), posE T → posE K → sumE (roomE al z n T K).2.1 ≤ sumE K
  | 0, T, K, _, _ => Int.le_refl _
  | n + 1, T, K, hT, hK => by
    unfold roomE
    split
    · split
      · exact room_le n _ _ (fun y hy => hT y (List.dropLast_subset _ hy)) hK
      · split
        · rename_i b hb
          have h1 := room_le (al := al) (z := z) n T K.dropLast hT (fun y hy => hK y (List.dropLast_subset _ hy))
          have h2 := last_app hb
          have h3 : sumE K = sumE K.dropLast + b.2 := by
            have := congrArg sumE h2
            rw [sum_app] at this
            rw [this, sumE, sumE]; omega
          have := hK b (List.mem_of_getLast? hb)
          simp only; omega
        · exact Int.le_refl _
    · exact Int.le_refl _
theorem shr_ok {ke : Int} (hke : 0 ≤ ke) : ∀ (n : Nat) (T K : List En), K.length = n → posE T → posE K →
    sumE (shrE ke n T K).1 + sumE (shrE ke n T K).2.1 = sumE T + sumE K ∧ sumE (shrE ke n T K).2.1 ≤ ke ∧ (∀ y, y ∈ (shrE ke n T K).1 ∨ y ∈ (shrE ke n T K).2.1 → y ∈ T ∨ y ∈ K)
  | 0, T, K, h, _, _ => by
    have : K = [] := List.eq_nil_of_length_eq_zero h
    subst this
    exact ⟨rfl, hke, fun y hy => hy⟩
  | n + 1, T, K, h, hT, hK => by
    unfold shrE
    split
    · split
      · rename_i b hb
        have hb0 := hK b (List.mem_of_getLast? hb)
        obtain ⟨h1, h2, h3⟩ := shr_ok hke n (b :: T) K.dropLast (by rw [List.length_dropLast]; omega) (fun y hy => (List.mem_cons.1 hy).elim (fun e => by rw [e]; exact hb0) (hT y)) (fun y hy => hK y (List.dropLast_subset _ hy))
        have h4 : sumE K = sumE K.dropLast + b.2 := by
          have := congrArg sumE (last_app hb)
          rw [sum_app] at this
          rw [this, sumE, sumE]; omega
        refine ⟨by rw [h1, sumE]; omega, h2, fun y hy => ?_⟩
        rcases h3 y hy with h0 | h0
        · rcases List.mem_cons.1 h0 with rfl | h0
          · exact .inr (List.mem_of_getLast? hb)
          · exact .inl h0
        · exact .inr (List.dropLast_subset _ h0)
      · rename_i hb
        have : K = [] := List.getLast?_eq_none_iff.1 hb
        subst this
        simp at h
    · exact ⟨rfl, by simp only; omega, fun y hy => hy⟩
/-- budgets are kept -/
structure OkE (al ke mo : Int) (T K : List En) : Prop where
  sk : sumE K ≤ ke
  sa : sumE T + sumE K ≤ al
  kl : ∀ y, y ∈ T ∨ y ∈ K → y.1.size ≤ 100
theorem OkE.nil {al ke mo : Int} (h : okB al ke mo) : OkE al ke mo [] [] := ⟨h.2.2.1, by show (0 : Int) + 0 ≤ al; have := h.1; omega, fun y hy => by simp at hy⟩
theorem OkE.drop {al ke mo : Int} {T K : List En} (h : OkE al ke mo T K) (hT : posE T) (hK : posE K) (k : ByteArray) : OkE al ke mo (delE k T) (delE k K) := by
  have h1 := (sum_del_has (k := k) hT).2
  have h2 := (sum_del_has (k := k) hK).2
  have := h.sk
  have := h.sa
  exact ⟨by omega, by omega, fun y hy => h.kl y (hy.imp (fun e => (del_ne e).1) fun e => (del_ne e).1)⟩
theorem OkE.put {al ke mo : Int} {T K : List En} (h : OkE al ke mo T K) (hT : posE T) (hK : posE K) (k : ByteArray) (hk : k.size ≤ 100) (z : Int) (hz : z ≤ al) : OkE al ke mo (putE al k z T K).1 (putE al k z T K).2.1 := by
  have hd := h.drop hT hK k
  have h1 := room_le (al := al) (z := z) ((delE k T).length + (delE k K).length) _ _ (hT.del k) (hK.del k)
  have h2 := room_fit (al := al) hz ((delE k T).length + (delE k K).length) (delE k T) (delE k K) rfl
  have h3 := room_sub (al := al) (z := z) ((delE k T).length + (delE k K).length) (delE k T) (delE k K)
  have := hd.sk
  refine ⟨?_, ?_, fun y hy => ?_⟩
  · unfold putE; simp only; omega
  · unfold putE; simp only [sumE]; omega
  · unfold putE at hy
    simp only at hy
    rcases hy with hy | hy
    · rcases List.mem_cons.1 hy with rfl | hy
      · exact hk
      · exact hd.kl y (.inl (h3.1 y hy))
    · exact hd.kl y (.inr (h3.2 y hy))
theorem OkE.touch {al ke mo : Int} {T K : List En} (h : OkE al ke mo T K) (hke : 0 ≤ ke) (hT : posE T) (hK : posE K) (k : ByteArray) (hk : k.size ≤ 100) (z : Int) (hz : hasS k T K = some z) : OkE al ke mo (touchE ke k z T K).1 (touchE ke k z T K).2.1 := by
  have hd := h.drop hT hK k
  obtain ⟨a1, a2⟩ := sum_del_has (k := k) hT
  obtain ⟨b1, b2⟩ := sum_del_has (k := k) hK
  have hsum : sumE (delE k T) + z + sumE (delE k K) ≤ sumE T + sumE K ∧ 1 ≤ z := by
    unfold hasS at hz
    cases h0 : hasE k T with
    | some y =>
      rw [h0] at hz
      have : y = z := by simpa using hz
      subst this
      have := a1 y h0
      exact ⟨by omega, has_pos hT h0⟩
    | none =>
      rw [h0] at hz
      have h1 : hasE k K = some z := by simpa using hz
      have := b1 z h1
      exact ⟨by omega, has_pos hK h1⟩
  have hsk := h.sk
  have hsa := h.sa
  unfold touchE
  split
  · obtain ⟨c1, c2, c3⟩ := shr_ok hke ((delE k K).length + 1) (delE k T) ((k, z) :: delE k K) (by simp) (hT.del k) (fun y hy => (List.mem_cons.1 hy).elim (fun e => by rw [e]; exact hsum.2) (hK.del k y))
    refine ⟨c2, by rw [c1, sumE]; simp only; omega, fun y hy => ?_⟩
    rcases c3 y hy with h0 | h0
    · exact hd.kl y (.inl h0)
    · rcases List.mem_cons.1 h0 with rfl | h0
      · exact hk
      · exact hd.kl y (.inr h0)
  · refine ⟨by simp only; omega, by simp only [sumE]; omega, fun y hy => ?_⟩
    rcases hy with hy | hy
    · rcases List.mem_cons.1 hy with rfl | hy
      · exact hk
      · exact hd.kl y (.inl hy)
    · exact hd.kl y (.inr hy)
theorem kLe_of {al ke mo : Int} {T K : List En} (h : OkE al ke mo T K) : kLe T ∧ kLe K := ⟨fun y hy => by have := h.kl y (.inl hy); omega, fun y hy => by have := h.kl y (.inr hy); omega⟩
/-- behind a Touch the key is there still -/
theorem has_mk {k : ByteArray} {T K : List En} (h : ∃ y, (y ∈ T ∨ y ∈ K) ∧ y.1 = k) : (hasS k T K).isSome = true := by
  obtain ⟨y, hy, rfl⟩ := h
  have key : ∀ l : List En, y ∈ l → ∃ z, hasE y.1 l = some z := fun l hl => by
    unfold hasE
    cases hf : l.find? (fun x => decide (x.1 = y.1)) with
    | none => rw [List.find?_eq_none] at hf; have := hf y hl; simp at this
    | some q => exact ⟨_, rfl⟩
  unfold hasS
  rcases hy with hy | hy
  · obtain ⟨z, hz⟩ := key T hy
    rw [hz]; rfl
  · obtain ⟨z, hz⟩ := key K hy
    rw [hz]
    cases hasE y.1 T <;> rfl
theorem shr_all {ke : Int} : ∀ (n : Nat) (T K : List En) (y : En), y ∈ T ∨ y ∈ K → y ∈ (shrE ke n T K).1 ∨ y ∈ (shrE ke n T K).2.1
  | 0, T, K, y, h => h
  | n + 1, T, K, y, h => by
    unfold shrE
    split
    · split
      · rename_i b hb
        refine shr_all n (b :: T) K.dropLast y ?_
        rcases h with h | h
        · exact .inl (by simp [h])
        · rw [last_app hb] at h
          rcases List.mem_append.1 h with h | h
          · exact .inr h
          · exact .inl (by simp at h; simp [h])
      · exact h
    · exact h
theorem touch_has {ke : Int} {k : ByteArray} {z : Int} {T K : List En} : (hasS k (touchE ke k z T K).1 (touchE ke k z T K).2.1).isSome = true := by
  refine has_mk ⟨(k, z), ?_, rfl⟩
  unfold touchE
  split
  · exact shr_all _ _ _ _ (.inr (by simp))
  · exact .inl (by simp)
theorem room_no {al z : Int} {T K : List En} (h : sumE T + sumE K + z ≤ al) : ∀ n, roomE al z n T K = (T, K, [])
  | 0 => rfl
  | n + 1 => by unfold roomE; rw [if_neg (by omega)]
theorem del_no {k : ByteArray} {l : List En} (h : ∀ y ∈ l, y.1 ≠ k) : delE k l = l := List.filter_eq_self.2 fun y hy => decide_eq_true (h y hy)
end Go.Proofs.YtjngangojgjceaaGreat.SL
namespace Go.Proofs.YtjngangojgjceaaGreat.SL
open Go.ChangeShapes Go.WideShapes Go.ChangeAt Go.RowKit Go.Maps Go.Deep
set_option maxRecDepth 100000
set_option linter.unusedVariables false
set_option linter.unusedSimpArgs false

theorem pu1 {α : Type _} {xs : List α} {i : Nat} (h : i < xs.toArray.size) : xs.toArray[i] = xs[i]'(by simpa using h) := by simp
theorem pu2 {α : Type _} (a : α) (l : List α) (i : Nat) (h : i + 1 < (a :: l).length) : (a :: l)[i + 1] = l[i]'(by simpa using h) := rfl
theorem pu3 {α : Type _} (a : α) (l : List α) : (a :: l)[0]'(by simp) = a := rfl
theorem pu4 {α : Type _} (l : List α) (i : Nat) (a : α) : l.toArray.setIfInBounds i a = (l.set i a).toArray := by simp
theorem pu5 {α : Type _} (a b : α) (l : List α) : (a :: l).set 0 b = b :: l := rfl
theorem pu6 {α : Type _} (a b : α) (l : List α) (n : Nat) : (a :: l).set (n + 1) b = a :: l.set n b := rfl
theorem pu.{u} : (∀ (α : Type u) (xs : List α) (i : Nat) (h : i < xs.toArray.size), xs.toArray[i] = xs[i]'(by simpa using h)) ∧ (∀ (α : Type u) (a : α) (l : List α) (i : Nat) (h : i + 1 < (a :: l).length), (a :: l)[i + 1] = l[i]'(by simpa using h)) ∧ (∀ (α : Type u) (a : α) (l : List α), (a :: l)[0]'(by simp) = a) ∧ (∀ (α : Type u) (l : List α) (i : Nat) (a : α), l.toArray.setIfInBounds i a = (l.set i a).toArray) ∧ (∀ (α : Type u) (a b : α) (l : List α), (a :: l).set 0 b = b :: l) ∧ (∀ (α : Type u) (a b : α) (l : List α) (n : Nat), (a :: l).set (n + 1) b = a :: l.set n b) := ⟨fun _ _ _ h => pu1 h, fun _ a l i h => pu2 a l i h, fun _ a l => pu3 a l, fun _ l i a => pu4 l i a, fun _ a b l => pu5 a b l, fun _ a b l n => pu6 a b l n⟩
section
variable {P : Program} {ops : Array Oper} {Q : Exit → Act → World → Prop} {md : Region.Mode} {S : World → Prop} {fuel : Nat} {listed : Array Bool} {a : Act} {w : World}
theorem tkY (i : Nat) (v : Value) {oi : Oper} (hi : ops[i]? = some oi) (hS : S w) (hy : ∀ w, S w → (execOp a.eval oi).run P w = .ok (.value v) w) (h : wpAnyH P md ops Q S fuel (listed.setIfInBounds i true) (a.put oi.dst v) w)
    (hs : Region.noSelect ops = true := by kernel_rfl) (hf : Region.free md ops listed i = true := by kernel_rfl) (hr : (Region.ready md ops listed).contains i = true := by kernel_rfl) (hw : Region.wanted oi (yielded ops a.tmps) = true := by kernel_rfl)
    (hQ : ∀ c a w, Q (.panic c) (a.put oi.dst v) w → Q (.panic c) a w := by exact fun _ _ _ h => h) : wpAnyH P md ops Q S (fuel + 1) listed a w := wpAnyH_take hi hs hf hr hQ (.inl ⟨hw, hy⟩) hS h
theorem tkN (i : Nat) {oi : Oper} (hi : ops[i]? = some oi) (hS : S w) (h : wpAnyH P md ops Q S fuel (listed.setIfInBounds i true) (a.put oi.dst undef) w)
    (hs : Region.noSelect ops = true := by kernel_rfl) (hf : Region.free md ops listed i = true := by kernel_rfl) (hr : (Region.ready md ops listed).contains i = true := by kernel_rfl) (hw : Region.wanted oi (yielded ops a.tmps) = false := by kernel_rfl)
    (hQ : ∀ c a w, Q (.panic c) (a.put oi.dst undef) w → Q (.panic c) a w := by exact fun _ _ _ h => h) : wpAnyH P md ops Q S (fuel + 1) listed a w := wpAnyH_take hi hs hf hr hQ (.inr ⟨hw, rfl⟩) hS h
end
section
variable {H : Type} {enc : TypeId × Value → H} {W : World}
theorem spot_none {ad : Addr} {x : Value} (h : W.cell? ad = some x) : ad.spot = none := by
  unfold World.cell? at h
  cases hs : ad.spot with
  | none => rfl
  | some q => rw [hs] at h; revert h; split <;> simp
/-- a slice, element by element -/
theorem slice_any {α : Type} {ts te : TypeId} {m : Nat} {Q : α → List Value → Prop} (hu : Tryz.prog.underlying ts = some (.slice te)) (hC : Tryz.prog.cellsOf te = m)
    (one : ∀ {n : Nat} {cs : List Value} {x : DataW H × List MemPlace}, DataW.trod enc Tryz.prog W 0 (fun _ => true) true n te cs = some x → ∃ a : α, Q a cs)
    {fuel : Nat} {c : Value} {x : DataW H × List MemPlace} (h : DataW.trod enc Tryz.prog W 0 (fun _ => true) true fuel ts [c] = some x) :
    c = .slice none 0 0 ∨ ∃ (l : List α) (ad : Addr) (cap : Nat), c = .slice (some ad) l.length cap ∧ l.length ≤ cap ∧ ∀ (i : Nat) (a : α), l[i]? = some a → ∃ cs, Q a cs ∧ cs.length = m ∧ ∀ j, j < m → W.cell? ((ad.add (i * m)).add j) = cs[j]? := by
  rcases open_slice hu h with ⟨e, _⟩ | ⟨ad, len, cap, k, n, D, Pl, hcs, hb, hl, hm, hmm, hx, hi⟩
  · injection e with e _
    exact .inl e
  · injection hcs with hcs _
    subst hcs
    rw [hC] at hi
    have hlm : len ≤ k := by rw [hmm]; simp; exact hl
    have key : ∀ j, j ≤ len → ∃ l : List α, l.length = j ∧ ∀ (i : Nat) (a : α), l[i]? = some a → ∃ cs, Q a cs ∧ cs.length = m ∧ ∀ j, j < m → W.cell? ((ad.add (i * m)).add j) = cs[j]? := by
      intro j
      induction j with
      | zero => intro _; exact ⟨[], rfl, fun i x hi => by simp at hi⟩
      | succ j ih =>
        intro hj
        obtain ⟨l, h1, h2⟩ := ih (by omega)
        obtain ⟨cs', hc, ht⟩ := hi j (by omega)
        obtain ⟨_, hcl, hat⟩ := World.cells?_some hc
        obtain ⟨a, hq⟩ := one ht
        refine ⟨l ++ [a], by simp [h1], fun i x hx' => ?_⟩
        by_cases hij : i < l.length
        · rw [List.getElem?_append_left hij] at hx'
          exact h2 i x hx'
        · have hlt := (List.getElem?_eq_some_iff.1 hx').1
          have hie : i = j := by simp at hlt; omega
          subst hie
          rw [List.getElem?_append_right (by omega), h1, Nat.sub_self] at hx'
          simp at hx'
          subst hx'
          exact ⟨cs', hq, hcl, fun q hq2 => hat q hq2⟩
    obtain ⟨l, h1, h2⟩ := key len (Nat.le_refl _)
    exact .inr ⟨l, ad, cap, by rw [h1], by omega, h2⟩
theorem one_intc : Tryz.prog.cellsOf 3 = 1 := by kernel_rfl
theorem one_strc : Tryz.prog.cellsOf 9 = 1 := by kernel_rfl
theorem one_u8c : Tryz.prog.cellsOf 5 = 1 := by kernel_rfl
theorem wf64 (x : Int) (h : (Lit.int .i64 x).wf = true) : -9223372036854775808 ≤ x ∧ x ≤ 9223372036854775807 := by
  simp [Lit.wf, IntKind.min, IntKind.max, IntKind.signed, IntKind.bits] at h
  omega
theorem wf8 (x : Int) (h : (Lit.int .u8 x).wf = true) : 0 ≤ x ∧ x ≤ 255 := by
  simp [Lit.wf, IntKind.min, IntKind.max, IntKind.signed, IntKind.bits] at h
  omega
/-- an operation: its kind, its key, its size -/
abbrev Opn : Type := Int × ByteArray × Int
def opV (o : Opn) : Array Value := #[.int .i64 o.1, .string o.2.1, .int .i64 o.2.2]
def opB (o : Opn) : Prop := (-9223372036854775808 ≤ o.1 ∧ o.1 ≤ 9223372036854775807) ∧ (-9223372036854775808 ≤ o.2.2 ∧ o.2.2 ≤ 9223372036854775807)
/-- v is a slice of operations that reads as l -/
def OpR (w : World) (v : Value) (l : List Opn) : Prop :=
  (∃ a cap, l = [] ∧ v = .slice a 0 cap) ∨ ∃ g off cap, v = .slice (some ⟨g, off, none⟩) l.length cap ∧ l.length ≤ cap ∧ ∀ (i : Nat) (o : Opn), l[i]? = some o → opB o ∧ w.cell? ⟨g, off + i * 3, none⟩ = some (.int .i64 o.1) ∧ w.cell? ⟨g, off + i * 3 + 1, none⟩ = some (.string o.2.1) ∧ w.cell? ⟨g, off + i * 3 + 2, none⟩ = some (.int .i64 o.2.2)
def FitsO (W : World) (v : Value) : Prop := ∃ l, OpR W v l
theorem OpR.below {w w' : World} {v : Value} {l : List Opn} (h : OpR w v l) (hb : Below w.heap.size w w') : OpR w' v l := by
  have hk : ∀ (p : Addr) (u : Value), w.cell? p = some u → w'.cell? p = some u := fun p u hp => (hb.cell (World.block_lt_of_cell? w p hp)).trans hp
  rcases h with h | ⟨g, off, cap, e, hc, hx⟩
  · exact .inl h
  · exact .inr ⟨g, off, cap, e, hc, fun i o hi => by
      obtain ⟨h0, h1, h2, h3⟩ := hx i o hi
      exact ⟨h0, hk _ _ h1, hk _ _ h2, hk _ _ h3⟩⟩
theorem OpR.form {w : World} {v : Value} {l : List Opn} (h : OpR w v l) : ∃ a cap, v = .slice a l.length cap := by
  rcases h with ⟨a, cap, rfl, rfl⟩ | ⟨g, off, cap, rfl, _⟩
  · exact ⟨_, _, rfl⟩
  · exact ⟨_, _, rfl⟩
theorem OpR.inv {w : World} {v : Value} {l : List Opn} (h : OpR w v l) (hp : 0 < l.length) : ∃ g off cap, v = .slice (some ⟨g, off, none⟩) l.length cap ∧ l.length ≤ cap ∧ ∀ (i : Nat) (o : Opn), l[i]? = some o → opB o ∧ w.cell? ⟨g, off + i * 3, none⟩ = some (.int .i64 o.1) ∧ w.cell? ⟨g, off + i * 3 + 1, none⟩ = some (.string o.2.1) ∧ w.cell? ⟨g, off + i * 3 + 2, none⟩ = some (.int .i64 o.2.2) := by
  rcases h with ⟨a, cap, rfl, rfl⟩ | h
  · simp at hp
  · exact h
def Fits38 (v : Value) : Prop := ∃ a b c : Int, v = .agg #[.int .u8 a, .int .u8 b, .int .u8 c] ∧ (0 ≤ a ∧ a ≤ 255) ∧ (0 ≤ b ∧ b ≤ 255) ∧ (0 ≤ c ∧ c ≤ 255)
theorem arr_n {n : Nat} {te ts : TypeId} {q : IntKind} (hu : Tryz.prog.underlying ts = some (.array n te)) (hte : Tryz.prog.underlying te = some (.int q)) (hc : Tryz.prog.cellsOf te = 1) (hn : Tryz.prog.cellsOf ts = n) {base : Nat} {v : Value} {d : DataW H} {p : List MemPlace} (hv : Value.okWide Tryz.prog W .any base ts v)
    (h : DataW.Trod enc Tryz.prog W 0 (fun _ => true) true ts v d p) : ∃ cs : Array Value, v = .agg cs ∧ cs.size = n ∧ ∀ i, i < n → ∃ x : Int, cs[i]? = some (.int q x) ∧ (Lit.int q x).wf = true := by
  obtain ⟨cs, rfl, hsz, _⟩ : ∃ cs, v = .agg cs ∧ cs.size = Tryz.prog.cellsOf ts ∧ Row.okWide Tryz.prog W .any base ts cs := by
    simpa [Value.okWide, hu] using hv
  rw [hn] at hsz
  refine ⟨cs, rfl, hsz, fun i hi => ?_⟩
  obtain ⟨fuel, hf⟩ := h
  obtain ⟨xs, m, _, _, _, hl, hel⟩ := DataW.trod_array hu hf
  have e0 := hel i hi
  rw [hc, List.getElem?_eq_getElem (by omega)] at e0
  obtain ⟨x, ex, _, wx⟩ := DataW.trod_int hte e0
  refine ⟨x, ?_, wx⟩
  have := congrArg (·[0]?) ex
  simp [Value.cells] at this
  simpa using this
def Fits28 (v : Value) : Prop := ∃ a b : Int, v = .agg #[.int .u8 a, .int .u8 b] ∧ (0 ≤ a ∧ a ≤ 255) ∧ (0 ≤ b ∧ b ≤ 255)
def Fits3i (v : Value) : Prop := ∃ a b c : Int, v = .agg #[.int .i64 a, .int .i64 b, .int .i64 c]
/-- v is a slice of bytes that reads as l -/
def U8R (w : World) (v : Value) (l : List Int) : Prop :=
  (∃ a cap, l = [] ∧ v = .slice a 0 cap) ∨ ∃ g off cap, v = .slice (some ⟨g, off, none⟩) l.length cap ∧ l.length ≤ cap ∧ ∀ (i : Nat) (x : Int), l[i]? = some x → (0 ≤ x ∧ x ≤ 255) ∧ w.cell? ⟨g, off + i, none⟩ = some (.int .u8 x)
def FitsU (W : World) (v : Value) : Prop := ∃ l, U8R W v l
theorem openedU {base : Nat} {v : Value} {d : DataW H} {p : List MemPlace} (hv : Value.okWide Tryz.prog W .any base 163 v)
    (h : DataW.Trod enc Tryz.prog W 0 (fun _ => true) true 163 v d p) (hz : (DataW.weights Tryz.prog 163 d).all (· ≤ reachBytes) = true) : FitsU W v := by
  obtain ⟨a, ln, cp, rfl⟩ := okWide_slice Tryz.underlying163 hv
  obtain ⟨fuel, hf⟩ := h
  rcases slice_any (α := Int) (m := 1) (Q := fun x cs => cs[0]? = some (.int .u8 x) ∧ (0 ≤ x ∧ x ≤ 255)) Tryz.underlying163 one_u8c (fun ht => by
    obtain ⟨x, e, _, wx⟩ := DataW.trod_int Tryz.underlying5 ht
    exact ⟨x, by rw [e]; rfl, wf8 _ wx⟩) hf with e | ⟨l, ad, cap, e, hc, h2⟩
  · rw [e]; exact ⟨[], .inl ⟨_, _, rfl, rfl⟩⟩
  · rw [e]
    refine ⟨l, ?_⟩
    by_cases h0 : l = []
    · subst h0; exact .inl ⟨_, _, rfl, rfl⟩
    · obtain ⟨x, hx0⟩ : ∃ x, l[0]? = some x := ⟨l[0]'(by cases l; exact absurd rfl h0; simp), List.getElem?_eq_getElem _⟩
      obtain ⟨cs, ⟨q0, _⟩, _, hat⟩ := h2 0 x hx0
      have c0 := hat 0 (by omega)
      have e0 : (ad.add (0 * 1)).add 0 = ad := by simp [Addr.add]
      rw [e0, q0] at c0
      have hsp := spot_none c0
      obtain ⟨bl, of, sp⟩ := ad
      simp only at hsp
      subst hsp
      refine .inr ⟨bl, of, cap, rfl, hc, fun i y hy => ?_⟩
      obtain ⟨cs, ⟨q1, hb⟩, _, hat⟩ := h2 i y hy
      have a0 := hat 0 (by omega)
      rw [q1] at a0
      simp only [Addr.add_lit, Nat.add_zero, Nat.mul_one] at a0
      exact ⟨hb, a0⟩
theorem U8R.below {w w' : World} {v : Value} {l : List Int} (h : U8R w v l) (hb : Below w.heap.size w w') : U8R w' v l := by
  rcases h with h | ⟨g, off, cap, e, hc, hx⟩
  · exact .inl h
  · exact .inr ⟨g, off, cap, e, hc, fun i x hi => ⟨(hx i x hi).1, (hb.cell (World.block_lt_of_cell? w _ (hx i x hi).2)).trans (hx i x hi).2⟩⟩
theorem U8R.form {w : World} {v : Value} {l : List Int} (h : U8R w v l) : ∃ a cap, v = .slice a l.length cap := by
  rcases h with ⟨a, cap, rfl, rfl⟩ | ⟨g, off, cap, rfl, _⟩
  · exact ⟨_, _, rfl⟩
  · exact ⟨_, _, rfl⟩
end
end Go.Proofs.YtjngangojgjceaaGreat.SL
