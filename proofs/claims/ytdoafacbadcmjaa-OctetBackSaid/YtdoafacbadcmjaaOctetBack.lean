/- The law OctetBack holds: what was put is got, at its place, and the place behind it is where the next one stands. -/
import Derived.Test.YtdoafacbadcmjaaKno
import Derived.Test.YtdoafacbadcmjaaOrf
import Derived.SizedLaws
import Derived.ChangeOld
import Derived.Carry
namespace Go.Proofs.Ytdoafacbadcmjaa.octetBack
open Go.ChangeShapes Go.WideShapes Go.ChangeAt Go.RowKit
open Go.ChangeMaps (open_string shut_string)
set_option linter.unusedVariables false

/-- what stands between a and c, byte by byte -/
theorem mid (a b c : ByteArray) (i j : Nat) (hi : i = a.size) (hj : j = a.size + b.size) : (a ++ b ++ c).extract i j = b := by
  subst hi; subst hj
  have e : ((a ++ b ++ c).extract a.size (a.size + b.size)).data.toList = b.data.toList := by
    rw [Lib.extract_data, ByteArray.data_append, ByteArray.data_append, Array.toList_append, Array.toList_append, Lib.size_eq a, Lib.size_eq b]
    rw [List.append_assoc, List.drop_left, Nat.add_sub_cancel_left, List.take_left]
  apply ByteArray.ext
  exact Array.toList_inj.1 e

theorem idx_end : ∀ l : List UInt8, Lib.indexByte l 0 = -1 → Lib.indexByte (l ++ [0]) 0 = l.length
  | [], _ => rfl
  | b :: l, h => by
    unfold Lib.indexByte at h
    by_cases hb : (b == 0) = true
    · rw [if_pos hb] at h; exact absurd h (by decide)
    · rw [if_neg hb] at h
      by_cases hl : (Lib.indexByte l 0 == -1) = true
      · have ih := idx_end l (beq_iff_eq.1 hl)
        rw [List.cons_append]
        unfold Lib.indexByte
        rw [if_neg hb, ih, if_neg (by simp <;> omega), List.length_cons]
        rfl
      · rw [if_neg hl] at h
        have := Lib.indexByte_ge l 0
        have h2 : Lib.indexByte l 0 ≠ -1 := fun e => hl (by rw [e]; rfl)
        omega

theorem zix_all (t : ByteArray) (h : zix t = t.size) : Lib.indexByte t.data.toList 0 = -1 ∧ head0 t = t := by
  constructor
  · by_cases hx : Lib.indexByte t.data.toList 0 = -1
    · exact hx
    · have := (zix_lt t hx).1; omega
  · unfold head0; rw [h]; simp

theorem be16 (A : Int) (h1 : -32768 ≤ A) (h2 : A ≤ 32767) : sgn16 (beN [byt (A / 256), byt A]) = A := by
  have e : beN [byt (A / 256), byt A] = (byt (A / 256)).toNat * 256 + (byt A).toNat := by unfold beN; simp
  have x := byt_toNat (A / 256)
  have y := byt_toNat A
  rw [e]; unfold sgn16; split <;> omega
theorem be32 (A : Int) (h1 : -2147483648 ≤ A) (h2 : A ≤ 2147483647) : sgn32 (beN [byt (A / 16777216), byt (A / 65536), byt (A / 256), byt A]) = A := by
  have e : beN [byt (A / 16777216), byt (A / 65536), byt (A / 256), byt A] = (((byt (A / 16777216)).toNat * 256 + (byt (A / 65536)).toNat) * 256 + (byt (A / 256)).toNat) * 256 + (byt A).toNat := by unfold beN; simp
  have x := byt_toNat (A / 16777216)
  have x2 := byt_toNat (A / 65536)
  have x3 := byt_toNat (A / 256)
  have y := byt_toNat A
  rw [e]; unfold sgn32; split <;> omega

/-- all that was put -/
def all (s : ByteArray) (A B : Int) (t : ByteArray) : ByteArray := putText (put32 (put16 s A) B) t

structure Got (s : ByteArray) (A B : Int) (t T : ByteArray) : Prop where
  size : T.size = s.size + 6 + t.size + 1
  n16 : g16 T (s.size : Int) = (A, (s.size : Int) + 2, 0)
  n32 : g32 T ((s.size : Int) + 2) = (B, (s.size : Int) + 6, 0)
  text : gText T ((s.size : Int) + 6) = (t, (T.size : Int), 0)
  first : gBytes T 0 (s.size : Int) = (s, (s.size : Int), 0)

theorem got (s : ByteArray) (A B : Int) (t : ByteArray) (hA1 : -32768 ≤ A) (hA2 : A ≤ 32767) (hB1 : -2147483648 ≤ B) (hB2 : B ≤ 2147483647) (hz : zix t = t.size) : Got s A B t (all s A B t) := by
  obtain ⟨h1, h2⟩ := zix_all t hz
  obtain ⟨X, hX⟩ : ∃ X, X = (⟨#[byt (A / 256), byt A]⟩ : ByteArray) := ⟨_, rfl⟩
  obtain ⟨Y, hY⟩ : ∃ Y, Y = (⟨#[byt (B / 16777216), byt (B / 65536), byt (B / 256), byt B]⟩ : ByteArray) := ⟨_, rfl⟩
  obtain ⟨Z, hZ⟩ : ∃ Z, Z = (⟨#[0]⟩ : ByteArray) := ⟨_, rfl⟩
  have xs : X.size = 2 := by rw [hX]; rfl
  have ys : Y.size = 4 := by rw [hY]; rfl
  have zs : Z.size = 1 := by rw [hZ]; rfl
  have bx : beN X.data.toList = beN [byt (A / 256), byt A] := by rw [hX]
  have by' : beN Y.data.toList = beN [byt (B / 16777216), byt (B / 65536), byt (B / 256), byt B] := by rw [hY]
  have zl : Z.data.toList = [0] := by rw [hZ]
  have e : all s A B t = s ++ X ++ Y ++ t ++ Z := by unfold all putText put32 put16; rw [h2, hX, hY, hZ]
  generalize hT : all s A B t = T at *
  have hs : T.size = s.size + 6 + t.size + 1 := by rw [e]; simp only [ByteArray.size_append]; omega
  refine ⟨hs, ?_, ?_, ?_, ?_⟩
  · unfold g16 insB
    rw [if_neg (by rw [decide_eq_false_iff_not]; omega), if_neg (by omega)]
    have : T.extract (s.size : Int).toNat ((s.size : Int) + 2).toNat = X := by
      rw [e, show s ++ X ++ Y ++ t ++ Z = s ++ X ++ (Y ++ t ++ Z) by simp only [ByteArray.append_assoc]]
      exact mid s X _ _ _ (by omega) (by omega)
    rw [this, bx, be16 A hA1 hA2]
  · unfold g32 insB
    rw [if_neg (by rw [decide_eq_false_iff_not]; omega), if_neg (by omega)]
    have : T.extract ((s.size : Int) + 2).toNat ((s.size : Int) + 2 + 4).toNat = Y := by
      rw [e, show s ++ X ++ Y ++ t ++ Z = (s ++ X) ++ Y ++ (t ++ Z) by simp only [ByteArray.append_assoc]]
      exact mid (s ++ X) Y _ _ _ (by rw [ByteArray.size_append]; omega) (by rw [ByteArray.size_append]; omega)
    rw [this, by', be32 B hB1 hB2, show (s.size : Int) + 2 + 4 = (s.size : Int) + 6 by omega]
  · have e3 : T.extract ((s.size : Int) + 6).toNat T.size = t ++ Z := by
      rw [e, show s ++ X ++ Y ++ t ++ Z = (s ++ X ++ Y) ++ (t ++ Z) ++ ByteArray.empty by simp only [ByteArray.append_assoc, ByteArray.append_empty]]
      exact mid (s ++ X ++ Y) (t ++ Z) _ _ _ (by simp only [ByteArray.size_append]; omega) (by simp only [ByteArray.size_append, ByteArray.size_empty]; omega)
    have e4 : Lib.indexByte (T.extract ((s.size : Int) + 6).toNat T.size).data.toList 0 = t.size := by
      rw [e3, ByteArray.data_append, Array.toList_append, zl, idx_end _ h1, Lib.size_eq]
    have e5 : T.extract ((s.size : Int) + 6).toNat ((s.size : Int) + 6 + (t.size : Int)).toNat = t := by
      rw [e]
      exact mid (s ++ X ++ Y) t Z _ _ (by simp only [ByteArray.size_append]; omega) (by simp only [ByteArray.size_append]; omega)
    unfold gText
    rw [if_neg (by unfold insB; rw [decide_eq_false_iff_not]; omega), e4, if_neg (by omega), e5, show (s.size : Int) + 6 + (t.size : Int) + 1 = (T.size : Int) by omega]
  · unfold gBytes insB
    rw [if_neg (by omega), if_neg (by rw [decide_eq_false_iff_not]; omega), if_neg (by omega)]
    have : T.extract (0 : Int).toNat (0 + (s.size : Int)).toNat = s := by
      rw [e, show s ++ X ++ Y ++ t ++ Z = ByteArray.empty ++ s ++ (X ++ Y ++ t ++ Z) by simp only [ByteArray.append_assoc, ByteArray.empty_append]]
      exact mid ByteArray.empty s _ _ _ rfl (by simp only [ByteArray.size_empty]; omega)
    rw [this, Int.zero_add]

theorem wrapA (n : Int) : -32768 ≤ wrap64 (IntKind.i16.wrap n) ∧ wrap64 (IntKind.i16.wrap n) ≤ 32767 := by
  unfold wrap64
  simp [IntKind.wrap, IntKind.bits, IntKind.signed]
  split <;> omega

set_option maxHeartbeats 1000000 in
theorem walk (a0 : ByteArray) (n0 n1 : Int) (a2 : ByteArray) (s0 : a0.size ≤ 140737488351232) (u0 : (Lit.int .i32 n0).wf = true) (u1 : (Lit.int .i32 n1).wf = true) (s2 : a2.size ≤ 140737488351232) (w : World) :
    Calls Try.prog 5 #[.string a0, .agg #[.int .i32 n0, .int .i32 n1], .string a2] w fun e w' => e = .returned (.bool true) ∧ Below w.heap.size w w' := by
  have hz := zix_le a2
  obtain ⟨b1, b2⟩ := bounds_i32 u1
  go_enter Try.func5, Try.ntmps5
  go_wp2_with fail
  go_loop [9] (fun i => ∃ k : Nat, k ≤ zix a2 ∧ i = .int .i64 k) (fun i => a2.size - (intOf i).toNat)
  case atStart => exact ⟨0, Nat.zero_le _, rfl⟩
  case round =>
    obtain ⟨k, hk, rfl⟩ := hrel
    by_cases hlt : k < zix a2
    · have h1 : k < a2.size := by omega
      have h2 := zix_ne a2 k hlt h1
      have h6 : ((a2[k].toNat : Int) == 0) = false := by have := toNat_ne _ h2; simpa using this
      clear h2
      go_wp2_with fail
      go_round
      case rel => exact ⟨k + 1, by omega, by go_num⟩
      case measure => simp [intOf]; omega
    · have e : k = zix a2 := by omega
      by_cases h1 : k < a2.size
      · have h3 : zix a2 < a2.size := by omega
        have h5 : a2[k] = 0 := by subst e; exact zix_eq a2 h3
        have h6 : ((a2[k].toNat : Int) == 0) = true := by rw [h5]; rfl
        clear h5 e
        go_wp2_with (go_at_call 14; refine (known_any _).mono ?_; rintro e w' ⟨rfl, hb⟩)
        go_ret
        exact ⟨rfl, ((Below.refl _ _).alloc (Nat.le_refl _) _).trans (hb.mono (by simp))⟩
      · have hz2 : zix a2 = a2.size := by omega
        have G := got a0 (wrap64 (IntKind.i16.wrap n0)) n1 a2 (wrapA n0).1 (wrapA n0).2 b1 b2 hz2
        have gs := G.size
        have S0 : a0.size ≤ 281474976710656 := by omega
        obtain ⟨P, hP⟩ : ∃ P, put16 a0 (wrap64 (IntKind.i16.wrap n0)) = P := ⟨_, rfl⟩
        obtain ⟨Q, hQ⟩ : ∃ Q, put32 P n1 = Q := ⟨_, rfl⟩
        obtain ⟨T, hT⟩ : ∃ T, putText Q a2 = T := ⟨_, rfl⟩
        have hP2 : P.size = a0.size + 2 := by rw [← hP]; unfold put16; rw [ByteArray.size_append]; rfl
        have hQ2 : Q.size = P.size + 4 := by rw [← hQ]; unfold put32; rw [ByteArray.size_append]; rfl
        have e : all a0 (wrap64 (IntKind.i16.wrap n0)) n1 a2 = T := by unfold all; rw [hP, hQ, hT]
        rw [e] at G gs
        have c1 := put16_any a0 (wrap64 (IntKind.i16.wrap n0)) S0; rw [hP] at c1
        have c2 := put32_any P n1 (by omega); rw [hQ] at c2
        have c3 := fun w => putText_any Q a2 w (by omega) (by omega); rw [hT] at c3
        have c4 := fun w => get16_any T (a0.size : Int) w (by omega)
        rw [G.n16, show int3 (wrap64 (IntKind.i16.wrap n0), (a0.size : Int) + 2, 0) = .tuple #[.int .i64 (wrap64 (IntKind.i16.wrap n0)), .int .i64 ((a0.size : Int) + 2), .int .i64 0] from rfl] at c4
        have c5 := fun w => get32_any T ((a0.size : Int) + 2) w (by omega)
        rw [G.n32, show int3 (n1, (a0.size : Int) + 6, 0) = .tuple #[.int .i64 n1, .int .i64 ((a0.size : Int) + 6), .int .i64 0] from rfl] at c5
        have c6 := fun w => getText_any T ((a0.size : Int) + 6) w (by omega)
        rw [G.text, show res3 (a2, (T.size : Int), 0) = .tuple #[.string a2, .int .i64 (T.size : Int), .int .i64 0] from rfl] at c6
        have c7 := fun w => getBytes_any T 0 (a0.size : Int) w (by omega)
        rw [G.first, show res3 (a0, (a0.size : Int), 0) = .tuple #[.string a0, .int .i64 (a0.size : Int), .int .i64 0] from rfl] at c7
        have tl : T.size ≤ 281474976710656 := by omega
        clear G gs hP hQ hT hP2 hQ2 e hz2
        have hB : Below w.heap.size w (w.alloc (.cells #[.int .i32 n0, .int .i32 n1] 33)) := (Below.refl _ _).alloc (Nat.le_refl _) _
        go_wp2_with (first
          | (go_at_call 8; refine (c1 _).mono ?_; rintro e w' ⟨rfl, hb⟩; replace hB := step _ _ _ hB hb; clear hb)
          | (go_at_call 10; refine (c2 _).mono ?_; rintro e w' ⟨rfl, hb⟩; replace hB := step _ _ _ hB hb; clear hb)
          | (go_at_call 12; refine (c3 _).mono ?_; rintro e w' ⟨rfl, hb⟩; replace hB := step _ _ _ hB hb; clear hb)
          | (go_at_call 15; refine (c4 _).mono ?_; rintro e w' ⟨rfl, hb⟩; replace hB := step _ _ _ hB hb; clear hb)
          | (go_at_call 17; refine (c5 _).mono ?_; rintro e w' ⟨rfl, hb⟩; replace hB := step _ _ _ hB hb; clear hb)
          | (go_at_call 19; refine (c6 _).mono ?_; rintro e w' ⟨rfl, hb⟩; replace hB := step _ _ _ hB hb; clear hb)
          | (go_at_call 21; refine (c7 _).mono ?_; rintro e w' ⟨rfl, hb⟩; replace hB := step _ _ _ hB hb; clear hb)
          | (go_at_call 14; refine (known_any _).mono ?_; rintro e w' ⟨rfl, hb⟩; replace hB := step _ _ _ hB hb; clear hb))
        go_ret
        exact ⟨rfl, hB⟩

theorem own : ownKnob Try.prog.godebug = none := by kernel_rfl
theorem laidOut : laidOutB Try.prog = true := by kernel_rfl
theorem arr2 (cs : Array Value) (h : cs.size = 2) : ∃ x y, cs = #[x, y] := by
  obtain ⟨l⟩ := cs
  match l, h with
  | [x, y], _ => exact ⟨x, y, rfl⟩

set_option maxRecDepth 100000 in
theorem lifted (os : Os) (started : os.Started) (H : Type) (enc : TypeId × Value → H) :
    ReturnsInHanded {} Try.checked os 5 .any (Rows.octetBackSpec.pre6 enc Try.prog Try.f5 Rows.octetBackRow.domain false) (Rows.octetBackSpec.post enc Try.prog Try.f5 false true false false) := by
  refine returnsInHanded_of_change_sized (C := Try.checked) own started (by kernel_rfl) Try.func5
    (ChangeSpec.witness6 (enc := enc) (C := Try.checked) false ⟨#[], #[.string ByteArray.empty, .agg #[.int .i32 0, .int .i32 0], .string ByteArray.empty], []⟩ 8 (by kernel_rfl) (by kernel_rfl) (by kernel_rfl) (by kernel_rfl)) ?_
  intro W base args ds gs before hval0 hW hcnd hsz0 _
  have hsz : (DataW.weightsEach Try.prog (Try.f5.params.toList ++ Rows.octetBackSpec.plain.varTypes Try.prog) (ds ++ gs)).all (· ≤ reachBytes) = true := hsz0
  clear hsz0
  have hval : ∀ (j : Nat) t v, Try.f5.params[j]? = some t → args[j]? = some v → Value.okWide Try.prog W .any base t v := hval0
  have hW' := hW
  obtain ⟨p, q, hA0, hV, rfl, hfz, hnd⟩ := hW
  have hA : DataW.TrodAll enc Try.prog W 0 (fun _ => true) true Try.f5.params.toList args.toList ds p := hA0
  rw [Try.params5] at hA hval hsz
  obtain ⟨v0, vs0, d0, ds0, p0, q0, hargs, rfl, rfl, h0, r0⟩ := trodAll_cons hA
  obtain ⟨v1, vs1, d1, ds1, p1, q1, rfl, rfl, rfl, h1, r1⟩ := trodAll_cons r0
  obtain ⟨v2, vs2, d2, ds2, p2, q2, rfl, rfl, rfl, h2, r2⟩ := trodAll_cons r1
  obtain ⟨rfl, rfl, rfl⟩ := trodAll_nil r2
  obtain rfl : args = #[v0, v1, v2] := by cases args; simp_all
  obtain ⟨rfl, rfl⟩ := trodVars_none hV
  obtain ⟨a0, rfl, rfl, rfl, m0⟩ := open_string Try.underlying9 (hval 0 9 v0 rfl rfl) h0
  have k1 := h1
  have lt1 : ∀ x ∈ p1, x.block < W.heap.size := by obtain ⟨m, hm⟩ := k1; exact DataW.trod_lt m _ _ _ hm
  obtain ⟨cs1, rfl, cz1, _⟩ : ∃ cs, v1 = .agg cs ∧ cs.size = Try.prog.cellsOf 33 ∧ Row.okWide Try.prog W .any base 33 cs := by
    have := hval 1 33 v1 rfl rfl
    simpa [Value.okWide, Try.underlying33] using this
  rw [show Try.prog.cellsOf 33 = 2 by kernel_rfl] at cz1
  obtain ⟨c10, c11, rfl⟩ := arr2 cs1 cz1
  obtain ⟨n10, n11, rfl, rfl, u10, u11⟩ : ∃ x y : Int, c10 = .int .i32 x ∧ c11 = .int .i32 y ∧ (Lit.int .i32 x).wf = true ∧ (Lit.int .i32 y).wf = true := by
    obtain ⟨fuel, hf⟩ := h1
    obtain ⟨xs, m, _, _, _, hl, hel⟩ := DataW.trod_array Try.underlying33 hf
    have e0 := hel 0 (by omega); have e1 := hel 1 (by omega)
    rw [show Try.prog.cellsOf 21 = 1 by kernel_rfl, List.getElem?_eq_getElem (by omega)] at e0 e1
    obtain ⟨x, ex, _, wx⟩ := DataW.trod_int Try.underlying21 e0
    obtain ⟨y, ey, _, wy⟩ := DataW.trod_int Try.underlying21 e1
    simp [Value.cells] at ex ey
    exact ⟨x, y, ex, ey, wx, wy⟩
  obtain ⟨a2, rfl, rfl, rfl, m2⟩ := open_string Try.underlying9 (hval 2 9 v2 rfl rfl) h2
  clear hA0 hval0
  have s0 : a0.size ≤ 140737488351232 := by
    have := sized_string hsz (j := 0) (t := 9) (bytes := a0.data.toList) rfl rfl
    rw [← Lib.size_eq] at this; unfold reachBytes at this; exact this
  have s2 : a2.size ≤ 140737488351232 := by
    have := sized_string hsz (j := 2) (t := 9) (bytes := a2.data.toList) rfl rfl
    rw [← Lib.size_eq] at this; unfold reachBytes at this; exact this
  refine (walk a0 n10 n11 a2 s0 u10 u11 s2 W).mono fun e W' ⟨he, bel⟩ => ?_
  subst he
  exact ⟨_, rfl, _, _, _, [], _, [], hW', trodAll_mk1 (shut_bool Try.underlying4 _), (trodAll_cons_mk (shut_string Try.underlying9 m0) (trodAll_cons_mk (Below.trod laidOut (by kernel_rfl) (of_decide_eq_true (by kernel_rfl)) k1 bel lt1) (trodAll_cons_mk (shut_string Try.underlying9 m2) trodAll_mk0))), rfl, bel.frame _, fun h => by cases h⟩

theorem over : Rows.octetBackRow.holds Try.pinned (OpenSpec.ofChange Rows.octetBackSpec) :=
  OpenClaim.holds_of_wide 5 Try.f5 rfl rfl rfl rfl rfl rfl rfl ⟨rfl, rfl, rfl, rfl, rfl⟩ rfl rfl rfl rfl rfl (by kernel_rfl) Try.func5 (by kernel_rfl)
    (of_decide_eq_true (by kernel_rfl)) (by unfold Func.isWrapper; rw [if_neg (by decide +kernel)]; exact ⟨rfl, rfl⟩)
    (fun os started H enc _ => lifted os started H enc)

theorem proved : Rows.OctetBackSaid := over
end Go.Proofs.Ytdoafacbadcmjaa.octetBack
