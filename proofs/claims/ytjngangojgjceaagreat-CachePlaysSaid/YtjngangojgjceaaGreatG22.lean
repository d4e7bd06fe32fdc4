/- What each call of the document's own package for layer 1 does, for every input: it puts and gets just what package octet does; below the memory that was there nothing turns. Condition: the texts are of at most 2^48 bytes.
   The document's keys for cache: plain, Right, Text, Size, Parse, keys. Conditions: how long the parts, and the texts, are.
   Layer 12's plain and same, the document's keys of texts. Conditions: how many, how long the texts are.
   The document's cache as plain data: its blocks. Conditions: none.
   The document's cache: gone, Keys, Bytes, Drop, Tick, Flush. Conditions: how many, how long keys are. -/
import Derived.Test.YtjngangojgjceaaGreatOct
import Derived.Deep.Cut
import Derived.Test.YtjngangojgjceaaGreatG17
import Derived.Test.YtjngangojgjceaaGreatG21
set_option linter.unusedSimpArgs false
set_option linter.unusedVariables false
namespace Go.Proofs.YtjngangojgjceaaGreat
open Go.ChangeShapes Go.WideShapes Go.ChangeAt Go.RowKit
set_option linter.unusedVariables false

theorem rput16_any (s : ByteArray) (n : Int) (hs : s.size ≤ 281474976710656) (w : World) :
    Calls Tryz.prog 78 #[.string s, .int .i64 n] w fun e w' => e = .returned (.string (put16 s n)) ∧ Below w.heap.size w w' := by
  have hconv : (convert 163 9 (.slice (some ⟨w.heap.size, 0, none⟩) 2 2)).run Tryz.prog (w.alloc (.cells #[.int .u8 (n / 256 % 256), .int .u8 (n % 256)] 5)) = .ok (.string ⟨#[byt (n / 256), byt n]⟩) (w.alloc (.cells #[.int .u8 (n / 256 % 256), .int .u8 (n % 256)] 5)) := by
    refine run_convert_bytes_back (P := Tryz.prog) _ 163 9 5 _ 2 [byt (n / 256), byt n] Tryz.underlying163 Tryz.underlying5 Tryz.underlying9 ?_
    intro j hj
    match j, hj with
    | 0, _ => simp [byt_toNat, Addr.add, go_sem]
    | 1, _ => simp [byt_toNat, Addr.add, go_sem]
  go_enter Tryz.func78, Tryz.ntmps78
  go_wp2
  go_ret
  exact ⟨rfl, (Below.refl _ _).alloc (Nat.le_refl _) _⟩

theorem zix_ne (t : ByteArray) (k : Nat) (h : k < zix t) (hk : k < t.size) : t[k] ≠ 0 := by
  have hget : t.data.toList[k]? = some t[k] := by
    rw [List.getElem?_eq_getElem (by rw [← Lib.size_eq]; exact hk)]; rfl
  intro e
  rw [e] at hget
  by_cases hx : Lib.indexByte t.data.toList 0 = -1
  · exact Lib.indexByte_none hx k hget
  · exact (Lib.indexByte_some (zix_lt t hx).2).2 k h hget
theorem zix_eq (t : ByteArray) (h : zix t < t.size) : t[zix t] = 0 := by
  by_cases hx : Lib.indexByte t.data.toList 0 = -1
  · unfold zix at h; rw [if_pos hx] at h; omega
  · have hget := (Lib.indexByte_some (zix_lt t hx).2).1
    rw [List.getElem?_eq_getElem (by rw [← Lib.size_eq]; exact h)] at hget
    exact Option.some.inj hget
theorem toNat_ne (b : UInt8) (h : b ≠ 0) : ((b.toNat : Int) != 0) = true := by
  simp; intro e; apply h; exact UInt8.toNat_inj.1 e

theorem rputText_any (s t : ByteArray) (w : World) (hs : s.size ≤ 281474976710656) (ht : t.size ≤ 281474976710656) :
    Calls Tryz.prog 77 #[.string s, .string t] w fun e w' => e = .returned (.string (putText s t)) ∧ w' = w := by
  have hz := zix_le t
  go_enter Tryz.func77, Tryz.ntmps77
  go_wp2
  go_loop [5] (fun i => ∃ k : Nat, k ≤ zix t ∧ i = .int .i64 k) (fun i => t.size - (intOf i).toNat)
  case atStart => exact ⟨0, Nat.zero_le _, rfl⟩
  case round =>
    obtain ⟨k, hk, rfl⟩ := hrel
    by_cases hlt : k < zix t
    · have h1 : k < t.size := by omega
      have h2 := toNat_ne _ (zix_ne t k hlt h1)
      have h3 : decide (k < t.size) = true := by simpa using h1
      go_wp2
      go_round
      case rel => exact ⟨k + 1, by omega, by go_num⟩
      case measure => simp [intOf]; omega
    · have e : k = zix t := by omega
      subst e
      have hh := head0_size t
      have hH : (t.extract 0 (zix t)).size ≤ 281474976710656 := by have := head0_size t; unfold head0 at this; omega
      clear hh hlt hk
      by_cases h1 : zix t < t.size
      · have h2 := zix_eq t h1
        have h4 : ((t[zix t].toNat : Int) != 0) = false := by rw [h2]; rfl
        clear h2
        go_wp2
        go_ret
        exact ⟨rfl, rfl⟩
      · have h3 : decide (zix t < t.size) = false := by simpa using h1
        go_wp2
        go_ret
        exact ⟨rfl, rfl⟩

theorem rgetBytes_any (s : ByteArray) (a n : Int) (w : World) (hs : s.size ≤ 281474976710656) :
    Calls Tryz.prog 134 #[.string s, .int .i64 a, .int .i64 n] w fun e w' => e = .returned (res3 (gBytes s a n)) ∧ w' = w := by
  by_cases hn : n < 0
  · have e : gBytes s a n = (⟨#[]⟩, 0, 1) := by unfold gBytes; rw [if_pos hn]
    rw [e]; clear e
    by_cases h0 : a < 0
    · go_enter Tryz.func134, Tryz.ntmps134
      go_wp2
      go_ret3
      exact ⟨rfl, rfl⟩
    · by_cases h1 : (s.size : Int) < a
      · go_enter Tryz.func134, Tryz.ntmps134
        go_wp2
        go_ret3
        exact ⟨rfl, rfl⟩
      · go_enter Tryz.func134, Tryz.ntmps134
        go_wp2
        go_ret3
        exact ⟨rfl, rfl⟩
  · by_cases h0 : a < 0
    · have e : gBytes s a n = (⟨#[]⟩, 0, 1) := by unfold gBytes; rw [if_neg hn, if_pos (by unfold insB; exact decide_eq_false (by omega))]
      rw [e]; clear e
      go_enter Tryz.func134, Tryz.ntmps134
      go_wp2
      go_ret3
      exact ⟨rfl, rfl⟩
    · by_cases h1 : (s.size : Int) < a
      · have e : gBytes s a n = (⟨#[]⟩, 0, 1) := by unfold gBytes; rw [if_neg hn, if_pos (by unfold insB; exact decide_eq_false (by omega))]
        rw [e]; clear e
        go_enter Tryz.func134, Tryz.ntmps134
        go_wp2
        go_ret3
        exact ⟨rfl, rfl⟩
      · have hi : insB s.size a = true := by unfold insB; exact decide_eq_true (by omega)
        by_cases hl : (s.size : Int) - a < n
        · have e : gBytes s a n = (⟨#[]⟩, 0, 3) := by unfold gBytes; rw [if_neg hn, if_neg (by rw [hi]; decide), if_pos hl]
          rw [e]; clear e hi
          go_enter Tryz.func134, Tryz.ntmps134
          go_wp2
          go_ret3
          exact ⟨rfl, rfl⟩
        · have e : gBytes s a n = (s.extract a.toNat (a + n).toNat, a + n, 0) := by unfold gBytes; rw [if_neg hn, if_neg (by rw [hi]; decide), if_neg hl]
          rw [e]; clear e hi
          have h3 : a ≤ a + n := by omega
          have h4 : a + n ≤ s.size := by omega
          have h5 : 0 ≤ a + n := by omega
          have h6 : 0 ≤ a := by omega
          have h7 : 0 ≤ n := by omega
          go_enter Tryz.func134, Tryz.ntmps134
          go_wp2
          go_ret3
          exact ⟨rfl, rfl⟩

theorem g16_no (s : ByteArray) (a : Int) (hc : insB s.size a = false ∨ (s.size : Int) - a < 2) :
    ∃ c, gBytes s a 2 = (⟨#[]⟩, 0, c) ∧ (c != 0) = true ∧ g16 s a = (0, 0, c) := by
  unfold gBytes g16
  rw [if_neg (by decide)]
  by_cases hi : insB s.size a = false
  · rw [if_pos hi, if_pos hi]; exact ⟨1, rfl, rfl, rfl⟩
  · have h : (s.size : Int) - a < 2 := by rcases hc with hc | hc; exact absurd hc hi; exact hc
    rw [if_neg hi, if_neg hi, if_pos h, if_pos h]; exact ⟨3, rfl, rfl, rfl⟩
theorem g32_no (s : ByteArray) (a : Int) (hc : insB s.size a = false ∨ (s.size : Int) - a < 4) :
    ∃ c, gBytes s a 4 = (⟨#[]⟩, 0, c) ∧ (c != 0) = true ∧ g32 s a = (0, 0, c) := by
  unfold gBytes g32
  rw [if_neg (by decide)]
  by_cases hi : insB s.size a = false
  · rw [if_pos hi, if_pos hi]; exact ⟨1, rfl, rfl, rfl⟩
  · have h : (s.size : Int) - a < 4 := by rcases hc with hc | hc; exact absurd hc hi; exact hc
    rw [if_neg hi, if_neg hi, if_pos h, if_pos h]; exact ⟨3, rfl, rfl, rfl⟩
theorem g16_yes (s : ByteArray) (a : Int) (hi : insB s.size a = true) (hl : 2 ≤ (s.size : Int) - a) :
    ∃ r : ByteArray, r.size = 2 ∧ gBytes s a 2 = (r, a + 2, 0) ∧ g16 s a = (sgn16 (beN r.data.toList), a + 2, 0) := by
  have hi2 : 0 ≤ a ∧ a ≤ s.size := by simpa [insB] using hi
  refine ⟨s.extract a.toNat (a + 2).toNat, by simp; omega, ?_, ?_⟩
  · unfold gBytes; rw [if_neg (by decide), if_neg (by rw [hi]; decide), if_neg (by omega)]
  · unfold g16; rw [if_neg (by rw [hi]; decide), if_neg (by omega)]
theorem g32_yes (s : ByteArray) (a : Int) (hi : insB s.size a = true) (hl : 4 ≤ (s.size : Int) - a) :
    ∃ r : ByteArray, r.size = 4 ∧ gBytes s a 4 = (r, a + 4, 0) ∧ g32 s a = (sgn32 (beN r.data.toList), a + 4, 0) := by
  have hi2 : 0 ≤ a ∧ a ≤ s.size := by simpa [insB] using hi
  refine ⟨s.extract a.toNat (a + 4).toNat, by simp; omega, ?_, ?_⟩
  · unfold gBytes; rw [if_neg (by decide), if_neg (by rw [hi]; decide), if_neg (by omega)]
  · unfold g32; rw [if_neg (by rw [hi]; decide), if_neg (by omega)]
theorem beN_take (r : ByteArray) (k : Nat) (h : k < r.size) : beN (r.data.toList.take (k + 1)) = beN (r.data.toList.take k) * 256 + r[k].toNat := by
  rw [take_snoc r k h, beN_snoc]
theorem beN_two (r : ByteArray) (h : r.size ≤ 2) (h0 : 0 < r.size) (h1 : 1 < r.size) : beN r.data.toList = r[0].toNat * 256 + r[1].toNat := by
  have e : r.data.toList.take 2 = r.data.toList := List.take_of_length_le (by rw [← Lib.size_eq]; exact h)
  have k1 : beN (r.data.toList.take 2) = beN (r.data.toList.take 1) * 256 + r[1].toNat := beN_take r 1 h1
  have k0 : beN (r.data.toList.take 1) = beN (r.data.toList.take 0) * 256 + r[0].toNat := beN_take r 0 h0
  have hz : beN (r.data.toList.take 0) = 0 := by rw [List.take_zero]; rfl
  rw [← e, k1, k0, hz, Nat.zero_mul, Nat.zero_add]
theorem res3_err (c : Int) : res3 (⟨#[]⟩, 0, c) = .tuple #[.string ⟨#[]⟩, .int .i64 0, .int .i64 c] := rfl
theorem res3_ok (r : ByteArray) (k : Int) : res3 (r, k, 0) = .tuple #[.string r, .int .i64 k, .int .i64 0] := rfl

theorem ref16 (x y : Nat) (hx : (x : Int) < 256) (hy : (y : Int) < 256) : wrap64 (wrap64 (256 * wrap64 (x : Int)) + wrap64 (y : Int)) = 256 * (x : Int) + y := by unfold wrap64; omega
theorem ref16b (x y : Nat) (hx : (x : Int) < 256) (hy : (y : Int) < 256) (h : 32768 ≤ 256 * (x : Int) + y) : wrap64 (256 * (x : Int) + y - 65536) = sgn16 (x * 256 + y) := by
  unfold sgn16 wrap64; rw [if_neg (by omega)]; omega
theorem ref16c (x y : Nat) (hx : (x : Int) < 256) (hy : (y : Int) < 256) (h : ¬ 32768 ≤ 256 * (x : Int) + y) : 256 * (x : Int) + y = sgn16 (x * 256 + y) := by
  unfold sgn16; rw [if_pos (by omega)]; omega

set_option maxRecDepth 100000 in
theorem rget16_any (s : ByteArray) (a : Int) (w : World) (hs : s.size ≤ 281474976710656) :
    Calls Tryz.prog 114 #[.string s, .int .i64 a] w fun e w' => e = .returned (int3 (g16 s a)) ∧ Below w.heap.size w w' := by
  by_cases hc : insB s.size a = false ∨ (s.size : Int) - a < 2
  · obtain ⟨c, e1, hne, e2⟩ := g16_no s a hc
    have d := fun w => rgetBytes_any s a 2 w hs
    rw [e1, res3_err] at d
    rw [e2]; clear e1 e2 hc
    go_enter Tryz.func114, Tryz.ntmps114
    go_wp2_with (go_at_call 134; refine (d _).mono ?_; rintro e w1 ⟨rfl, rfl⟩)
    go_ret3
    exact ⟨rfl, Below.refl _ _⟩
  · have hi : insB s.size a = true := by cases h : insB s.size a; exact absurd (.inl h) hc; rfl
    have hl : ¬ (s.size : Int) - a < 2 := fun h => hc (.inr h)
    have hi2 : 0 ≤ a ∧ a ≤ s.size := by simpa [insB] using hi
    obtain ⟨r, hr, e1, e2⟩ := g16_yes s a hi (by omega)
    have d := fun w => rgetBytes_any s a 2 w hs
    rw [e1, res3_ok] at d
    have q0 : 0 < r.size := by omega
    have q1 : 1 < r.size := by omega
    have hB := beN_two r (by omega) q0 q1
    have r0 : (0 : Int) < r.size := by omega
    have r1 : (1 : Int) < r.size := by omega
    have b0 : (r[0].toNat : Int) < 256 := by have := r[0].toNat_lt; omega
    have b1 : (r[1].toNat : Int) < 256 := by have := r[1].toNat_lt; omega
    rw [e2, hB]; clear e1 e2 hc hi hl hB hr
    have B0 := Lib.hid b0
    have B1 := Lib.hid b1
    clear b0 b1
    go_enter Tryz.func114, Tryz.ntmps114
    go_wp2_with (go_at_call 134; refine (d _).mono ?_; rintro e w1 ⟨rfl, rfl⟩)
    go_quiet (fail)
    go_wp2
    · have hbig : (32768 : Int) ≤ wrap64 (wrap64 ((256 : Int) * wrap64 (r[0].toNat : Int)) + wrap64 (r[1].toNat : Int)) := by assumption
      go_ret3
      refine ⟨?_, below_drewN (Below.refl _ _) _⟩
      show Ending.returned (.tuple #[.int .i64 (wrap64 (wrap64 (wrap64 ((256 : Int) * wrap64 (r[0].toNat : Int)) + wrap64 (r[1].toNat : Int)) - (65536 : Int))), .int .i64 (a + (2 : Int)), .int .i64 0]) = _
      rw [ref16 _ _ B0.out B1.out] at hbig ⊢
      rw [ref16b _ _ B0.out B1.out hbig]; rfl
    · have hbig : ¬ (32768 : Int) ≤ wrap64 (wrap64 ((256 : Int) * wrap64 (r[0].toNat : Int)) + wrap64 (r[1].toNat : Int)) := by (have h : wrap64 (wrap64 ((256 : Int) * wrap64 (r[0].toNat : Int)) + wrap64 (r[1].toNat : Int)) < (32768 : Int) := by assumption); omega
      go_ret3
      refine ⟨?_, below_drewN (Below.refl _ _) _⟩
      show Ending.returned (.tuple #[.int .i64 (wrap64 (wrap64 ((256 : Int) * wrap64 (r[0].toNat : Int)) + wrap64 (r[1].toNat : Int))), .int .i64 (a + (2 : Int)), .int .i64 0]) = _
      rw [ref16 _ _ B0.out B1.out] at hbig ⊢
      rw [ref16c _ _ B0.out B1.out hbig]; rfl

theorem ref32 (m : Nat) (b : Nat) (hm : m < 16777216) (hb : b < 2 ^ 8) : Value.int .i64 (wrap64 (wrap64 ((256 : Int) * (m : Int)) + wrap64 (b : Int))) = Value.int .i64 ((m * 256 + b : Nat) : Int) := by
  congr 1; unfold wrap64; omega

theorem ref32b (n : Nat) (h : n < 256 ^ 4) (h2 : (2147483648 : Int) ≤ (n : Int)) : wrap64 ((n : Int) - (4294967296 : Int)) = sgn32 n := by
  unfold sgn32 wrap64; rw [if_neg (by omega)]; omega
theorem ref32c (n : Nat) (h2 : (n : Int) < (2147483648 : Int)) : (n : Int) = sgn32 n := by
  unfold sgn32; rw [if_pos (by omega)]

/-- the bytes of s from A on, byte by byte -/
theorem ext_get (s : ByteArray) (A k : Nat) (h : k < (s.extract A s.size).size) (h2 : A + k < s.size) : (s.extract A s.size)[k] = s[A + k] := ByteArray.getElem_extract h

theorem rgetText_any (s : ByteArray) (a : Int) (w : World) (hs : s.size ≤ 281474976710656) :
    Calls Tryz.prog 113 #[.string s, .int .i64 a] w fun e w' => e = .returned (res3 (gText s a)) ∧ w' = w := by
  by_cases h0 : a < 0
  · have e : gText s a = (⟨#[]⟩, 0, 1) := by unfold gText; rw [if_pos (by unfold insB; exact decide_eq_false (by omega))]
    rw [e]; clear e
    go_enter Tryz.func113, Tryz.ntmps113
    go_wp2
    go_ret3
    exact ⟨rfl, rfl⟩
  · by_cases h1 : (s.size : Int) < a
    · have e : gText s a = (⟨#[]⟩, 0, 1) := by unfold gText; rw [if_pos (by unfold insB; exact decide_eq_false (by omega))]
      rw [e]; clear e
      go_enter Tryz.func113, Tryz.ntmps113
      go_wp2
      go_ret3
      exact ⟨rfl, rfl⟩
    · obtain ⟨A, rfl⟩ : ∃ A : Nat, a = A := ⟨a.toNat, by omega⟩
      have hA : A ≤ s.size := by omega
      have hi : insB s.size A = true := by unfold insB; exact decide_eq_true (by omega)
      obtain ⟨b, hb⟩ : ∃ b, s.extract A s.size = b := ⟨_, rfl⟩
      have hbs : b.size = s.size - A := by rw [← hb]; simp
      have hz := zix_le b
      have hbit : ∀ k, k < b.size → ∀ h2 : A + k < s.size, (h : k < b.size) → b[k] = s[A + k] := by
        intro k _ h2 h; subst hb; exact ext_get s A k h h2
      have G := Lib.hid (show gText s A = if zix b < b.size then (s.extract A (A + zix b), (A : Int) + zix b + 1, 0) else (⟨#[]⟩, 0, 3) by
        unfold gText
        rw [if_neg (by rw [hi]; decide), Int.toNat_natCast, hb]
        by_cases hx : Lib.indexByte b.data.toList 0 = -1
        · rw [if_pos hx, if_neg (by unfold zix; rw [if_pos hx]; omega)]
        · obtain ⟨g1, g2⟩ := zix_lt b hx
          rw [if_neg hx, if_pos g1, g2, show ((A : Int) + (zix b : Int)).toNat = A + zix b by omega])
      have hm := Lib.hid hbit
      have hbs2 : b.size ≤ s.size - A := by omega
      have hbs3 : s.size - A ≤ b.size := by omega
      clear hbit hb hbs hi
      go_enter Tryz.func113, Tryz.ntmps113
      go_wp2
      go_loop [7] (fun i => ∃ k : Nat, k ≤ zix b ∧ i = .int .i64 ((A + k : Nat) : Int)) (fun i => s.size - (intOf i).toNat)
      case atStart => exact ⟨0, Nat.zero_le _, rfl⟩
      case round =>
        obtain ⟨k, hk, rfl⟩ := hrel
        by_cases hlt : k < zix b
        · have h3 : A + k < s.size := by omega
          have h4 : k < b.size := by omega
          have h5 := zix_ne b k hlt h4
          rw [hm.out k h4 h3 h4] at h5
          have h6 : ((s[A + k].toNat : Int) == 0) = false := by have := toNat_ne _ h5; simpa using this
          clear h5
          go_wp2
          go_round
          case rel => exact ⟨k + 1, by omega, by go_num⟩
          case measure => simp [intOf]; omega
        · have e : k = zix b := by omega
          by_cases h3 : zix b < b.size
          · have h7 : A + k < s.size := by omega
            have h4 : k < b.size := by omega
            have h5 : b[k] = 0 := by subst e; exact zix_eq b h3
            rw [hm.out k h4 h7 h4] at h5
            have h6 : ((s[A + k].toNat : Int) == 0) = true := by rw [h5]; rfl
            have G2 := Lib.hid (show gText s A = (s.extract A (A + k), (A : Int) + k + 1, 0) by rw [G.out, if_pos h3, e])
            clear h5 e G
            have f1 : (A : Int) ≤ (A : Int) + (k : Int) := by omega
            have f2 : (A : Int) + (k : Int) ≤ s.size := by omega
            have f3 : 0 ≤ (A : Int) + (k : Int) := by omega
            have f4 : ((A : Int) + (k : Int)).toNat = A + k := by omega
            go_wp2
            go_ret3
            rw [G2.out]
            exact ⟨rfl, rfl⟩
          · have h7 : ¬ A + k < s.size := by omega
            have G2 := Lib.hid (show gText s A = (⟨#[]⟩, 0, 3) by rw [G.out, if_neg h3])
            clear e G
            go_wp2
            go_ret3
            rw [G2.out]
            exact ⟨rfl, rfl⟩
end Go.Proofs.YtjngangojgjceaaGreat
namespace Go.Proofs.YtjngangojgjceaaGreat.CA
open Go.ChangeShapes Go.WideShapes Go.ChangeAt Go.RowKit Go.Maps Go.ChangeMaps
open Go.Proofs.YtjngangojgjceaaGreat.SL Go.Proofs.YtjngangojgjceaaGreat.EX Go.Proofs.YtjngangojgjceaaGreat.RW
set_option maxRecDepth 100000
set_option linter.unusedVariables false
set_option linter.unusedSimpArgs false

theorem cln_zix {t : ByteArray} : cln t = true ↔ zix t = t.size := by
  unfold cln
  rw [decide_eq_true_iff]
  constructor
  · intro h; unfold zix; rw [if_pos h]
  · intro h
    by_cases hx : Lib.indexByte t.data.toList 0 = -1
    · exact hx
    · have := (zix_lt t hx).1; omega
theorem toNat_ne0 (b : UInt8) (h : b ≠ 0) : ((b.toNat : Int) == 0) = false := by
  simp; intro e; apply h; exact UInt8.toNat_inj.1 e
set_option maxHeartbeats 2000000 in
theorem rplain_any (t : ByteArray) (w : World) (ht : t.size ≤ 281474976710656) :
    Calls Tryz.prog 76 #[.string t] w fun e w' => e = .returned (.bool (cln t)) ∧ w = w' := by
  have hz := zix_le t
  obtain ⟨R, hR⟩ : ∃ R, cln t = R := ⟨_, rfl⟩
  have HR : Hid (R = true ↔ zix t = t.size) := Lib.hid (by rw [← hR]; exact cln_zix)
  rw [hR]
  have HZ := Lib.hid hz
  clear hR
  go_enter Tryz.func76, Tryz.ntmps76
  go_wp2
  go_loopg [3] (zix t + 1) (fun g u3 wx => ∃ i : Nat, u3 = .int .i64 (i : Int) ∧ i + g = zix t + 1 ∧ 0 < g ∧ w = wx)
  case atStart => exact ⟨0, rfl, by omega, by omega, rfl⟩
  case round =>
    obtain ⟨i, rfl, hi, hg, rfl⟩ := hrel
    cases gk with
    | zero => omega
    | succ g =>
      by_cases hlt : i < zix t
      · have h1 : i < t.size := by omega
        have h2 := toNat_ne0 _ (zix_ne t i hlt h1)
        have l0 : (0 : Int) ≤ (i : Int) := by omega
        have l1 : (i : Int) < (t.size : Int) := by omega
        obtain ⟨i1, hi1⟩ : ∃ i1, i + 1 = i1 := ⟨_, rfl⟩
        have wk : IntKind.i64.wrap ((i : Int) + 1) = (i1 : Int) := by rw [show (i : Int) + 1 = (i1 : Int) by omega]; exact IntWalk.i64_in _ (by omega)
        have HI1 : Hid (i1 + g = zix t + 1 ∧ 0 < g) := Lib.hid (by omega)
        clear hi hi1 hlt hz
        go_wp2
        go_roundg g
        case measure => exact Nat.lt_succ_self _
        case rel => exact ⟨i1, rfl, HI1.out.1, HI1.out.2, rfl⟩
      · have e : i = zix t := by omega
        subst e
        by_cases h1 : zix t < t.size
        · have h2 := zix_eq t h1
          have h4 : ((t[zix t].toNat : Int) == 0) = true := by rw [h2]; rfl
          have l0 : (0 : Int) ≤ (zix t : Int) := by omega
          have l1 : (zix t : Int) < (t.size : Int) := by omega
          have HF : Hid (R = false) := Lib.hid (by cases R; rfl; exact absurd (HR.out.1 rfl) (by omega))
          clear h2 hi hlt hz
          go_wp2
          go_ret
          exact ⟨by rw [HF.out]; rfl, rfl⟩
        · have l1 : ¬ ((zix t : Int) < (t.size : Int)) := by omega
          have HF : Hid (R = true) := Lib.hid (HR.out.2 (by omega))
          clear hi hlt hz h1
          go_wp2
          go_ret
          exact ⟨by rw [HF.out]; rfl, rfl⟩
set_option maxHeartbeats 4000000 in
theorem rright_any (k : Ky) (hk : FitK k) (w : World) :
    Calls Tryz.prog 38 #[kyV k] w fun e w' => e = .returned (.bool (rightK k)) ∧ Below w.heap.size w w' := by
  obtain ⟨db, ro, fm, no⟩ := k
  obtain ⟨h1, h2, h3, _⟩ := hk
  simp only at h1 h2 h3
  have c1 := Lib.hid (fun w => rplain_any db w (by omega))
  have c2 := Lib.hid (fun w => rplain_any ro w (by omega))
  have c3 := Lib.hid (fun w => rplain_any no w (by omega))
  obtain ⟨kb, hkb⟩ : ∃ b, w.heap.size = b := ⟨_, rfl⟩
  obtain ⟨W0, hW0⟩ : ∃ W, w.alloc (.cells (kC (db, ro, fm, no)) 42) = W := ⟨_, rfl⟩
  have hb0 : Below w.heap.size w W0 := by rw [← hW0]; exact (Below.refl _ _).alloc (Nat.le_refl _) _
  have kk : Bk W0 kb 42 (kC (db, ro, fm, no)) := by rw [← hW0, ← hkb]; exact Bk.new _ _ _
  have a0 : W0.cell? ⟨kb, 0, none⟩ = some (.string db) := kk.cell 0
  have a1 : W0.cell? ⟨kb, 1, none⟩ = some (.string ro) := kk.cell 1
  have a2 : W0.cell? ⟨kb, 2, none⟩ = some (.int .i64 fm) := kk.cell 2
  have a3 : W0.cell? ⟨kb, 3, none⟩ = some (.string no) := kk.cell 3
  have HB := Lib.hid hb0
  obtain ⟨R, hR⟩ : ∃ R, rightK (db, ro, fm, no) = R := ⟨_, rfl⟩
  have HR : Hid (R = (cln db && cln ro && cln no && (decide (fm = 0) || decide (fm = 1)))) := Lib.hid (by rw [← hR]; rfl)
  rw [hR]
  clear hb0 kk h1 h2 h3 hR
  cases d1 : cln db with
  | false =>
    rw [d1] at c1 HR
    clear c2 c3 d1
    go_enter Tryz.func38, Tryz.ntmps38
    go_wp2_with fail
    try rw [hW0]
    refine (c1.out _).mono ?_
    rintro e w' ⟨rfl, rfl⟩
    go_wp2
    go_ret
    exact ⟨by rw [HR.out]; rfl, HB.out⟩
  | true =>
    rw [d1] at c1 HR
    cases d2 : cln ro with
    | false =>
      rw [d2] at c2 HR
      clear c3 d1 d2
      go_enter Tryz.func38, Tryz.ntmps38
      go_wp2_with fail
      try rw [hW0]
      refine (c1.out _).mono ?_
      rintro e w' ⟨rfl, rfl⟩
      go_wp2_with fail
      try rw [hW0]
      refine (c2.out _).mono ?_
      rintro e w' ⟨rfl, rfl⟩
      go_wp2
      go_ret
      exact ⟨by rw [HR.out]; rfl, HB.out⟩
    | true =>
      rw [d2] at c2 HR
      cases d3 : cln no with
      | false =>
        rw [d3] at c3 HR
        clear d1 d2 d3
        go_enter Tryz.func38, Tryz.ntmps38
        go_wp2_with fail
        try rw [hW0]
        refine (c1.out _).mono ?_
        rintro e w' ⟨rfl, rfl⟩
        go_wp2_with fail
        try rw [hW0]
        refine (c2.out _).mono ?_
        rintro e w' ⟨rfl, rfl⟩
        go_wp2_with fail
        try rw [hW0]
        refine (c3.out _).mono ?_
        rintro e w' ⟨rfl, rfl⟩
        go_wp2
        go_ret
        exact ⟨by rw [HR.out]; rfl, HB.out⟩
      | true =>
        rw [d3] at c3 HR
        clear d1 d2 d3
        by_cases f0 : fm = 0
        · subst f0
          go_enter Tryz.func38, Tryz.ntmps38
          go_wp2_with fail
          try rw [hW0]
          refine (c1.out _).mono ?_
          rintro e w' ⟨rfl, rfl⟩
          go_wp2_with fail
          try rw [hW0]
          refine (c2.out _).mono ?_
          rintro e w' ⟨rfl, rfl⟩
          go_wp2_with fail
          try rw [hW0]
          refine (c3.out _).mono ?_
          rintro e w' ⟨rfl, rfl⟩
          go_wp2
          go_ret
          exact ⟨by rw [HR.out]; rfl, HB.out⟩
        · have f1 : (fm == 0) = false := beq_eq_false_iff_ne.2 f0
          rw [decide_eq_false f0] at HR
          clear f0
          go_enter Tryz.func38, Tryz.ntmps38
          go_wp2_with fail
          try rw [hW0]
          refine (c1.out _).mono ?_
          rintro e w' ⟨rfl, rfl⟩
          go_wp2_with fail
          try rw [hW0]
          refine (c2.out _).mono ?_
          rintro e w' ⟨rfl, rfl⟩
          go_wp2_with fail
          try rw [hW0]
          refine (c3.out _).mono ?_
          rintro e w' ⟨rfl, rfl⟩
          go_wp2
          go_ret
          exact ⟨by rw [HR.out]; rfl, HB.out⟩
set_option maxHeartbeats 4000000 in
theorem rtext_any (k : Ky) (hk : FitK k) (w : World) :
    Calls Tryz.prog 39 #[kyV k] w fun e w' => e = .returned (.string (txt k)) ∧ Below w.heap.size w w' := by
  have HRT := Lib.hid (fun w => rright_any k hk w)
  obtain ⟨db, ro, fm, no⟩ := k
  obtain ⟨h1, h2, h3, h4⟩ := hk
  simp only at h1 h2 h3 h4
  obtain ⟨R, hR⟩ : ∃ R, txt (db, ro, fm, no) = R := ⟨_, rfl⟩
  rw [hR]
  have HR := Lib.hid hR
  obtain ⟨g0, hg0⟩ : ∃ g, w.heap.size = g := ⟨_, rfl⟩
  obtain ⟨W, hW⟩ : ∃ W, w.alloc (.cells #[.string db, .string ro, .int .i64 fm, .string no] 42) = W := ⟨_, rfl⟩
  have hbW : Below w.heap.size w W := by rw [← hW]; exact (Below.refl _ _).alloc (Nat.le_refl _) _
  have ka : Bk W g0 42 (kC (db, ro, fm, no)) := by rw [← hW, ← hg0]; exact Bk.new _ _ _
  have a0 : W.cell? ⟨g0, 0, none⟩ = some (.string db) := ka.cell 0
  have a1 : W.cell? ⟨g0, 1, none⟩ = some (.string ro) := ka.cell 1
  have a2 : W.cell? ⟨g0, 2, none⟩ = some (.int .i64 fm) := ka.cell 2
  have a3 : W.cell? ⟨g0, 3, none⟩ = some (.string no) := ka.cell 3
  have HBW := Lib.hid hbW
  have HKA := Lib.hid ka
  clear hbW ka hR
  have HH1 := Lib.hid h1
  have HH2 := Lib.hid h2
  have HH3 := Lib.hid h3
  clear h1 h2 h3 h4
  go_enter Tryz.func39, Tryz.ntmps39
  go_wp2_with fail
  try rw [hW, hg0]
  refine (HRT.out W).mono ?_
  cases hr : rightK (db, ro, fm, no) with
  | false =>
    rintro e w1 ⟨rfl, hb1⟩
    have HT : Hid (R = ⟨#[]⟩) := Lib.hid (by rw [← HR.out]; exact txt_not hr)
    have HB1 := Lib.hid hb1
    clear hr hb1
    go_wp2
    go_ret
    exact ⟨by rw [HT.out]; rfl, HBW.out.trans (HB1.out.mono HBW.out.size)⟩
  | true =>
    rintro e w1 ⟨rfl, hb1⟩
    have HT : Hid (R = putText (put16 (putText (putText ⟨#[]⟩ db) ro) fm) no) := Lib.hid (by rw [← HR.out]; exact txt_right hr)
    have k1 := HKA.out.below hb1
    have HK := Lib.hid k1
    have HB := Lib.hid (HBW.out.trans (hb1.mono HBW.out.size))
    have c0 : w1.cell? ⟨g0, 0, none⟩ = some (.string db) := k1.cell 0
    have c1 : w1.cell? ⟨g0, 1, none⟩ = some (.string ro) := k1.cell 1
    have c2 : w1.cell? ⟨g0, 2, none⟩ = some (.int .i64 fm) := k1.cell 2
    have c3 : w1.cell? ⟨g0, 3, none⟩ = some (.string no) := k1.cell 3
    clear hr hb1 a0 a1 a2 a3 k1 HKA HBW
    obtain ⟨P1, hP1⟩ : ∃ P, putText ⟨#[]⟩ db = P := ⟨_, rfl⟩
    obtain ⟨P2, hP2⟩ : ∃ P, putText P1 ro = P := ⟨_, rfl⟩
    obtain ⟨P3, hP3⟩ : ∃ P, put16 P2 fm = P := ⟨_, rfl⟩
    have hs1 : P1.size ≤ 1099511627777 := by rw [← hP1]; refine Nat.le_trans (putText_le _ _) ?_; have := HH1.out; show 0 + _ + 1 ≤ _; omega
    have hs2 : P2.size ≤ 2199023255554 := by rw [← hP2]; refine Nat.le_trans (putText_le _ _) ?_; have := HH2.out; omega
    have hs3 : P3.size ≤ 2199023255556 := by rw [← hP3]; unfold put16; rw [ByteArray.size_append]; have z : (⟨#[byt (fm / 256), byt fm]⟩ : ByteArray).size = 2 := rfl; omega
    rw [hP1, hP2, hP3] at HT
    have HS1 := Lib.hid hs1
    have HS2 := Lib.hid hs2
    have HS3 := Lib.hid hs3
    have HP1 := Lib.hid hP1
    have HP2 := Lib.hid hP2
    have HP3 := Lib.hid hP3
    clear hs1 hs2 hs3 hP1 hP2 hP3
    go_wp2_with fail
    refine wp_region_held_drew (S := (fun w' => w'.cell? ⟨g0, 0, none⟩ = some (.string db) ∧ w'.cell? ⟨g0, 1, none⟩ = some (.string ro) ∧ w'.cell? ⟨g0, 2, none⟩ = some (.int .i64 fm) ∧ w'.cell? ⟨g0, 3, none⟩ = some (.string no))) (by kernel_rfl) ?_ (fun hS => ?_)
    · exact ⟨c0, c1, c2, c3⟩
    refine tkY 0 ?_ rfl hS ?_ ?_
    rotate_left
    · intro wz hz
      obtain ⟨z0, z1, z2, z3⟩ := hz
      go_simp
      all_goals first | with_reducible rfl | omega
    try simp only [Act.put, pu]
    refine tkY 1 ?_ rfl hS ?_ ?_
    rotate_left
    · intro wz hz
      obtain ⟨z0, z1, z2, z3⟩ := hz
      go_simp
      all_goals first | with_reducible rfl | omega
    try simp only [Act.put, pu]
    refine tkY 3 ?_ rfl hS ?_ ?_
    rotate_left
    · intro wz hz
      obtain ⟨z0, z1, z2, z3⟩ := hz
      go_simp
      all_goals first | with_reducible rfl | omega
    try simp only [Act.put, pu]
    refine tkY 4 ?_ rfl hS ?_ ?_
    rotate_left
    · intro wz hz
      obtain ⟨z0, z1, z2, z3⟩ := hz
      go_simp
      all_goals first | with_reducible rfl | omega
    try simp only [Act.put, pu]
    refine tkY 6 ?_ rfl hS ?_ ?_
    rotate_left
    · intro wz hz
      obtain ⟨z0, z1, z2, z3⟩ := hz
      go_simp
      all_goals first | with_reducible rfl | omega
    try simp only [Act.put, pu]
    refine tkY 7 ?_ rfl hS ?_ ?_
    rotate_left
    · intro wz hz
      obtain ⟨z0, z1, z2, z3⟩ := hz
      go_simp
      all_goals first | with_reducible rfl | omega
    try simp only [Act.put, pu]
    refine tkY 9 ?_ rfl hS ?_ ?_
    rotate_left
    · intro wz hz
      obtain ⟨z0, z1, z2, z3⟩ := hz
      go_simp
      all_goals first | with_reducible rfl | omega
    try simp only [Act.put, pu]
    refine tkY 10 ?_ rfl hS ?_ ?_
    rotate_left
    · intro wz hz
      obtain ⟨z0, z1, z2, z3⟩ := hz
      go_simp
      all_goals first | with_reducible rfl | omega
    try simp only [Act.put, pu]
    refine wpAnyH_ready (rs := [2]) (by kernel_rfl) (by simp) (AllReadyH.cons rfl (fun K' hK' => ?_) AllReadyH.nil)
    go_simp
    refine (rputText_any ⟨#[]⟩ db _ (by decide) (by have := HH1.out; omega)).mono ?_
    rintro e w2 ⟨rfl, rfl⟩
    refine hK'.out _ _ ?_ (fun hSn => ?_)
    · exact hS
    clear hK' K' hS
    have hS := hSn
    clear hSn
    try simp only [Act.put, pu]
    rw [HP1.out]
    refine wpAnyH_ready (rs := [5]) (by kernel_rfl) (by simp) (AllReadyH.cons rfl (fun K' hK' => ?_) AllReadyH.nil)
    go_simp
    refine (rputText_any P1 ro _ (by have := HS1.out; omega) (by have := HH2.out; omega)).mono ?_
    rintro e w3 ⟨rfl, rfl⟩
    refine hK'.out _ _ ?_ (fun hSn => ?_)
    · exact hS
    clear hK' K' hS
    have hS := hSn
    clear hSn
    try simp only [Act.put, pu]
    rw [HP2.out]
    refine wpAnyH_ready (rs := [8]) (by kernel_rfl) (by simp) (AllReadyH.cons rfl (fun K' hK' => ?_) AllReadyH.nil)
    go_simp
    refine (rput16_any P2 fm (by have := HS2.out; omega) _).mono ?_
    rintro e w4 ⟨rfl, hb4⟩
    have hbd : Below w1.heap.size w1 w1.drew := (Below.refl _ _).drew
    have hb4 := hbd.trans (hb4.mono hbd.size)
    have k2 := HK.out.below hb4
    have HB := Lib.hid (HB.out.trans (hb4.mono HB.out.size))
    clear hb4 hbd
    refine hK'.out _ _ ?_ (fun hSn => ?_)
    · exact ⟨k2.cell 0, k2.cell 1, k2.cell 2, k2.cell 3⟩
    clear hK' K' hS
    have hS := hSn
    clear hSn
    try simp only [Act.put, pu]
    clear k2
    rw [HP3.out]
    refine wpAnyH_ready (rs := [11]) (by kernel_rfl) (by simp) (AllReadyH.cons rfl (fun K' hK' => ?_) AllReadyH.nil)
    go_simp
    refine (rputText_any P3 no _ (by have := HS3.out; omega) (by have := HH3.out; omega)).mono ?_
    rintro e w5 ⟨rfl, rfl⟩
    refine hK'.out _ _ ?_ (fun hSn => ?_)
    · exact hS
    clear hK' K' hS
    have hS := hSn
    clear hSn
    try simp only [Act.put, pu]
    refine tkY 12 ?_ rfl hS ?_ ?_
    rotate_left
    · intro wz hz
      go_simp
      all_goals first | with_reducible rfl | omega
    try simp only [Act.put, pu]
    refine wpAnyH_done (by kernel_rfl) ?_ _
    clear hS
    clear c0 c1 c2 c3
    go_wp2
    go_ret
    exact ⟨by rw [HT.out]; rfl, HB.out⟩
set_option maxHeartbeats 4000000 in
theorem rsize_any (k : Ky) (v : ByteArray) (hk : FitK k) (hv : v.size ≤ 1099511627776) (w : World) :
    Calls Tryz.prog 41 #[kyV k, .string v] w fun e w' => e = .returned (.int .i64 (szK k v)) ∧ Below w.heap.size w w' := by
  obtain ⟨kb, hkb⟩ : ∃ g, w.heap.size = g := ⟨_, rfl⟩
  obtain ⟨W, hW⟩ : ∃ W, w.alloc (.cells (kC k) 42) = W := ⟨_, rfl⟩
  have hbW : Below w.heap.size w W := by rw [← hW]; exact (Below.refl _ _).alloc (Nat.le_refl _) _
  have ka : Bk W kb 42 (kC k) := by rw [← hW, ← hkb]; exact Bk.new _ _ _
  have HRT := Lib.hid (rright_any k hk W)
  have HC := Lib.hid (fun W => rtext_any k hk W)
  have HB := Lib.hid hbW
  have HKA := Lib.hid ka
  obtain ⟨R, hR⟩ : ∃ R, szK k v = R := ⟨_, rfl⟩
  rw [hR]
  cases hr : rightK k with
  | false =>
    have HR : Hid (R = 0) := Lib.hid (by rw [← hR]; unfold szK; rw [if_neg (by rw [hr]; decide)])
    rw [hr] at HRT
    clear hbW hR hr hk hv HC
    obtain ⟨db, ro, fm, no⟩ := k
    have a0 : W.cell? ⟨kb, 0, none⟩ = some (.string db) := ka.cell 0
    have a1 : W.cell? ⟨kb, 1, none⟩ = some (.string ro) := ka.cell 1
    have a2 : W.cell? ⟨kb, 2, none⟩ = some (.int .i64 fm) := ka.cell 2
    have a3 : W.cell? ⟨kb, 3, none⟩ = some (.string no) := ka.cell 3
    clear ka
    go_enter Tryz.func41, Tryz.ntmps41
    go_wp2_with fail
    try rw [hW, hkb]
    refine HRT.out.mono ?_
    rintro e w1 ⟨rfl, hb1⟩
    have HB := Lib.hid (HB.out.trans (hb1.mono HB.out.size))
    clear hb1
    go_wp2
    go_ret
    exact ⟨by rw [HR.out]; rfl, HB.out⟩
  | true =>
    have hts := text_size hr
    obtain ⟨h1, h2, h3, _⟩ := hk
    have HR0 : R = 16 + ((textK k).size : Int) + (v.size : Int) := by rw [← hR]; unfold szK; rw [if_pos hr]
    rw [txt_right hr] at HC
    rw [hr] at HRT
    obtain ⟨P, hP⟩ : ∃ P, textK k = P := ⟨_, rfl⟩
    rw [hP] at HC HR0 hts
    have HR := Lib.hid HR0
    clear HR0
    have w1 : IntKind.i64.wrap (16 + (P.size : Int)) = 16 + (P.size : Int) := IntWalk.i64_in _ (by omega)
    have w2 : IntKind.i64.wrap (16 + (P.size : Int) + (v.size : Int)) = 16 + (P.size : Int) + (v.size : Int) := IntWalk.i64_in _ (by omega)
    clear hbW hR hr hv h1 h2 h3 hts hP
    obtain ⟨db, ro, fm, no⟩ := k
    have a0 : W.cell? ⟨kb, 0, none⟩ = some (.string db) := ka.cell 0
    have a1 : W.cell? ⟨kb, 1, none⟩ = some (.string ro) := ka.cell 1
    have a2 : W.cell? ⟨kb, 2, none⟩ = some (.int .i64 fm) := ka.cell 2
    have a3 : W.cell? ⟨kb, 3, none⟩ = some (.string no) := ka.cell 3
    clear ka
    go_enter Tryz.func41, Tryz.ntmps41
    go_wp2_with fail
    try rw [hW, hkb]
    refine HRT.out.mono ?_
    rintro e w3 ⟨rfl, hb1⟩
    have HB := Lib.hid (HB.out.trans (hb1.mono HB.out.size))
    have ka := HKA.out.below hb1
    clear hb1 HRT a0 a1 a2 a3 hW hkb
    have a0 : w3.cell? ⟨kb, 0, none⟩ = some (.string db) := ka.cell 0
    have a1 : w3.cell? ⟨kb, 1, none⟩ = some (.string ro) := ka.cell 1
    have a2 : w3.cell? ⟨kb, 2, none⟩ = some (.int .i64 fm) := ka.cell 2
    have a3 : w3.cell? ⟨kb, 3, none⟩ = some (.string no) := ka.cell 3
    clear ka
    go_wp2_with fail
    refine (HC.out _).mono ?_
    rintro e w4 ⟨rfl, hb1⟩
    have HB := Lib.hid (HB.out.trans (hb1.mono HB.out.size))
    clear hb1 HC a0 a1 a2 a3
    go_wp2
    go_ret
    exact ⟨by rw [HR.out]; rfl, HB.out⟩
theorem rgt_to (s : ByteArray) (a : Int) (hs : s.size ≤ 281474976710656) (x : ByteArray) (p e : Int) (h : gText s a = (x, p, e)) (w : World) :
    Calls Tryz.prog 113 #[.string s, .int .i64 a] w fun r w' => r = .returned (.tuple #[.string x, .int .i64 p, .int .i64 e]) ∧ Below w.heap.size w w' := by
  have := rgetText_any s a w hs
  rw [h] at this
  exact this.mono fun e w' hh => ⟨hh.1, by rw [hh.2]; exact Below.refl _ _⟩
theorem rgn_to (s : ByteArray) (a : Int) (hs : s.size ≤ 281474976710656) (x : Int) (p e : Int) (h : g16 s a = (x, p, e)) (w : World) :
    Calls Tryz.prog 114 #[.string s, .int .i64 a] w fun r w' => r = .returned (.tuple #[.int .i64 x, .int .i64 p, .int .i64 e]) ∧ Below w.heap.size w w' := by
  have := rget16_any s a w hs
  rw [h] at this
  exact this
set_option maxHeartbeats 4000000 in
theorem rparse_any (s : ByteArray) (hs : s.size ≤ 1099511627776) (w : World) :
    Calls Tryz.prog 82 #[.string s] w (ParP s w) := by
  obtain ⟨⟨x1, p1, e1⟩, h1⟩ : ∃ r, gText s 0 = r := ⟨_, rfl⟩
  obtain ⟨⟨x2, p2, e2⟩, h2⟩ : ∃ r, gText s p1 = r := ⟨_, rfl⟩
  obtain ⟨⟨n, p3, e3⟩, h3⟩ : ∃ r, g16 s p2 = r := ⟨_, rfl⟩
  obtain ⟨⟨x4, p4, e4⟩, h4⟩ : ∃ r, gText s p3 = r := ⟨_, rfl⟩
  have hrd : readK s = (x1, x2, n, x4) := by unfold readK; rw [h1]; simp only; rw [h2]; simp only; rw [h3]; simp only; rw [h4]
  have hle := read_le s
  have hin := g16_in s p2
  rw [hrd] at hle
  rw [h3] at hin
  simp only at hle hin
  have hfit : FitK (x1, x2, n, x4) := ⟨by show x1.size ≤ _; omega, by show x2.size ≤ _; omega, by show x4.size ≤ _; omega, by show _ ≤ n; omega, by show n ≤ _; omega⟩
  obtain ⟨T, hT⟩ : ∃ T, txt (x1, x2, n, x4) = T := ⟨_, rfl⟩
  have htr := txt_read s
  rw [hrd, hT] at htr
  have hpar : parK s = if okP s = true then (x1, x2, n, x4) else zK := by unfold parK; rw [hrd]
  have c1 := fun w => rgt_to s 0 (by omega) _ _ _ h1 w
  have c2 := fun w => rgt_to s p1 (by omega) _ _ _ h2 w
  have c3 := fun w => rgn_to s p2 (by omega) _ _ _ h3 w
  have c4 := fun w => rgt_to s p3 (by omega) _ _ _ h4 w
  have c5 := fun w => rtext_any (x1, x2, n, x4) hfit w
  have c6 := fun w => rright_any (x1, x2, n, x4) hfit w
  have hob : okP s = (rightK (x1, x2, n, x4) && decide (textK (x1, x2, n, x4) = s)) := by unfold okP; rw [hrd]
  have C6 := Lib.hid c6
  rw [hT] at c5
  obtain ⟨K, hK⟩ : ∃ K, parK s = K := ⟨_, rfl⟩
  obtain ⟨B, hB⟩ : ∃ B, okP s = B := ⟨_, rfl⟩
  unfold ParP
  rw [hB] at htr hob
  have HOB := Lib.hid hob
  rw [hB, hK] at hpar
  rw [hB, hK]
  have HTR := Lib.hid htr
  have HPAR := Lib.hid hpar
  have C1 := Lib.hid c1
  have C2 := Lib.hid c2
  have C3 := Lib.hid c3
  have C4 := Lib.hid c4
  have C5 := Lib.hid c5
  clear h1 h2 h3 h4 hrd hle hin hfit hT htr hpar c1 c2 c3 c4 c5 c6 hob hK hB hs
  obtain ⟨rb, hrb⟩ : ∃ g, w.heap.size = g := ⟨_, rfl⟩
  obtain ⟨W, hW⟩ : ∃ W, w.alloc (.cells zkC 42) = W := ⟨_, rfl⟩
  have hbW : Below w.heap.size w W := by rw [← hW]; exact (Below.refl _ _).alloc (Nat.le_refl _) _
  have ka : Bk W rb 42 zkC := by rw [← hW, ← hrb]; exact Bk.new _ _ _
  have HB := Lib.hid hbW
  have HK := Lib.hid ka
  have HRB : Hid (w.heap.size ≤ rb) := Lib.hid (by omega)
  clear hbW ka
  go_enter Tryz.func82, Tryz.ntmps82
  go_wp2_with fail
  try rw [hW]
  try rw [hrb]
  refine (C1.out _).mono ?_
  rintro e w1 ⟨rfl, hb⟩
  have HK := Lib.hid (HK.out.below hb)
  have HB := Lib.hid (HB.out.trans (hb.mono HB.out.size))
  clear hb hW
  go_wp2_with fail
  refine (C2.out _).mono ?_
  rintro e w2 ⟨rfl, hb⟩
  have HK := Lib.hid (HK.out.below hb)
  have HB := Lib.hid (HB.out.trans (hb.mono HB.out.size))
  clear hb
  go_wp2_with fail
  refine (C3.out _).mono ?_
  rintro e w3 ⟨rfl, hb⟩
  have HK := Lib.hid (HK.out.below hb)
  have HB := Lib.hid (HB.out.trans (hb.mono HB.out.size))
  clear hb
  go_wp2_with fail
  refine (C4.out _).mono ?_
  rintro e w4 ⟨rfl, hb⟩
  have HK := Lib.hid (HK.out.below hb)
  have HB := Lib.hid (HB.out.trans (hb.mono HB.out.size))
  clear hb
  obtain ⟨kb, hkb⟩ : ∃ g, w4.heap.size = g := ⟨_, rfl⟩
  obtain ⟨W, hW⟩ : ∃ W, w4.alloc (.cells #[.string x1, .string x2, .int .i64 n, .string x4] 42) = W := ⟨_, rfl⟩
  have hbW : Below w4.heap.size w4 W := by rw [← hW]; exact (Below.refl _ _).alloc (Nat.le_refl _) _
  have kk : Bk W kb 42 #[.string x1, .string x2, .int .i64 n, .string x4] := by rw [← hW, ← hkb]; exact Bk.new _ _ _
  have HKK := Lib.hid kk
  have HKB : Hid (rb < kb) := Lib.hid (by rw [← hkb]; exact HK.out.lt)
  have HK := Lib.hid (HK.out.below hbW)
  have HB := Lib.hid (HB.out.trans (hbW.mono HB.out.size))
  have q0 : W.cell? ⟨kb, 0, none⟩ = some (.string x1) := kk.cell 0
  have q1 : W.cell? ⟨kb, 1, none⟩ = some (.string x2) := kk.cell 1
  have q2 : W.cell? ⟨kb, 2, none⟩ = some (.int .i64 n) := kk.cell 2
  have q3 : W.cell? ⟨kb, 3, none⟩ = some (.string x4) := kk.cell 3
  clear hbW kk
  go_wp2_with fail
  try rw [hW]
  try rw [hkb]
  cases hr : rightK (x1, x2, n, x4) with
  | false =>
    rw [hr] at C6 HOB
    refine (C6.out _).mono ?_
    rintro e w6 ⟨rfl, hb⟩
    have kk := HKK.out.below hb
    have kr := HK.out.below hb
    have HKR := Lib.hid kr
    have HB := Lib.hid (HB.out.trans (hb.mono HB.out.size))
    have r0 : w6.cell? ⟨rb, 0, none⟩ = some (.string ⟨#[]⟩) := kr.cell 0
    have r1 : w6.cell? ⟨rb, 1, none⟩ = some (.string ⟨#[]⟩) := kr.cell 1
    have r2 : w6.cell? ⟨rb, 2, none⟩ = some (.int .i64 0) := kr.cell 2
    have r3 : w6.cell? ⟨rb, 3, none⟩ = some (.string ⟨#[]⟩) := kr.cell 3
    have f0 := kr.frozen 0
    have f1 := kr.frozen 1
    have f2 := kr.frozen 2
    have f3 := kr.frozen 3
    have hBf : B = false := by rw [HOB.out]; rfl
    subst hBf
    clear hb kk kr hW HK HKK HTR C1 C2 C3 C4 C5 C6 hr q0 q1 q2 q3
    have HE : Hid (K = zK) := Lib.hid (by rw [HPAR.out, if_neg (by decide)])
    clear HPAR
    go_wp2
    have k0 := (((HKR.out.set_ 0 (.string ⟨#[]⟩)).set_ 1 (.string ⟨#[]⟩)).set_ 2 (.int .i64 0)).set_ 3 (.string ⟨#[]⟩)
    have hb3 := (((HB.out.setCell (p := ⟨rb, 0, none⟩) (HRB.out) (.string ⟨#[]⟩)).setCell (p := ⟨rb, 1, none⟩) (HRB.out) (.string ⟨#[]⟩)).setCell (p := ⟨rb, 2, none⟩) (HRB.out) (.int .i64 0)).setCell (p := ⟨rb, 3, none⟩) (HRB.out) (.string ⟨#[]⟩)
    obtain ⟨W3, hW3⟩ : ∃ W, (((w6.setCell ⟨rb, 0, none⟩ (.string ⟨#[]⟩)).setCell ⟨rb, 1, none⟩ (.string ⟨#[]⟩)).setCell ⟨rb, 2, none⟩ (.int .i64 0)).setCell ⟨rb, 3, none⟩ (.string ⟨#[]⟩) = W := ⟨_, rfl⟩
    rw [hW3] at k0 hb3 ⊢
    have e0 : W3.cell? ⟨rb, 0, none⟩ = some (.string ⟨#[]⟩) := k0.cell 0
    have e1 : W3.cell? ⟨rb, 1, none⟩ = some (.string ⟨#[]⟩) := k0.cell 1
    have e2 : W3.cell? ⟨rb, 2, none⟩ = some (.int .i64 0) := k0.cell 2
    have e3 : W3.cell? ⟨rb, 3, none⟩ = some (.string ⟨#[]⟩) := k0.cell 3
    exact bodyPost_ret (v := .tuple #[kyV zK, .bool false]) (by simp [results, Tryz.results82, go_sem, e0, e1, e2, e3, zK]) rfl ⟨by rw [HE.out], hb3⟩
  | true =>
    rw [hr] at C6
    refine (C6.out _).mono ?_
    rintro e w5 ⟨rfl, hb⟩
    have HKK := Lib.hid (HKK.out.below hb)
    have HK := Lib.hid (HK.out.below hb)
    have HB := Lib.hid (HB.out.trans (hb.mono HB.out.size))
    have q0 : w5.cell? ⟨kb, 0, none⟩ = some (.string x1) := HKK.out.cell 0
    have q1 : w5.cell? ⟨kb, 1, none⟩ = some (.string x2) := HKK.out.cell 1
    have q2 : w5.cell? ⟨kb, 2, none⟩ = some (.int .i64 n) := HKK.out.cell 2
    have q3 : w5.cell? ⟨kb, 3, none⟩ = some (.string x4) := HKK.out.cell 3
    clear hb hr
    go_wp2_with fail
    refine (C5.out _).mono ?_
    rintro e w6 ⟨rfl, hb⟩
    have kk := HKK.out.below hb
    have kr := HK.out.below hb
    have HKR := Lib.hid kr
    have HB := Lib.hid (HB.out.trans (hb.mono HB.out.size))
    have q0 : w6.cell? ⟨kb, 0, none⟩ = some (.string x1) := kk.cell 0
    have q1 : w6.cell? ⟨kb, 1, none⟩ = some (.string x2) := kk.cell 1
    have q2 : w6.cell? ⟨kb, 2, none⟩ = some (.int .i64 n) := kk.cell 2
    have q3 : w6.cell? ⟨kb, 3, none⟩ = some (.string x4) := kk.cell 3
    have r0 : w6.cell? ⟨rb, 0, none⟩ = some (.string ⟨#[]⟩) := kr.cell 0
    have r1 : w6.cell? ⟨rb, 1, none⟩ = some (.string ⟨#[]⟩) := kr.cell 1
    have r2 : w6.cell? ⟨rb, 2, none⟩ = some (.int .i64 0) := kr.cell 2
    have r3 : w6.cell? ⟨rb, 3, none⟩ = some (.string ⟨#[]⟩) := kr.cell 3
    have f0 := kr.frozen 0
    have f1 := kr.frozen 1
    have f2 := kr.frozen 2
    have f3 := kr.frozen 3
    have es : (T.toList == s.toList) = B := by
      rw [tl_dec, Bool.eq_iff_iff, decide_eq_true_iff]; exact HTR.out
    clear hb kk kr hW HK HKK HTR C1 C2 C3 C4 C5 C6
    cases B with
    | true =>
      have HE : Hid (K = (x1, x2, n, x4)) := Lib.hid (by rw [HPAR.out, if_pos rfl])
      clear HPAR
      go_wp2
      have k0 := (((HKR.out.set_ 0 (.string x1)).set_ 1 (.string x2)).set_ 2 (.int .i64 n)).set_ 3 (.string x4)
      have hb3 := (((HB.out.setCell (p := ⟨rb, 0, none⟩) (HRB.out) (.string x1)).setCell (p := ⟨rb, 1, none⟩) (HRB.out) (.string x2)).setCell (p := ⟨rb, 2, none⟩) (HRB.out) (.int .i64 n)).setCell (p := ⟨rb, 3, none⟩) (HRB.out) (.string x4)
      obtain ⟨W3, hW3⟩ : ∃ W, (((w6.setCell ⟨rb, 0, none⟩ (.string x1)).setCell ⟨rb, 1, none⟩ (.string x2)).setCell ⟨rb, 2, none⟩ (.int .i64 n)).setCell ⟨rb, 3, none⟩ (.string x4) = W := ⟨_, rfl⟩
      rw [hW3] at k0 hb3 ⊢
      have e0 : W3.cell? ⟨rb, 0, none⟩ = some (.string x1) := k0.cell 0
      have e1 : W3.cell? ⟨rb, 1, none⟩ = some (.string x2) := k0.cell 1
      have e2 : W3.cell? ⟨rb, 2, none⟩ = some (.int .i64 n) := k0.cell 2
      have e3 : W3.cell? ⟨rb, 3, none⟩ = some (.string x4) := k0.cell 3
      exact bodyPost_ret (v := .tuple #[kyV (x1, x2, n, x4), .bool true]) (by simp [results, Tryz.results82, go_sem, e0, e1, e2, e3]) rfl ⟨by rw [HE.out], hb3⟩
    | false =>
      have HE : Hid (K = zK) := Lib.hid (by rw [HPAR.out, if_neg (by decide)])
      clear HPAR
      go_wp2
      have k0 := (((HKR.out.set_ 0 (.string ⟨#[]⟩)).set_ 1 (.string ⟨#[]⟩)).set_ 2 (.int .i64 0)).set_ 3 (.string ⟨#[]⟩)
      have hb3 := (((HB.out.setCell (p := ⟨rb, 0, none⟩) (HRB.out) (.string ⟨#[]⟩)).setCell (p := ⟨rb, 1, none⟩) (HRB.out) (.string ⟨#[]⟩)).setCell (p := ⟨rb, 2, none⟩) (HRB.out) (.int .i64 0)).setCell (p := ⟨rb, 3, none⟩) (HRB.out) (.string ⟨#[]⟩)
      obtain ⟨W3, hW3⟩ : ∃ W, (((w6.setCell ⟨rb, 0, none⟩ (.string ⟨#[]⟩)).setCell ⟨rb, 1, none⟩ (.string ⟨#[]⟩)).setCell ⟨rb, 2, none⟩ (.int .i64 0)).setCell ⟨rb, 3, none⟩ (.string ⟨#[]⟩) = W := ⟨_, rfl⟩
      rw [hW3] at k0 hb3 ⊢
      have e0 : W3.cell? ⟨rb, 0, none⟩ = some (.string ⟨#[]⟩) := k0.cell 0
      have e1 : W3.cell? ⟨rb, 1, none⟩ = some (.string ⟨#[]⟩) := k0.cell 1
      have e2 : W3.cell? ⟨rb, 2, none⟩ = some (.int .i64 0) := k0.cell 2
      have e3 : W3.cell? ⟨rb, 3, none⟩ = some (.string ⟨#[]⟩) := k0.cell 3
      exact bodyPost_ret (v := .tuple #[kyV zK, .bool false]) (by simp [results, Tryz.results82, go_sem, e0, e1, e2, e3, zK]) rfl ⟨by rw [HE.out], hb3⟩
end Go.Proofs.YtjngangojgjceaaGreat.CA
namespace Go.Proofs.YtjngangojgjceaaGreat.CA
open Go.ChangeShapes Go.WideShapes Go.ChangeAt Go.RowKit Go.Maps Go.ChangeMaps
open Go.Proofs.YtjngangojgjceaaGreat.SL Go.Proofs.YtjngangojgjceaaGreat.EX Go.Proofs.YtjngangojgjceaaGreat.RW
set_option maxRecDepth 100000
set_option linter.unusedVariables false
set_option linter.unusedSimpArgs false

theorem neq_rk (a b : Ky) (w : World) : (binOp .neq 42 (kyV a) (kyV b)).run Tryz.prog w = .ok (.bool (!eqK a b)) w := by
  obtain ⟨a1, a2, a3, a4⟩ := a
  obtain ⟨b1, b2, b3, b4⟩ := b
  unfold eqK
  cases h1 : (a1.toList == b1.toList) <;> cases h2 : (a2.toList == b2.toList) <;> cases h3 : (a3 == b3) <;> cases h4 : (a4.toList == b4.toList) <;> go_simp
set_option maxHeartbeats 2000000 in
theorem lplain_any (k : Ky) (w : World) : Calls Tryz.prog 10 #[kyV k] w fun e w' => e = .returned (kyV k) ∧ Below w.heap.size w w' := by
  obtain ⟨db, ro, fm, no⟩ := k
  obtain ⟨kb, hkb⟩ : ∃ b, w.heap.size = b := ⟨_, rfl⟩
  obtain ⟨W0, hW0⟩ : ∃ W, w.alloc (.cells (kC (db, ro, fm, no)) 32) = W := ⟨_, rfl⟩
  have hb0 : Below w.heap.size w W0 := by rw [← hW0]; exact (Below.refl _ _).alloc (Nat.le_refl _) _
  have k0 : Bk W0 kb 32 (kC (db, ro, fm, no)) := by rw [← hW0, ← hkb]; exact Bk.new _ _ _
  obtain ⟨rb, hrb⟩ : ∃ b, W0.heap.size = b := ⟨_, rfl⟩
  obtain ⟨W1, hW1⟩ : ∃ W, W0.alloc (.cells zkC 42) = W := ⟨_, rfl⟩
  have hb1 : Below w.heap.size w W1 := by rw [← hW1]; exact hb0.alloc hb0.size _
  have k1 : Bk W1 rb 42 zkC := by rw [← hW1, ← hrb]; exact Bk.new _ _ _
  have k0 : Bk W1 kb 32 (kC (db, ro, fm, no)) := by rw [← hW1]; exact k0.alloc _
  have hrw : w.heap.size ≤ rb := by rw [← hrb]; exact hb0.size
  have a0 : W1.cell? ⟨kb, 0, none⟩ = some (.string db) := k0.cell 0
  have a1 : W1.cell? ⟨kb, 1, none⟩ = some (.string ro) := k0.cell 1
  have a2 : W1.cell? ⟨kb, 2, none⟩ = some (.int .i64 fm) := k0.cell 2
  have a3 : W1.cell? ⟨kb, 3, none⟩ = some (.string no) := k0.cell 3
  have r0 : W1.cell? ⟨rb, 0, none⟩ = some (.string ⟨#[]⟩) := k1.cell 0
  have r1 : W1.cell? ⟨rb, 1, none⟩ = some (.string ⟨#[]⟩) := k1.cell 1
  have r2 : W1.cell? ⟨rb, 2, none⟩ = some (.int .i64 0) := k1.cell 2
  have r3 : W1.cell? ⟨rb, 3, none⟩ = some (.string ⟨#[]⟩) := k1.cell 3
  have f0 := k1.frozen 0
  have f1 := k1.frozen 1
  have f2 := k1.frozen 2
  have f3 := k1.frozen 3
  have HB := Lib.hid hb1
  have HKR := Lib.hid k1
  have HRB := Lib.hid hrw
  clear hb0 hb1 k0 k1 hrw
  go_enter Tryz.func10, Tryz.ntmps10
  go_wp2
  try rw [hW0]
  try rw [hkb]
  try rw [hW1]
  try rw [hrb]
  have k0 := (((HKR.out.set_ 0 (.string db)).set_ 1 (.string ro)).set_ 2 (.int .i64 fm)).set_ 3 (.string no)
  have hb3 := (((HB.out.setCell (p := ⟨rb, 0, none⟩) (HRB.out) (.string db)).setCell (p := ⟨rb, 1, none⟩) (HRB.out) (.string ro)).setCell (p := ⟨rb, 2, none⟩) (HRB.out) (.int .i64 fm)).setCell (p := ⟨rb, 3, none⟩) (HRB.out) (.string no)
  obtain ⟨W3, hW3⟩ : ∃ W, (((W1.setCell ⟨rb, 0, none⟩ (.string db)).setCell ⟨rb, 1, none⟩ (.string ro)).setCell ⟨rb, 2, none⟩ (.int .i64 fm)).setCell ⟨rb, 3, none⟩ (.string no) = W := ⟨_, rfl⟩
  rw [hW3] at k0 hb3 ⊢
  have e0 : W3.cell? ⟨rb, 0, none⟩ = some (.string db) := k0.cell 0
  have e1 : W3.cell? ⟨rb, 1, none⟩ = some (.string ro) := k0.cell 1
  have e2 : W3.cell? ⟨rb, 2, none⟩ = some (.int .i64 fm) := k0.cell 2
  have e3 : W3.cell? ⟨rb, 3, none⟩ = some (.string no) := k0.cell 3
  exact bodyPost_ret (v := kyV (db, ro, fm, no)) (by simp [results, Tryz.results10, go_sem, e0, e1, e2, e3]) rfl ⟨rfl, by first | exact hb3 | (rw [← hkb]; exact hb3)⟩
set_option maxHeartbeats 4000000 in
theorem same_any (v1 v2 : Value) (d : List Ky) (w : World) (h1 : KR w v1 d) (h2 : KR w v2 d) (hl : d.length ≤ 1099511627776) :
    Calls Tryz.prog 11 #[v1, v2] w fun e w' => e = .returned (.bool true) ∧ Below w.heap.size w w' := by
  obtain ⟨a1, c1, rfl⟩ := h1.form
  obtain ⟨a2, c2, rfl⟩ := h2.form
  have H1 := Lib.hid h1
  have H2 := Lib.hid h2
  have HL := Lib.hid hl
  have HP := Lib.hid lplain_any
  clear h1 h2 hl
  go_enter Tryz.func11, Tryz.ntmps11
  go_wp2
  go_loopg [5] d.length (fun g u5 wx => ∃ i : Nat, u5 = .int .i64 (i : Int) ∧ i + g = d.length ∧ Below w.heap.size w wx)
  case atStart => exact ⟨0, rfl, by omega, Below.refl _ _⟩
  case round =>
    obtain ⟨i, rfl, hi, hB⟩ := hrel
    have HB := Lib.hid hB
    cases gk with
    | zero =>
      have hil : i = d.length := by omega
      have l1 : ¬ ((i : Int) < (d.length : Int)) := by omega
      clear hi hil hB
      go_wp2
      go_ret
      exact ⟨rfl, HB.out⟩
    | succ g =>
      have hlt : i < d.length := by omega
      obtain ⟨b, off, cap, he, hc, hx⟩ := (H1.out.below hB).inv (by omega)
      obtain ⟨b', off', cap', he', hc', hx'⟩ := (H2.out.below hB).inv (by omega)
      injection he with e1 _ e3
      injection he' with e1' _ e3'
      subst e1 e3 e1' e3'
      obtain ⟨y, hy⟩ : ∃ y, d[i] = y := ⟨_, rfl⟩
      have hyi : d[i]? = some y := by rw [List.getElem?_eq_getElem hlt, hy]
      obtain ⟨x0, x1, x2, x3⟩ := hx i y hyi
      obtain ⟨y0, y1, y2, y3⟩ := hx' i y hyi
      have hlt1 : b < wr.heap.size := World.block_lt_of_cell? _ _ x0
      have hlt2 : b' < wr.heap.size := World.block_lt_of_cell? _ _ y0
      have l0 : (0 : Int) ≤ (i : Int) := by omega
      have l1 : (i : Int) < (d.length : Int) := by omega
      obtain ⟨i1, hi1⟩ : ∃ i1, i + 1 = i1 := ⟨_, rfl⟩
      have wk : IntKind.i64.wrap ((i : Int) + 1) = (i1 : Int) := by rw [show (i : Int) + 1 = (i1 : Int) by omega]; exact IntWalk.i64_in _ (by have := HL.out; omega)
      have HI1 : Hid (i1 + g = d.length) := Lib.hid (by omega)
      have HN := Lib.hid (fun W => neq_rk y y W)
      rw [show (!eqK y y) = false by rw [eqK_iff.2 rfl]; rfl] at HN
      obtain ⟨db, ro, fm, no⟩ := y
      simp only at x0 x1 x2 x3 y0 y1 y2 y3
      have HB1 := Lib.hid hlt1
      have HB2 := Lib.hid hlt2
      clear hi hx hx' hc hc' hy hyi hi1 hB hlt hlt1 hlt2
      have hn := HN.out
      go_wp2_with fail
      refine wp_region_held_drew (S := (fun w' => Below wr.heap.size wr w')) (by kernel_rfl) ?_ (fun hS => ?_)
      · exact (Below.refl _ _).drew
      refine tkY 0 ?_ rfl hS ?_ ?_
      rotate_left
      · intro wz hz
        have z0 := (hz.cell (p := ⟨b, off + i * 4, none⟩) HB1.out).trans x0
        have z1 := (hz.cell (p := ⟨b, off + i * 4 + 1, none⟩) HB1.out).trans x1
        have z2 := (hz.cell (p := ⟨b, off + i * 4 + 2, none⟩) HB1.out).trans x2
        have z3 := (hz.cell (p := ⟨b, off + i * 4 + 3, none⟩) HB1.out).trans x3
        have t0 := (hz.cell (p := ⟨b', off' + i * 4, none⟩) HB2.out).trans y0
        have t1 := (hz.cell (p := ⟨b', off' + i * 4 + 1, none⟩) HB2.out).trans y1
        have t2 := (hz.cell (p := ⟨b', off' + i * 4 + 2, none⟩) HB2.out).trans y2
        have t3 := (hz.cell (p := ⟨b', off' + i * 4 + 3, none⟩) HB2.out).trans y3
        go_simp
        all_goals first | with_reducible rfl | omega
      try simp only [Act.put, pu]
      refine tkY 1 ?_ rfl hS ?_ ?_
      rotate_left
      · intro wz hz
        have z0 := (hz.cell (p := ⟨b, off + i * 4, none⟩) HB1.out).trans x0
        have z1 := (hz.cell (p := ⟨b, off + i * 4 + 1, none⟩) HB1.out).trans x1
        have z2 := (hz.cell (p := ⟨b, off + i * 4 + 2, none⟩) HB1.out).trans x2
        have z3 := (hz.cell (p := ⟨b, off + i * 4 + 3, none⟩) HB1.out).trans x3
        have t0 := (hz.cell (p := ⟨b', off' + i * 4, none⟩) HB2.out).trans y0
        have t1 := (hz.cell (p := ⟨b', off' + i * 4 + 1, none⟩) HB2.out).trans y1
        have t2 := (hz.cell (p := ⟨b', off' + i * 4 + 2, none⟩) HB2.out).trans y2
        have t3 := (hz.cell (p := ⟨b', off' + i * 4 + 3, none⟩) HB2.out).trans y3
        go_simp
        all_goals first | with_reducible rfl | omega
      try simp only [Act.put, pu]
      refine tkY 2 ?_ rfl hS ?_ ?_
      rotate_left
      · intro wz hz
        have z0 := (hz.cell (p := ⟨b, off + i * 4, none⟩) HB1.out).trans x0
        have z1 := (hz.cell (p := ⟨b, off + i * 4 + 1, none⟩) HB1.out).trans x1
        have z2 := (hz.cell (p := ⟨b, off + i * 4 + 2, none⟩) HB1.out).trans x2
        have z3 := (hz.cell (p := ⟨b, off + i * 4 + 3, none⟩) HB1.out).trans x3
        have t0 := (hz.cell (p := ⟨b', off' + i * 4, none⟩) HB2.out).trans y0
        have t1 := (hz.cell (p := ⟨b', off' + i * 4 + 1, none⟩) HB2.out).trans y1
        have t2 := (hz.cell (p := ⟨b', off' + i * 4 + 2, none⟩) HB2.out).trans y2
        have t3 := (hz.cell (p := ⟨b', off' + i * 4 + 3, none⟩) HB2.out).trans y3
        go_simp
        all_goals first | with_reducible rfl | omega
      try simp only [Act.put, pu]
      refine tkY 3 ?_ rfl hS ?_ ?_
      rotate_left
      · intro wz hz
        have z0 := (hz.cell (p := ⟨b, off + i * 4, none⟩) HB1.out).trans x0
        have z1 := (hz.cell (p := ⟨b, off + i * 4 + 1, none⟩) HB1.out).trans x1
        have z2 := (hz.cell (p := ⟨b, off + i * 4 + 2, none⟩) HB1.out).trans x2
        have z3 := (hz.cell (p := ⟨b, off + i * 4 + 3, none⟩) HB1.out).trans x3
        have t0 := (hz.cell (p := ⟨b', off' + i * 4, none⟩) HB2.out).trans y0
        have t1 := (hz.cell (p := ⟨b', off' + i * 4 + 1, none⟩) HB2.out).trans y1
        have t2 := (hz.cell (p := ⟨b', off' + i * 4 + 2, none⟩) HB2.out).trans y2
        have t3 := (hz.cell (p := ⟨b', off' + i * 4 + 3, none⟩) HB2.out).trans y3
        go_simp
        all_goals first | with_reducible rfl | omega
      try simp only [Act.put, pu]
      refine tkY 5 ?_ rfl hS ?_ ?_
      rotate_left
      · intro wz hz
        have z0 := (hz.cell (p := ⟨b, off + i * 4, none⟩) HB1.out).trans x0
        have z1 := (hz.cell (p := ⟨b, off + i * 4 + 1, none⟩) HB1.out).trans x1
        have z2 := (hz.cell (p := ⟨b, off + i * 4 + 2, none⟩) HB1.out).trans x2
        have z3 := (hz.cell (p := ⟨b, off + i * 4 + 3, none⟩) HB1.out).trans x3
        have t0 := (hz.cell (p := ⟨b', off' + i * 4, none⟩) HB2.out).trans y0
        have t1 := (hz.cell (p := ⟨b', off' + i * 4 + 1, none⟩) HB2.out).trans y1
        have t2 := (hz.cell (p := ⟨b', off' + i * 4 + 2, none⟩) HB2.out).trans y2
        have t3 := (hz.cell (p := ⟨b', off' + i * 4 + 3, none⟩) HB2.out).trans y3
        go_simp
        all_goals first | with_reducible rfl | omega
      try simp only [Act.put, pu]
      refine tkY 6 ?_ rfl hS ?_ ?_
      rotate_left
      · intro wz hz
        have z0 := (hz.cell (p := ⟨b, off + i * 4, none⟩) HB1.out).trans x0
        have z1 := (hz.cell (p := ⟨b, off + i * 4 + 1, none⟩) HB1.out).trans x1
        have z2 := (hz.cell (p := ⟨b, off + i * 4 + 2, none⟩) HB1.out).trans x2
        have z3 := (hz.cell (p := ⟨b, off + i * 4 + 3, none⟩) HB1.out).trans x3
        have t0 := (hz.cell (p := ⟨b', off' + i * 4, none⟩) HB2.out).trans y0
        have t1 := (hz.cell (p := ⟨b', off' + i * 4 + 1, none⟩) HB2.out).trans y1
        have t2 := (hz.cell (p := ⟨b', off' + i * 4 + 2, none⟩) HB2.out).trans y2
        have t3 := (hz.cell (p := ⟨b', off' + i * 4 + 3, none⟩) HB2.out).trans y3
        go_simp
        all_goals first | with_reducible rfl | omega
      try simp only [Act.put, pu]
      refine tkY 7 ?_ rfl hS ?_ ?_
      rotate_left
      · intro wz hz
        have z0 := (hz.cell (p := ⟨b, off + i * 4, none⟩) HB1.out).trans x0
        have z1 := (hz.cell (p := ⟨b, off + i * 4 + 1, none⟩) HB1.out).trans x1
        have z2 := (hz.cell (p := ⟨b, off + i * 4 + 2, none⟩) HB1.out).trans x2
        have z3 := (hz.cell (p := ⟨b, off + i * 4 + 3, none⟩) HB1.out).trans x3
        have t0 := (hz.cell (p := ⟨b', off' + i * 4, none⟩) HB2.out).trans y0
        have t1 := (hz.cell (p := ⟨b', off' + i * 4 + 1, none⟩) HB2.out).trans y1
        have t2 := (hz.cell (p := ⟨b', off' + i * 4 + 2, none⟩) HB2.out).trans y2
        have t3 := (hz.cell (p := ⟨b', off' + i * 4 + 3, none⟩) HB2.out).trans y3
        go_simp
        all_goals first | with_reducible rfl | omega
      try simp only [Act.put, pu]
      refine tkY 8 ?_ rfl hS ?_ ?_
      rotate_left
      · intro wz hz
        have z0 := (hz.cell (p := ⟨b, off + i * 4, none⟩) HB1.out).trans x0
        have z1 := (hz.cell (p := ⟨b, off + i * 4 + 1, none⟩) HB1.out).trans x1
        have z2 := (hz.cell (p := ⟨b, off + i * 4 + 2, none⟩) HB1.out).trans x2
        have z3 := (hz.cell (p := ⟨b, off + i * 4 + 3, none⟩) HB1.out).trans x3
        have t0 := (hz.cell (p := ⟨b', off' + i * 4, none⟩) HB2.out).trans y0
        have t1 := (hz.cell (p := ⟨b', off' + i * 4 + 1, none⟩) HB2.out).trans y1
        have t2 := (hz.cell (p := ⟨b', off' + i * 4 + 2, none⟩) HB2.out).trans y2
        have t3 := (hz.cell (p := ⟨b', off' + i * 4 + 3, none⟩) HB2.out).trans y3
        go_simp
        all_goals first | with_reducible rfl | omega
      try simp only [Act.put, pu]
      refine wpAnyH_ready (rs := [4]) (by kernel_rfl) (by simp) (AllReadyH.cons rfl (fun K' hK' => ?_) AllReadyH.nil)
      go_simp
      have hbd : Below wr.heap.size wr wr.drew := (Below.refl _ _).drew
      refine (HP.out (db, ro, fm, no) wr.drew).mono ?_
      rintro e w4 ⟨rfl, b4⟩
      have HB4 := Lib.hid (hbd.trans (b4.mono hbd.size))
      clear b4 hbd
      refine hK'.out _ _ ?_ (fun hSn => ?_)
      · exact HB4.out
      clear hK' K' hS
      have hS := hSn
      clear hSn
      try simp only [Act.put, pu]
      refine tkY 9 ?_ rfl hS ?_ ?_
      rotate_left
      · intro wz hz
        go_simp
        all_goals first | with_reducible rfl | omega
      try simp only [Act.put, pu]
      refine wpAnyH_done (by kernel_rfl) ?_ _
      clear hS
      clear x0 x1 x2 x3 y0 y1 y2 y3 hn
      go_wp2
      go_roundg g
      case measure => exact Nat.lt_succ_self _
      case rel => exact ⟨i1, rfl, HI1.out, HB.out.trans (HB4.out.mono HB.out.size)⟩
theorem riKey : ∃ i z, Tryz.prog.info? 42 = some i ∧ i.zero = some z ∧ i.size = 4 ∧ i.bytes = 56 ∧ z.cells.size = 4 := by
  have h : (Tryz.prog.info? 42).bind (fun i => if i.size = 4 ∧ i.bytes = 56 then i.zero else none) = some (.agg zkC) := by kernel_rfl
  cases hi : Tryz.prog.info? 42 with
  | none => rw [hi] at h; cases h
  | some j =>
    rw [hi] at h
    by_cases hc : j.size = 4 ∧ j.bytes = 56
    · simp only [Option.bind_some, if_pos hc] at h
      exact ⟨j, _, rfl, h, hc.1, hc.2, rfl⟩
    · simp [hc] at h
def RKeysC (d : List Ky) (w : World) (e : Ending) (w' : World) : Prop := ∃ a c, e = .returned (.slice a d.length c) ∧ KO 42 w.heap.size w' (.slice a d.length c) d ∧ Below w.heap.size w w'
set_option maxHeartbeats 4000000 in
theorem rkeys_any (v : Value) (l : List ByteArray) (w : World) (h : TS w v l) (hl : l.length ≤ 1099511627776) (hs : ∀ t ∈ l, t.size ≤ 1099511627776) :
    Calls Tryz.prog 44 #[v] w (RKeysC (l.map parK) w) := by
  obtain ⟨va, vc, rfl⟩ := h.form
  have HE := Lib.hid h
  have HLEN := Lib.hid hl
  have HS := Lib.hid hs
  clear h hl hs
  unfold RKeysC
  go_enter Tryz.func44, Tryz.ntmps44
  go_wp2
  go_loopg [3, 4] l.length (fun g u3 u4 wx => ∃ i : Nat, u4 = .int .i64 (i : Int) ∧ i + g = l.length ∧ KO 42 w.heap.size wx u3 ((l.take i).map parK) ∧ Below w.heap.size w wx)
  case atStart => exact ⟨0, rfl, by omega, KO.nil _ _ _, Below.refl _ _⟩
  case round =>
    obtain ⟨i, rfl, hi, hO, hB⟩ := hrel
    obtain ⟨ua, uc, rfl⟩ := hO.form
    have HO := Lib.hid hO
    have HB := Lib.hid hB
    cases gk with
    | zero =>
      have hil : i = l.length := by omega
      have l1 : ¬ ((i : Int) < (l.length : Int)) := by omega
      have hD : (l.take i).map parK = l.map parK := by rw [hil, List.take_length]
      rw [hD] at HO ⊢
      have HO := Lib.hid HO.out
      clear hi hil hO hB hD
      go_wp2
      go_ret
      exact ⟨_, _, rfl, by have := HO.out; rw [List.length_map] at this; exact this, HB.out⟩
    | succ g =>
      have hlt : i < l.length := by omega
      obtain ⟨b, off, cap, he, hc, hx⟩ := (HE.out.below hB).inv (by omega)
      injection he with e1 _ e3
      subst e1 e3
      obtain ⟨y, hy⟩ : ∃ y, l[i] = y := ⟨_, rfl⟩
      have hyi : l[i]? = some y := by rw [List.getElem?_eq_getElem hlt, hy]
      have x0 := hx i y hyi
      have l0 : (0 : Int) ≤ (i : Int) := by omega
      have l1 : (i : Int) < (l.length : Int) := by omega
      obtain ⟨i1, hi1⟩ : ∃ i1, i + 1 = i1 := ⟨_, rfl⟩
      have wk : IntKind.i64.wrap ((i : Int) + 1) = (i1 : Int) := by rw [show (i : Int) + 1 = (i1 : Int) by omega]; exact IntWalk.i64_in _ (by have := HLEN.out; omega)
      have hk : (l.take i1).map parK = (l.take i).map parK ++ [parK y] := by rw [← hi1, List.take_add_one, hyi, List.map_append]; rfl
      obtain ⟨D, hD⟩ : ∃ D, (l.take i).map parK = D := ⟨_, rfl⟩
      have HDL : Hid (D.length ≤ 1099511627776) := Lib.hid (by rw [← hD, List.length_map, List.length_take]; have := HLEN.out; omega)
      rw [hD] at hk
      have HC := Lib.hid (fun w => rparse_any y (HS.out y (List.mem_of_getElem? hyi)) w)
      obtain ⟨K, hK⟩ : ∃ K, parK y = K := ⟨_, rfl⟩
      unfold ParP at HC
      rw [hK] at hk HC
      have HK := Lib.hid hk
      have HO := Lib.hid (show KO 42 w.heap.size wr (.slice ua D.length uc) D by rw [← hD]; exact hO)
      have HI1 : Hid (i1 + g = l.length) := Lib.hid (by omega)
      obtain ⟨db, ro, fm, no⟩ := K
      rw [hD]
      clear hi hx hc hy hyi hi1 hk hO hB hlt hD hK
      go_wp2_with fail
      refine (HC.out _).mono ?_
      rintro e w2 ⟨rfl, hb2⟩
      have HO := Lib.hid (HO.out.below hb2)
      have HB := Lib.hid (HB.out.trans (hb2.mono HB.out.size))
      obtain ⟨W3, hW3⟩ : ∃ W, w2.alloc (.cells #[.string db, .string ro, .int .i64 fm, .string no] 42) = W := ⟨_, rfl⟩
      obtain ⟨eb, heb⟩ : ∃ b, w2.heap.size = b := ⟨_, rfl⟩
      have hb3 : Below w2.heap.size w2 W3 := by rw [← hW3]; exact (Below.refl _ _).alloc (Nat.le_refl _) _
      have ke : Bk W3 eb 42 (kC (db, ro, fm, no)) := by rw [← hW3, ← heb]; exact Bk.new _ _ _
      have e0 : W3.cell? ⟨eb, 0, none⟩ = some (.string db) := ke.cell 0
      have e1 : W3.cell? ⟨eb, 1, none⟩ = some (.string ro) := ke.cell 1
      have e2 : W3.cell? ⟨eb, 2, none⟩ = some (.int .i64 fm) := ke.cell 2
      have e3 : W3.cell? ⟨eb, 3, none⟩ = some (.string no) := ke.cell 3
      obtain ⟨W4, hW4⟩ : ∃ W, W3.alloc (.cells #[.string db, .string ro, .int .i64 fm, .string no] 42) = W := ⟨_, rfl⟩
      obtain ⟨nb, hnb⟩ : ∃ b, W3.heap.size = b := ⟨_, rfl⟩
      have hb4 : Below w2.heap.size w2 W4 := by rw [← hW4]; exact hb3.alloc hb3.size _
      have kn : Bk W4 nb 42 (kC (db, ro, fm, no)) := by rw [← hW4, ← hnb]; exact Bk.new _ _ _
      have HO := Lib.hid (HO.out.below hb4)
      have HB := Lib.hid (HB.out.trans (hb4.mono HB.out.size))
      have HKN := Lib.hid kn
      clear hb2 hb3 hb4 kn ke HC
      go_wp2_with (at_builtin; (try rw [hW3]); (try rw [heb]); (try rw [hW4]); (try rw [hnb]); refine wpList_app_key 42 39 Tryz.underlying39 riKey w.heap.size (.slice ua D.length uc) D (db, ro, fm, no) nb rfl _ _ rfl rfl HO.out rfl HKN.out HDL.out HB.out.size ?_; intro g9 cap9 w9 o9 gr9)
      have HB9 : Hid (Below w.heap.size w w9) := Lib.hid (HB.out.grown gr9 HB.out.size fun k hk => (World.ownsRow.lt HO.out k hk).1)
      have HO9 := Lib.hid o9
      clear o9 gr9
      go_wp2
      go_roundg g
      case measure => exact Nat.lt_succ_self _
      case rel =>
        refine ⟨i1, rfl, HI1.out, ?_, HB9.out⟩
        rw [HK.out]
        have := HO9.out
        rw [List.length_append] at this
        exact this
end Go.Proofs.YtjngangojgjceaaGreat.CA
namespace Go.Proofs.YtjngangojgjceaaGreat.CA
open Go.ChangeShapes Go.WideShapes Go.ChangeAt Go.RowKit Go.Maps Go.ChangeMaps
open Go.Proofs.YtjngangojgjceaaGreat.SL Go.Proofs.YtjngangojgjceaaGreat.EX Go.Proofs.YtjngangojgjceaaGreat.RW
set_option maxRecDepth 100000
set_option linter.unusedVariables false
set_option linter.unusedSimpArgs false

/-- all blocks of a type are as they were -/
def KT (w w' : World) (t : TypeId) : Prop := ∀ (b : Nat) (cur : Array Value) (fz : Nat × Nat), w.heap[b]? = some (.cells cur t fz) → w'.heap[b]? = w.heap[b]?
section
variable {w w' w0 : World} {t : TypeId}
theorem KT.below (hb : Below w.heap.size w w') (t : TypeId) : KT w w' t := fun b cur fz h => hb.block b (Array.getElem?_eq_some_iff.1 h).1
theorem KT.chg {S : Nat → Prop} (hc : Chg S w w') (hS : ∀ b, S b → ∀ (cur : Array Value) (fz : Nat × Nat), w.heap[b]? ≠ some (.cells cur t fz)) : KT w w' t := fun b cur fz h => hc.block b (Array.getElem?_eq_some_iff.1 h).1 fun hs => hS b hs cur fz h
theorem KT.bk (h : KT w w' t) {b : Nat} {cs : Array Value} (k : Bk w b t cs) : Bk w' b t cs := (h b _ _ k).trans k
theorem row_ty {B z n : Nat} {v : Value} {xs : List Value} (h : w.ownsRow B t z v n xs) {b : Nat} (hb : v.ownBlock = some b) : ∃ cur fz, w.heap[b]? = some (.cells cur t fz) := by
  rcases h.2 with ⟨rfl, _⟩ | ⟨q, cap, cur, rfl, hbb, hg, hr⟩
  · cases hb
  · injection hb with hb
    subst hb
    exact ⟨cur, _, hg⟩
theorem row_keep {B z n : Nat} {v : Value} {xs : List Value} (h : w.ownsRow B t z v n xs) (hk : KT w w' t) : w'.ownsRow B t z v n xs := by
  have hb : ∀ b, v.ownBlock = some b → w'.heap[b]? = w.heap[b]? := fun b hb => by
    obtain ⟨cur, fz, h2⟩ := row_ty h hb
    exact hk b cur fz h2
  refine ⟨h.1, ?_⟩
  rcases h.2 with h2 | ⟨q, cap, cur, rfl, hbb, hg, hr⟩
  · exact .inl h2
  · exact .inr ⟨q, cap, cur, rfl, hbb, (hb q rfl).trans hg, hr⟩
end
/-- a text and its value -/
abbrev Pr : Type := ByteArray × ByteArray
def pRow (p : Pr) : List Value := [.string p.1, .string p.2]
def pRs (l : List Pr) : List Value := fz (l.map pRow)
theorem pUni (l : List Pr) : Uni 2 (l.map pRow) := fun r hr => by
  obtain ⟨k, _, rfl⟩ := List.mem_map.1 hr; rfl
theorem pRs_app (a b : List Pr) : pRs (a ++ b) = pRs a ++ pRs b := by unfold pRs; rw [List.map_append, fz_append]
theorem pRs_at {l : List Pr} {i : Nat} {p : Pr} (h : l[i]? = some p) (j : Nat) (hj : j < 2) : (pRs l)[i * 2 + j]? = (pRow p)[j]? := by
  unfold pRs
  exact fz_at (pUni l) (by rw [List.getElem?_map, h]; rfl) j hj
def PO (B : Nat) (w : World) (v : Value) (l : List Pr) : Prop := w.ownsRow B 94 2 v l.length (pRs l)
def PR (w : World) (v : Value) (l : List Pr) : Prop :=
  (∃ A cap, v = .slice A 0 cap ∧ l = []) ∨
  ∃ b off cap, v = .slice (some ⟨b, off, none⟩) l.length cap ∧ l.length ≤ cap ∧ ∀ (i : Nat) (p : Pr), l[i]? = some p → w.cell? ⟨b, off + i * 2, none⟩ = some (.string p.1) ∧ w.cell? ⟨b, off + i * 2 + 1, none⟩ = some (.string p.2)
section
variable {B : Nat} {w w' : World} {v : Value} {l : List Pr}
theorem PO.pr (h : PO B w v l) : PR w v l := by
  rcases h.2 with ⟨rfl, hz⟩ | ⟨g, cap, cur, rfl, hb, hh, hc, hm, hs, ht⟩
  · exact .inl ⟨none, 0, rfl, List.eq_nil_of_length_eq_zero hz⟩
  · refine .inr ⟨g, 0, cap, rfl, hc, fun i k hi => ?_⟩
    have at_ : ∀ j, j < 2 → ∀ u, (pRow k)[j]? = some u → w.cell? ⟨g, 0 + i * 2 + j, none⟩ = some u := fun j hj u hu => by
      have := World.ownsRow.cells h (g := g) rfl (i * 2 + j) u (by rw [pRs_at hi j hj]; exact hu)
      rw [Addr.add_lit] at this
      rw [Nat.add_assoc]; exact this
    exact ⟨at_ 0 (by omega) _ rfl, at_ 1 (by omega) _ rfl⟩
theorem PO.nil (B : Nat) (w : World) : PO B w (.slice none 0 0) [] := World.ownsRow_nil _ _ _ _
theorem PO.kt (h : PO B w v l) (hk : KT w w' 94) : PO B w' v l := row_keep h hk
theorem PO.below (h : PO B w v l) (hb : Below w.heap.size w w') : PO B w' v l := h.kt (KT.below hb _)
theorem PO.mono (h : PO B w v l) {B' : Nat} (hB : B' ≤ B) : PO B' w v l := by
  refine ⟨h.1, ?_⟩
  rcases h.2 with h2 | ⟨q, cap, cur, rfl, hbb, hr⟩
  · exact .inl h2
  · exact .inr ⟨q, cap, cur, rfl, Nat.le_trans hB hbb, hr⟩
theorem PR.form (h : PR w v l) : ∃ a cap, v = .slice a l.length cap := by
  rcases h with ⟨A, cap, rfl, rfl⟩ | ⟨b, off, cap, rfl, _⟩
  · exact ⟨_, _, rfl⟩
  · exact ⟨_, _, rfl⟩
theorem PR.inv (h : PR w v l) (hp : 0 < l.length) : ∃ b off cap, v = .slice (some ⟨b, off, none⟩) l.length cap ∧ l.length ≤ cap ∧ ∀ (i : Nat) (p : Pr), l[i]? = some p → w.cell? ⟨b, off + i * 2, none⟩ = some (.string p.1) ∧ w.cell? ⟨b, off + i * 2 + 1, none⟩ = some (.string p.2) := by
  rcases h with ⟨A, cap, rfl, rfl⟩ | h
  · simp at hp
  · exact h
theorem PR.below (h : PR w v l) (hb : Below w.heap.size w w') : PR w' v l := by
  rcases h with h | ⟨b, off, cap, e, hc, hm⟩
  · exact .inl h
  · refine .inr ⟨b, off, cap, e, hc, fun i p hi => ?_⟩
    obtain ⟨h0, h1⟩ := hm i p hi
    exact ⟨(hb.cell (World.block_lt_of_cell? w _ h0)).trans h0, (hb.cell (World.block_lt_of_cell? w _ h1)).trans h1⟩
theorem iPr : ∃ i z, Tryz.prog.info? 94 = some i ∧ i.zero = some z ∧ i.size = 2 ∧ i.bytes = 32 ∧ z.cells.size = 2 := by
  have h : (Tryz.prog.info? 94).bind (fun i => if i.size = 2 ∧ i.bytes = 32 then i.zero else none) = some (.agg #[.string ByteArray.empty, .string ByteArray.empty]) := by kernel_rfl
  cases hi : Tryz.prog.info? 94 with
  | none => rw [hi] at h; cases h
  | some j =>
    rw [hi] at h
    by_cases hc : j.size = 2 ∧ j.bytes = 32
    · simp only [Option.bind_some, if_pos hc] at h
      exact ⟨j, _, rfl, h, hc.1, hc.2, rfl⟩
    · simp [hc] at h
/-- a pair put behind a list of pairs that the call owns -/
theorem wpList_app_pair {ops : Array Oper} {rest : List Oper} {o : Oper} {a : Act} {Q : Exit → Act → World → Prop}
    (B : Nat) (v : Value) (d : List Pr) (k : Pr) (nb : Nat) (hgd : o.guard = none) (s x : Operand)
    (ho : o.op = .call { callee := .builtin .append, args := #[s, x], argTypes := #[76, 76] }) (hs : a.eval s = v) (hown : PO B w v d) (hx : a.eval x = .slice (some ⟨nb, 0, none⟩) 1 1) (h2 : Bk w nb 94 #[.string k.1, .string k.2])
    (hd : d.length ≤ 1099511627776) (hB : B ≤ w.heap.size)
    (hk : ∀ va c w', PO B w' (.slice va (d ++ [k]).length c) (d ++ [k]) → w.grownBy w' v.ownBlock → wpList Tryz.prog ops Q rest (a.put o.dst (.slice va (d ++ [k]).length c)) w') : wpList Tryz.prog ops Q (o :: rest) a w := by
  obtain ⟨i, z, hi, hz, hsz, hby, hzs⟩ := iPr
  refine wpList_append_lies _ hgd s x 76 ho B 94 i z 2 32 Tryz.underlying76 hi hz hsz hby hzs (by decide) v d.length (pRs d) hs hown ⟨nb, 0, none⟩ 1 1 (pRow k) hx rfl ?_ ?_ (by omega) (by unfold maxLen; omega) (by omega) hB _ rfl ?_
  · intro j u hj
    have := h2.cell j
    rw [Addr.add_lit, Nat.zero_add, this]
    match j, hj with
    | 0, hj => exact hj
    | 1, hj => exact hj
    | j + 2, hj => simp [pRow] at hj
  · intro u hu
    simp only [pRow, List.mem_cons, List.not_mem_nil, or_false] at hu
    rcases hu with rfl | rfl <;> rfl
  · intro g' cap' w' o1 o2 o3 o4
    have e1 : d.length + 1 = (d ++ [k]).length := by rw [List.length_append]; rfl
    rw [e1] at o1 ⊢
    refine hk _ _ _ ?_ o2
    unfold PO
    rw [pRs_app]
    have : pRs [k] = pRow k := by unfold pRs; rw [List.map_cons, List.map_nil]; show [pRow k].flatten = _; simp
    rw [this]; exact o1
end
/-- a text's value in a list of pairs -/
def lkp (t : ByteArray) (L : List Pr) : Option ByteArray := (L.find? fun p => decide (p.1 = t)).map (·.2)
def wot (t : ByteArray) (L : List Pr) : List Pr := L.filter fun p => decide (p.1 ≠ t)
theorem lkp_wot (t x : ByteArray) (L : List Pr) : lkp x (wot t L) = if x = t then none else lkp x L := by
  unfold lkp wot
  by_cases h : x = t
  · subst h
    rw [if_pos rfl, List.find?_eq_none.2]
    · rfl
    · intro p hp; have := (List.mem_filter.1 hp).2; simpa using this
  · rw [if_neg h, List.find?_filter]
    congr 2
    funext p
    by_cases hp : p.1 = x
    · have : p.1 ≠ t := fun e => h (hp.symm.trans e)
      simp [hp, h]
    · simp [hp]
theorem lkp_put (t v x : ByteArray) (L : List Pr) : lkp x (wot t L ++ [(t, v)]) = if x = t then some v else lkp x L := by
  unfold lkp
  rw [List.find?_append]
  by_cases h : x = t
  · subst h
    have := lkp_wot x x L
    unfold lkp at this
    rw [if_pos rfl, Option.map_eq_none_iff] at this
    rw [if_pos rfl, this, List.find?_cons_of_pos (by simp)]; rfl
  · have := lkp_wot t x L
    unfold lkp at this
    rw [if_neg h] at this
    rw [if_neg h, List.find?_cons_of_neg (by simp; exact fun e => h e.symm), List.find?_nil, Option.or_none]
    exact this
theorem wot_len (t : ByteArray) (L : List Pr) : (wot t L).length ≤ L.length := List.length_filter_le _ _
theorem wot_take {L : List Pr} {i : Nat} {p : Pr} {t : ByteArray} (h : L[i]? = some p) : wot t (L.take (i + 1)) = if p.1 = t then wot t (L.take i) else wot t (L.take i) ++ [p] := by
  rw [List.take_add_one, h]; unfold wot; rw [List.filter_append]
  by_cases e : p.1 = t
  · rw [if_pos e]; simp [e]
  · rw [if_neg e]; simp [e]
/-! ### the document's store, queue, cache -/
structure Rb where
  r : Nat
  s : Nat
  q : Nat
  al : Int
  ke : Int
  mo : Int
  ttl : Int
def Rb.own (R : Rb) (b : Nat) : Prop := b = R.r ∨ b = R.s ∨ b = R.q
section
variable {w0 w w' : World}
theorem RS.kt {g : Nat} {al ke mo : Int} {T K : List En} (h : RS w0 w g al ke mo T K) (k1 : KT w w' 71) (k2 : KT w w' 138) (hb : Below w0.heap.size w0 w') : RS w0 w' g al ke mo T K := by
  obtain ⟨aT, cT, aK, cK, h1, h2, h3, h4, h5, h6, _⟩ := h
  exact ⟨aT, cT, aK, cK, k1.bk h1, row_keep h2 k2, row_keep h3 k2, h4, h5, h6, hb⟩
theorem RQ.kt {B r : Nat} {I : List It} (h : RQ B w r I) (k1 : KT w w' 75) (k2 : KT w w' 141) : RQ B w' r I := by
  obtain ⟨a, c, h1, h2, h3⟩ := h
  exact ⟨a, c, k1.bk h1, row_keep h2 k2, h3⟩
/-- at R.r stands the document's cache -/
def RT (w0 w : World) (R : Rb) (N : Nat) (σ : Sg) : Prop :=
  ∃ va vc L, Bk w R.r 78 #[ptr R.s, ptr R.q, .slice va L.length vc, .int .i64 R.ttl] ∧ RS w0 w R.s R.al R.ke R.mo σ.T σ.K ∧ RQ w0.heap.size w R.q σ.I ∧ PO w0.heap.size w (.slice va L.length vc) L ∧
    (∀ t, lkp t L = σ.V t) ∧ L.length ≤ N ∧ σ.I.length ≤ N ∧ w0.heap.size ≤ R.r
theorem RT.bel {R : Rb} {N : Nat} {σ : Sg} (h : RT w0 w R N σ) : Below w0.heap.size w0 w := by
  obtain ⟨va, vc, L, _, ⟨_, _, _, _, _, _, _, _, _, _, hb⟩, _⟩ := h; exact hb
theorem RT.kt {R : Rb} {N : Nat} {σ : Sg} (h : RT w0 w R N σ) (hk : ∀ t, t = 78 ∨ t = 94 ∨ t = 71 ∨ t = 138 ∨ t = 75 ∨ t = 141 → KT w w' t) (hb : Below w0.heap.size w0 w') : RT w0 w' R N σ := by
  obtain ⟨va, vc, L, h1, h2, h3, h4, h5⟩ := h
  exact ⟨va, vc, L, (hk _ (.inl rfl)).bk h1, CA.RS.kt h2 (hk _ (.inr (.inr (.inl rfl)))) (hk _ (.inr (.inr (.inr (.inl rfl))))) hb, CA.RQ.kt h3 (hk _ (.inr (.inr (.inr (.inr (.inl rfl)))))) (hk _ (.inr (.inr (.inr (.inr (.inr rfl)))))), h4.kt (hk _ (.inr (.inl rfl))), h5⟩
theorem RT.below {R : Rb} {N : Nat} {σ : Sg} (h : RT w0 w R N σ) (hb : Below w.heap.size w w') : RT w0 w' R N σ := h.kt (fun t _ => KT.below hb t) (h.bel.trans (hb.mono h.bel.size))
theorem RT.mono {R : Rb} {N N' : Nat} {σ : Sg} (h : RT w0 w R N σ) (hN : N ≤ N') : RT w0 w R N' σ := by
  obtain ⟨va, vc, L, h1, h2, h3, h4, h5, h6, h7, h8⟩ := h
  exact ⟨va, vc, L, h1, h2, h3, h4, h5, Nat.le_trans h6 hN, Nat.le_trans h7 hN, h8⟩
end
end Go.Proofs.YtjngangojgjceaaGreat.CA
namespace Go.Proofs.YtjngangojgjceaaGreat.CA
open Go.ChangeShapes Go.WideShapes Go.ChangeAt Go.RowKit Go.Maps Go.ChangeMaps
open Go.Proofs.YtjngangojgjceaaGreat.SL Go.Proofs.YtjngangojgjceaaGreat.EX Go.Proofs.YtjngangojgjceaaGreat.RW
set_option maxRecDepth 100000
set_option linter.unusedVariables false
set_option linter.unusedSimpArgs false

theorem kt_one {w w' : World} {q : Nat} {tq t : TypeId} {cs : Array Value} (k : Bk w q tq cs) (hc : Chg (fun b => b = q) w w') (hne : t ≠ tq) : KT w w' t :=
  KT.chg hc fun b hb cur fz h => by
    unfold Bk at k
    rw [hb, k] at h
    injection h with h
    injection h with _ h
    exact hne h.symm
theorem RS.bk {w0 w : World} {g : Nat} {al ke mo : Int} {T K : List En} (h : RS w0 w g al ke mo T K) : ∃ cs, Bk w g 71 cs := by obtain ⟨_, _, _, _, h, _⟩ := h; exact ⟨_, h⟩
theorem RQ.bk {B : Nat} {w : World} {r : Nat} {I : List It} (h : RQ B w r I) : ∃ cs, Bk w r 75 cs := by obtain ⟨_, _, h, _⟩ := h; exact ⟨_, h⟩
def okL (σ : Sg) : Prop := σ.T.length ≤ 1073741824 ∧ σ.K.length ≤ 1073741824
section
variable {w0 w w' : World} {R : Rb} {N : Nat} {σ : Sg}
def StR (w0 : World) (R : Rb) (N : Nat) (σ : Sg) (w w' : World) : Prop := RT w0 w' R N σ ∧ Chg R.own w w'
def RetR (w0 : World) (R : Rb) (N : Nat) (σ : Sg) (w : World) (v : Value) (e : Ending) (w' : World) : Prop := e = .returned v ∧ StR w0 R N σ w w'
theorem StR.trans {w1 w2 : World} {N' : Nat} {σ1 σ2 : Sg} (h : StR w0 R N σ1 w w1) (k : StR w0 R N' σ2 w1 w2) : StR w0 R N' σ2 w w2 := ⟨k.1, h.2.trans k.2⟩
theorem StR.below {w1 w2 : World} {σ1 : Sg} (h : StR w0 R N σ1 w w1) (hb : Below w1.heap.size w1 w2) : StR w0 R N σ1 w w2 := ⟨h.1.below hb, h.2.trans (Chg.of_below hb)⟩
theorem StR.refl (h : RT w0 w R N σ) : StR w0 R N σ w w := ⟨h, Chg.refl _ _⟩
set_option maxHeartbeats 8000000 in
theorem rgone_any (h : RT w0 w R N σ) (hl : okL σ) (hN : N ≤ 1000000) (t : ByteArray) :
    Calls Tryz.prog 43 #[ptr R.r, .string t] w (RetR w0 R N (dropS t σ) w (.bool (hasS t σ.T σ.K).isSome)) := by
  have hbel := h.bel
  obtain ⟨va, vc, L, hr, hs, hq, hp, hv, hn, hi, hb⟩ := h
  obtain ⟨BB, hBB⟩ : ∃ b, (hasS t σ.T σ.K).isSome = b := ⟨_, rfl⟩
  unfold RetR
  rw [hBB]
  have HD := Lib.hid (rdrop_any hq (by omega) t _ rfl _ rfl)
  have HBB := Lib.hid hBB
  have HL := Lib.hid hl
  have HN := Lib.hid hN
  have HNN := Lib.hid hn
  have HV := Lib.hid hv
  have HI := Lib.hid hi
  have HBR := Lib.hid hb
  have HBE := Lib.hid hbel
  have HR := Lib.hid hr
  have HS := Lib.hid hs
  have HQ := Lib.hid hq
  have HP := Lib.hid hp
  have r0 : w.cell? ⟨R.r, 0, none⟩ = some (ptr R.s) := hr.cell 0
  have r1 : w.cell? ⟨R.r, 1, none⟩ = some (ptr R.q) := hr.cell 1
  clear hl hN hn hv hi hb hbel hr hs hq hp hBB
  go_enter Tryz.func43, Tryz.ntmps43
  go_wp2_with fail
  refine HD.out.mono ?_
  rintro e w1 ⟨rfl, q1, hc1⟩
  obtain ⟨qcs, hqk⟩ := CA.RQ.bk HQ.out
  have hbe1 : Below w0.heap.size w0 w1 := below_chg HBE.out hc1 (fun b hb => by rw [hb]; obtain ⟨_, _, _, _, h⟩ := HQ.out; exact h)
  have HBE1 := Lib.hid hbe1
  have HR := Lib.hid ((kt_one hqk hc1 (t := 78) (by decide)).bk HR.out)
  have HS := Lib.hid (CA.RS.kt HS.out (kt_one hqk hc1 (by decide)) (kt_one hqk hc1 (by decide)) hbe1)
  have HP := Lib.hid (HP.out.kt (kt_one hqk hc1 (by decide)))
  have HQ1 := Lib.hid q1
  have HC1 : Hid (Chg R.own w w1) := Lib.hid (hc1.mono fun b _ hb => .inr (.inr hb))
  have r0 : w1.cell? ⟨R.r, 0, none⟩ = some (ptr R.s) := HR.out.cell 0
  have r2 : w1.cell? ⟨R.r, 2, none⟩ = some (.slice va L.length vc) := HR.out.cell 2
  have HRL : Hid (R.r < w1.heap.size) := Lib.hid HR.out.lt
  clear q1 hc1 hqk hbe1 HD HQ
  go_wp2
  go_loopg [5, 6] L.length (fun g u5 u6 wx => ∃ i : Nat, u6 = .int .i64 (i : Int) ∧ i + g = L.length ∧ PO w1.heap.size wx u5 (wot t (L.take i)) ∧ Below w1.heap.size w1 wx)
  case atStart => exact ⟨0, rfl, by omega, PO.nil _ _, Below.refl _ _⟩
  case round =>
    obtain ⟨i, rfl, hi, hO, hB⟩ := hrel
    obtain ⟨ua, uc, rfl⟩ := hO.pr.form
    have HO := Lib.hid hO
    have HB := Lib.hid hB
    have x2 := (hB.cell (p := ⟨R.r, 2, none⟩) HRL.out).trans r2
    cases gk with
    | zero =>
      have hil : i = L.length := by omega
      have l1 : ¬ ((i : Int) < (L.length : Int)) := by omega
      have hD : wot t (L.take i) = wot t L := by rw [hil, List.take_length]
      rw [hD] at HO ⊢
      have HO := Lib.hid HO.out
      have hbx := HBE1.out.trans (hB.mono HBE1.out.size)
      have kr := HR.out.below hB
      have y0 : wr.cell? ⟨R.r, 0, none⟩ = some (ptr R.s) := kr.cell 0
      have fr := kr.frozen 2
      have HKR := Lib.hid kr
      have HSX := Lib.hid (HS.out.below hB)
      have HQX := Lib.hid (HQ1.out.below hB)
      have HBX := Lib.hid hbx
      obtain ⟨W2, hW2⟩ : ∃ W, wr.setCell ⟨R.r, 2, none⟩ (.slice ua (wot t L).length uc) = W := ⟨_, rfl⟩
      have kr2 : Bk W2 R.r 78 #[ptr R.s, ptr R.q, .slice ua (wot t L).length uc, .int .i64 R.ttl] := by rw [← hW2]; exact kr.set_ 2 _
      have hc2 : Chg (fun b => b = R.r) wr W2 := by rw [← hW2]; exact (Chg.refl (fun b => b = R.r) wr).setCell (p := ⟨R.r, 2, none⟩) rfl _
      have hbx2 : Below w0.heap.size w0 W2 := below_chg hbx hc2 (fun b hb => by rw [hb]; exact HBR.out)
      have HS2 := Lib.hid (CA.RS.kt HSX.out (kt_one kr hc2 (by decide)) (kt_one kr hc2 (by decide)) hbx2)
      have HQ2 := Lib.hid (CA.RQ.kt HQX.out (kt_one kr hc2 (by decide)) (kt_one kr hc2 (by decide)))
      have HP2 := Lib.hid (HO.out.kt (kt_one kr hc2 (by decide)))
      have HR2 := Lib.hid kr2
      have HC2 : Hid (Chg R.own w W2) := Lib.hid ((HC1.out.trans (Chg.of_below hB)).trans (hc2.mono fun b _ hb => .inl hb))
      have HBX2 := Lib.hid hbx2
      have z0 : W2.cell? ⟨R.r, 0, none⟩ = some (ptr R.s) := kr2.cell 0
      have HDR := Lib.hid (rdrop_to w0 W2 R.s R.al R.ke R.mo σ.T σ.K HS2.out HL.out t _ _ _ rfl rfl HBB.out)
      clear hi hil hO hB hD hbx kr kr2 hc2 hbx2
      go_wp2_with fail
      try rw [hW2]
      refine HDR.out.mono ?_
      rintro e w4 ⟨rfl, s4, hc4⟩
      have HS4 := Lib.hid s4
      have HC4 := Lib.hid hc4
      clear s4 hc4 hW2
      go_wp2
      go_ret
      obtain ⟨scs, hsk⟩ := CA.RS.bk HS2.out
      have hb4 : Below w0.heap.size w0 w4 := HS4.out.bel
      refine ⟨rfl, ⟨ua, uc, wot t L, (kt_one hsk HC4.out (t := 78) (by decide)).bk HR2.out, HS4.out, CA.RQ.kt HQ2.out (kt_one hsk HC4.out (by decide)) (kt_one hsk HC4.out (by decide)), (HP2.out.kt (kt_one hsk HC4.out (by decide))).mono (HBE1.out.size), fun x => ?_, Nat.le_trans (wot_len _ _) HNN.out, Nat.le_trans (List.length_filter_le _ _) HI.out, HBR.out⟩, HC2.out.trans (HC4.out.mono fun b _ hb => .inr (.inl hb))⟩
      rw [lkp_wot, HV.out x]; rfl
    | succ g =>
      have hlt : i < L.length := by omega
      obtain ⟨b, off, cap, he, hc, hx⟩ := (HP.out.pr.below hB).inv (by omega)
      injection he with e1 _ e3
      subst e1 e3
      obtain ⟨y, hy⟩ : ∃ y, L[i] = y := ⟨_, rfl⟩
      have hyi : L[i]? = some y := by rw [List.getElem?_eq_getElem hlt, hy]
      obtain ⟨x0, x1⟩ := hx i y hyi
      have l0 : (0 : Int) ≤ (i : Int) := by omega
      have l1 : (i : Int) < (L.length : Int) := by omega
      obtain ⟨i1, hi1⟩ : ∃ i1, i + 1 = i1 := ⟨_, rfl⟩
      have wk : IntKind.i64.wrap ((i : Int) + 1) = (i1 : Int) := by rw [show (i : Int) + 1 = (i1 : Int) by omega]; exact IntWalk.i64_in _ (by have := HNN.out; have := HN.out; omega)
      have HI1 : Hid (i1 + g = L.length) := Lib.hid (by omega)
      have hwt := wot_take (t := t) hyi
      rw [hi1] at hwt
      obtain ⟨D, hD⟩ : ∃ D, wot t (L.take i) = D := ⟨_, rfl⟩
      have HDL : Hid (D.length ≤ 1099511627776) := Lib.hid (by rw [← hD]; have h1 := wot_len t (L.take i); have h2 := HNN.out; have h3 := HN.out; rw [List.length_take] at h1; omega)
      rw [hD] at hwt
      have HO := Lib.hid (show PO w1.heap.size wr (.slice ua D.length uc) D by rw [← hD]; exact hO)
      rw [hD]
      obtain ⟨yk, yv⟩ := y
      simp only at x0 x1 hwt
      by_cases hk : yk = t
      · rw [if_pos hk] at hwt
        have es : (yk.toList == t.toList) = true := by rw [tl_dec]; exact decide_eq_true hk
        have HW := Lib.hid hwt
        clear hi hx hc hy hyi hi1 hlt hwt hD hO hB hk x1
        go_wp2
        go_roundg g
        case measure => exact Nat.lt_succ_self _
        case rel => exact ⟨i1, rfl, HI1.out, by rw [HW.out]; exact HO.out, HB.out⟩
      · rw [if_neg hk] at hwt
        have es : (yk.toList == t.toList) = false := by rw [tl_dec]; exact decide_eq_false hk
        have HW := Lib.hid hwt
        obtain ⟨W4, hW4⟩ : ∃ W, wr.alloc (.cells #[.string yk, .string yv] 94) = W := ⟨_, rfl⟩
        obtain ⟨nb, hnb⟩ : ∃ b, wr.heap.size = b := ⟨_, rfl⟩
        have hb4 : Below wr.heap.size wr W4 := by rw [← hW4]; exact (Below.refl _ _).alloc (Nat.le_refl _) _
        have kn : Bk W4 nb 94 #[.string yk, .string yv] := by rw [← hW4, ← hnb]; exact Bk.new _ _ _
        have HO := Lib.hid (HO.out.below hb4)
        have HB := Lib.hid (HB.out.trans (hb4.mono HB.out.size))
        have HKN := Lib.hid kn
        clear hi hx hc hy hyi hi1 hlt hwt hD hO hB hk hb4 kn
        go_wp2_with (at_builtin; (try rw [hW4]); (try rw [hnb]); refine wpList_app_pair w1.heap.size (.slice ua D.length uc) D (yk, yv) nb rfl _ _ rfl rfl HO.out rfl HKN.out HDL.out HB.out.size ?_; intro g9 cap9 w9 o9 gr9)
        have HB9 : Hid (Below w1.heap.size w1 w9) := Lib.hid (HB.out.grown gr9 HB.out.size fun k hk => (World.ownsRow.lt HO.out k hk).1)
        have HO9 := Lib.hid o9
        clear o9 gr9
        go_wp2
        go_roundg g
        case measure => exact Nat.lt_succ_self _
        case rel =>
          refine ⟨i1, rfl, HI1.out, ?_, HB9.out⟩
          rw [HW.out]
          have := HO9.out
          rw [List.length_append] at this
          exact this
end
end Go.Proofs.YtjngangojgjceaaGreat.CA
