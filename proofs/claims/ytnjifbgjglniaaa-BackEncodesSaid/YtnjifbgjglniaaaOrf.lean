/- What each call of the document's own package for layer 1 does, for every input: it puts and gets just what package octet does; below the memory that was there nothing turns. Condition: the texts are of at most 2^48 bytes. -/
import Derived.Test.YtnjifbgjglniaaaOct
import Derived.Deep.Cut
namespace Go.Proofs.Ytnjifbgjglniaaa
open Go.ChangeShapes Go.WideShapes Go.ChangeAt Go.RowKit
set_option linter.unusedVariables false

theorem rput16_any (s : ByteArray) (n : Int) (hs : s.size ≤ 281474976710656) (w : World) :
    Calls Try.prog 83 #[.string s, .int .i64 n] w fun e w' => e = .returned (.string (put16 s n)) ∧ Below w.heap.size w w' := by
  have hconv : (convert 63 9 (.slice (some ⟨w.heap.size, 0, none⟩) 2 2)).run Try.prog (w.alloc (.cells #[.int .u8 (n / 256 % 256), .int .u8 (n % 256)] 5)) = .ok (.string ⟨#[byt (n / 256), byt n]⟩) (w.alloc (.cells #[.int .u8 (n / 256 % 256), .int .u8 (n % 256)] 5)) := by
    refine run_convert_bytes_back (P := Try.prog) _ 63 9 5 _ 2 [byt (n / 256), byt n] Try.underlying63 Try.underlying5 Try.underlying9 ?_
    intro j hj
    match j, hj with
    | 0, _ => simp [byt_toNat, Addr.add, go_sem]
    | 1, _ => simp [byt_toNat, Addr.add, go_sem]
  go_enter Try.func83, Try.ntmps83
  go_wp2
  go_ret
  exact ⟨rfl, (Below.refl _ _).alloc (Nat.le_refl _) _⟩

theorem rput32_any (s : ByteArray) (n : Int) (hs : s.size ≤ 281474976710656) (w : World) :
    Calls Try.prog 61 #[.string s, .int .i64 n] w fun e w' => e = .returned (.string (put32 s n)) ∧ Below w.heap.size w w' := by
  have hconv : (convert 63 9 (.slice (some ⟨w.heap.size, 0, none⟩) 4 4)).run Try.prog (w.alloc (.cells #[.int .u8 (n / 16777216 % 256), .int .u8 (n / 65536 % 256), .int .u8 (n / 256 % 256), .int .u8 (n % 256)] 5)) = .ok (.string ⟨#[byt (n / 16777216), byt (n / 65536), byt (n / 256), byt n]⟩) (w.alloc (.cells #[.int .u8 (n / 16777216 % 256), .int .u8 (n / 65536 % 256), .int .u8 (n / 256 % 256), .int .u8 (n % 256)] 5)) := by
    refine run_convert_bytes_back (P := Try.prog) _ 63 9 5 _ 4 [byt (n / 16777216), byt (n / 65536), byt (n / 256), byt n] Try.underlying63 Try.underlying5 Try.underlying9 ?_
    intro j hj
    match j, hj with
    | 0, _ => simp [byt_toNat, Addr.add, go_sem]
    | 1, _ => simp [byt_toNat, Addr.add, go_sem]
    | 2, _ => simp [byt_toNat, Addr.add, go_sem]
    | 3, _ => simp [byt_toNat, Addr.add, go_sem]
  go_enter Try.func61, Try.ntmps61
  go_wp2
  go_ret
  exact ⟨rfl, (Below.refl _ _).alloc (Nat.le_refl _) _⟩

theorem zix_ne (t : ByteArray) (k : Nat) (h : k < zix t) (hk : k < t.size) : t[k] ≠ 0 := by
  have hget : t.data.toList[k]? = some t[k] := by
    rw [List.getElem?_eq_getElem (by rw [← Lib.size_eq]; exact hk)]; rfl
  intro e
  rw [e] at hget
  by_cases hx : Lib.indexByte t.data.toList 0 = -1
  · exact Lib.indexByte_none hx k hget
  · exact (Lib.indexByte_some (zix_lt t hx).2).2 k h hget
theorem zix_eq (t : ByteArray) (h : zix t < t.size) : t[zix t] = 0 := by
  by_cases hx : Lib.indexByte t.data.toList 0 = -1
  · unfold zix at h; rw [if_pos hx] at h; omega
  · have hget := (Lib.indexByte_some (zix_lt t hx).2).1
    rw [List.getElem?_eq_getElem (by rw [← Lib.size_eq]; exact h)] at hget
    exact Option.some.inj hget
theorem toNat_ne (b : UInt8) (h : b ≠ 0) : ((b.toNat : Int) != 0) = true := by
  simp; intro e; apply h; exact UInt8.toNat_inj.1 e

theorem rputText_any (s t : ByteArray) (w : World) (hs : s.size ≤ 281474976710656) (ht : t.size ≤ 281474976710656) :
    Calls Try.prog 62 #[.string s, .string t] w fun e w' => e = .returned (.string (putText s t)) ∧ w' = w := by
  have hz := zix_le t
  go_enter Try.func62, Try.ntmps62
  go_wp2
  go_loop [5] (fun i => ∃ k : Nat, k ≤ zix t ∧ i = .int .i64 k) (fun i => t.size - (intOf i).toNat)
  case atStart => exact ⟨0, Nat.zero_le _, rfl⟩
  case round =>
    obtain ⟨k, hk, rfl⟩ := hrel
    by_cases hlt : k < zix t
    · have h1 : k < t.size := by omega
      have h2 := toNat_ne _ (zix_ne t k hlt h1)
      have h3 : decide (k < t.size) = true := by simpa using h1
      go_wp2
      go_round
      case rel => exact ⟨k + 1, by omega, by go_num⟩
      case measure => simp [intOf]; omega
    · have e : k = zix t := by omega
      subst e
      have hh := head0_size t
      have hH : (t.extract 0 (zix t)).size ≤ 281474976710656 := by have := head0_size t; unfold head0 at this; omega
      clear hh hlt hk
      by_cases h1 : zix t < t.size
      · have h2 := zix_eq t h1
        have h4 : ((t[zix t].toNat : Int) != 0) = false := by rw [h2]; rfl
        clear h2
        go_wp2
        go_ret
        exact ⟨rfl, rfl⟩
      · have h3 : decide (zix t < t.size) = false := by simpa using h1
        go_wp2
        go_ret
        exact ⟨rfl, rfl⟩

theorem rgetBytes_any (s : ByteArray) (a n : Int) (w : World) (hs : s.size ≤ 281474976710656) :
    Calls Try.prog 69 #[.string s, .int .i64 a, .int .i64 n] w fun e w' => e = .returned (res3 (gBytes s a n)) ∧ w' = w := by
  by_cases hn : n < 0
  · have e : gBytes s a n = (⟨#[]⟩, 0, 1) := by unfold gBytes; rw [if_pos hn]
    rw [e]; clear e
    by_cases h0 : a < 0
    · go_enter Try.func69, Try.ntmps69
      go_wp2
      go_ret3
      exact ⟨rfl, rfl⟩
    · by_cases h1 : (s.size : Int) < a
      · go_enter Try.func69, Try.ntmps69
        go_wp2
        go_ret3
        exact ⟨rfl, rfl⟩
      · go_enter Try.func69, Try.ntmps69
        go_wp2
        go_ret3
        exact ⟨rfl, rfl⟩
  · by_cases h0 : a < 0
    · have e : gBytes s a n = (⟨#[]⟩, 0, 1) := by unfold gBytes; rw [if_neg hn, if_pos (by unfold insB; exact decide_eq_false (by omega))]
      rw [e]; clear e
      go_enter Try.func69, Try.ntmps69
      go_wp2
      go_ret3
      exact ⟨rfl, rfl⟩
    · by_cases h1 : (s.size : Int) < a
      · have e : gBytes s a n = (⟨#[]⟩, 0, 1) := by unfold gBytes; rw [if_neg hn, if_pos (by unfold insB; exact decide_eq_false (by omega))]
        rw [e]; clear e
        go_enter Try.func69, Try.ntmps69
        go_wp2
        go_ret3
        exact ⟨rfl, rfl⟩
      · have hi : insB s.size a = true := by unfold insB; exact decide_eq_true (by omega)
        by_cases hl : (s.size : Int) - a < n
        · have e : gBytes s a n = (⟨#[]⟩, 0, 3) := by unfold gBytes; rw [if_neg hn, if_neg (by rw [hi]; decide), if_pos hl]
          rw [e]; clear e hi
          go_enter Try.func69, Try.ntmps69
          go_wp2
          go_ret3
          exact ⟨rfl, rfl⟩
        · have e : gBytes s a n = (s.extract a.toNat (a + n).toNat, a + n, 0) := by unfold gBytes; rw [if_neg hn, if_neg (by rw [hi]; decide), if_neg hl]
          rw [e]; clear e hi
          have h3 : a ≤ a + n := by omega
          have h4 : a + n ≤ s.size := by omega
          have h5 : 0 ≤ a + n := by omega
          have h6 : 0 ≤ a := by omega
          have h7 : 0 ≤ n := by omega
          go_enter Try.func69, Try.ntmps69
          go_wp2
          go_ret3
          exact ⟨rfl, rfl⟩

theorem g16_no (s : ByteArray) (a : Int) (hc : insB s.size a = false ∨ (s.size : Int) - a < 2) :
    ∃ c, gBytes s a 2 = (⟨#[]⟩, 0, c) ∧ (c != 0) = true ∧ g16 s a = (0, 0, c) := by
  unfold gBytes g16
  rw [if_neg (by decide)]
  by_cases hi : insB s.size a = false
  · rw [if_pos hi, if_pos hi]; exact ⟨1, rfl, rfl, rfl⟩
  · have h : (s.size : Int) - a < 2 := by rcases hc with hc | hc; exact absurd hc hi; exact hc
    rw [if_neg hi, if_neg hi, if_pos h, if_pos h]; exact ⟨3, rfl, rfl, rfl⟩
theorem g32_no (s : ByteArray) (a : Int) (hc : insB s.size a = false ∨ (s.size : Int) - a < 4) :
    ∃ c, gBytes s a 4 = (⟨#[]⟩, 0, c) ∧ (c != 0) = true ∧ g32 s a = (0, 0, c) := by
  unfold gBytes g32
  rw [if_neg (by decide)]
  by_cases hi : insB s.size a = false
  · rw [if_pos hi, if_pos hi]; exact ⟨1, rfl, rfl, rfl⟩
  · have h : (s.size : Int) - a < 4 := by rcases hc with hc | hc; exact absurd hc hi; exact hc
    rw [if_neg hi, if_neg hi, if_pos h, if_pos h]; exact ⟨3, rfl, rfl, rfl⟩
theorem g16_yes (s : ByteArray) (a : Int) (hi : insB s.size a = true) (hl : 2 ≤ (s.size : Int) - a) :
    ∃ r : ByteArray, r.size = 2 ∧ gBytes s a 2 = (r, a + 2, 0) ∧ g16 s a = (sgn16 (beN r.data.toList), a + 2, 0) := by
  have hi2 : 0 ≤ a ∧ a ≤ s.size := by simpa [insB] using hi
  refine ⟨s.extract a.toNat (a + 2).toNat, by simp; omega, ?_, ?_⟩
  · unfold gBytes; rw [if_neg (by decide), if_neg (by rw [hi]; decide), if_neg (by omega)]
  · unfold g16; rw [if_neg (by rw [hi]; decide), if_neg (by omega)]
theorem g32_yes (s : ByteArray) (a : Int) (hi : insB s.size a = true) (hl : 4 ≤ (s.size : Int) - a) :
    ∃ r : ByteArray, r.size = 4 ∧ gBytes s a 4 = (r, a + 4, 0) ∧ g32 s a = (sgn32 (beN r.data.toList), a + 4, 0) := by
  have hi2 : 0 ≤ a ∧ a ≤ s.size := by simpa [insB] using hi
  refine ⟨s.extract a.toNat (a + 4).toNat, by simp; omega, ?_, ?_⟩
  · unfold gBytes; rw [if_neg (by decide), if_neg (by rw [hi]; decide), if_neg (by omega)]
  · unfold g32; rw [if_neg (by rw [hi]; decide), if_neg (by omega)]
theorem beN_take (r : ByteArray) (k : Nat) (h : k < r.size) : beN (r.data.toList.take (k + 1)) = beN (r.data.toList.take k) * 256 + r[k].toNat := by
  rw [take_snoc r k h, beN_snoc]
theorem beN_two (r : ByteArray) (h : r.size ≤ 2) (h0 : 0 < r.size) (h1 : 1 < r.size) : beN r.data.toList = r[0].toNat * 256 + r[1].toNat := by
  have e : r.data.toList.take 2 = r.data.toList := List.take_of_length_le (by rw [← Lib.size_eq]; exact h)
  have k1 : beN (r.data.toList.take 2) = beN (r.data.toList.take 1) * 256 + r[1].toNat := beN_take r 1 h1
  have k0 : beN (r.data.toList.take 1) = beN (r.data.toList.take 0) * 256 + r[0].toNat := beN_take r 0 h0
  have hz : beN (r.data.toList.take 0) = 0 := by rw [List.take_zero]; rfl
  rw [← e, k1, k0, hz, Nat.zero_mul, Nat.zero_add]
theorem res3_err (c : Int) : res3 (⟨#[]⟩, 0, c) = .tuple #[.string ⟨#[]⟩, .int .i64 0, .int .i64 c] := rfl
theorem res3_ok (r : ByteArray) (k : Int) : res3 (r, k, 0) = .tuple #[.string r, .int .i64 k, .int .i64 0] := rfl

theorem ref16 (x y : Nat) (hx : (x : Int) < 256) (hy : (y : Int) < 256) : wrap64 (wrap64 (256 * wrap64 (x : Int)) + wrap64 (y : Int)) = 256 * (x : Int) + y := by unfold wrap64; omega
theorem ref16b (x y : Nat) (hx : (x : Int) < 256) (hy : (y : Int) < 256) (h : 32768 ≤ 256 * (x : Int) + y) : wrap64 (256 * (x : Int) + y - 65536) = sgn16 (x * 256 + y) := by
  unfold sgn16 wrap64; rw [if_neg (by omega)]; omega
theorem ref16c (x y : Nat) (hx : (x : Int) < 256) (hy : (y : Int) < 256) (h : ¬ 32768 ≤ 256 * (x : Int) + y) : 256 * (x : Int) + y = sgn16 (x * 256 + y) := by
  unfold sgn16; rw [if_pos (by omega)]; omega

set_option maxRecDepth 100000 in
theorem rget16_any (s : ByteArray) (a : Int) (w : World) (hs : s.size ≤ 281474976710656) :
    Calls Try.prog 82 #[.string s, .int .i64 a] w fun e w' => e = .returned (int3 (g16 s a)) ∧ Below w.heap.size w w' := by
  by_cases hc : insB s.size a = false ∨ (s.size : Int) - a < 2
  · obtain ⟨c, e1, hne, e2⟩ := g16_no s a hc
    have d := fun w => rgetBytes_any s a 2 w hs
    rw [e1, res3_err] at d
    rw [e2]; clear e1 e2 hc
    go_enter Try.func82, Try.ntmps82
    go_wp2_with (go_at_call 69; refine (d _).mono ?_; rintro e w1 ⟨rfl, rfl⟩)
    go_ret3
    exact ⟨rfl, Below.refl _ _⟩
  · have hi : insB s.size a = true := by cases h : insB s.size a; exact absurd (.inl h) hc; rfl
    have hl : ¬ (s.size : Int) - a < 2 := fun h => hc (.inr h)
    have hi2 : 0 ≤ a ∧ a ≤ s.size := by simpa [insB] using hi
    obtain ⟨r, hr, e1, e2⟩ := g16_yes s a hi (by omega)
    have d := fun w => rgetBytes_any s a 2 w hs
    rw [e1, res3_ok] at d
    have q0 : 0 < r.size := by omega
    have q1 : 1 < r.size := by omega
    have hB := beN_two r (by omega) q0 q1
    have r0 : (0 : Int) < r.size := by omega
    have r1 : (1 : Int) < r.size := by omega
    have b0 : (r[0].toNat : Int) < 256 := by have := r[0].toNat_lt; omega
    have b1 : (r[1].toNat : Int) < 256 := by have := r[1].toNat_lt; omega
    rw [e2, hB]; clear e1 e2 hc hi hl hB hr
    have B0 := Lib.hid b0
    have B1 := Lib.hid b1
    clear b0 b1
    go_enter Try.func82, Try.ntmps82
    go_wp2_with (go_at_call 69; refine (d _).mono ?_; rintro e w1 ⟨rfl, rfl⟩)
    go_quiet (fail)
    go_wp2
    · have hbig : (32768 : Int) ≤ wrap64 (wrap64 ((256 : Int) * wrap64 (r[0].toNat : Int)) + wrap64 (r[1].toNat : Int)) := by assumption
      go_ret3
      refine ⟨?_, below_drewN (Below.refl _ _) _⟩
      show Ending.returned (.tuple #[.int .i64 (wrap64 (wrap64 (wrap64 ((256 : Int) * wrap64 (r[0].toNat : Int)) + wrap64 (r[1].toNat : Int)) - (65536 : Int))), .int .i64 (a + (2 : Int)), .int .i64 0]) = _
      rw [ref16 _ _ B0.out B1.out] at hbig ⊢
      rw [ref16b _ _ B0.out B1.out hbig]; rfl
    · have hbig : ¬ (32768 : Int) ≤ wrap64 (wrap64 ((256 : Int) * wrap64 (r[0].toNat : Int)) + wrap64 (r[1].toNat : Int)) := by (have h : wrap64 (wrap64 ((256 : Int) * wrap64 (r[0].toNat : Int)) + wrap64 (r[1].toNat : Int)) < (32768 : Int) := by assumption); omega
      go_ret3
      refine ⟨?_, below_drewN (Below.refl _ _) _⟩
      show Ending.returned (.tuple #[.int .i64 (wrap64 (wrap64 ((256 : Int) * wrap64 (r[0].toNat : Int)) + wrap64 (r[1].toNat : Int))), .int .i64 (a + (2 : Int)), .int .i64 0]) = _
      rw [ref16 _ _ B0.out B1.out] at hbig ⊢
      rw [ref16c _ _ B0.out B1.out hbig]; rfl

theorem ref32 (m : Nat) (b : Nat) (hm : m < 16777216) (hb : b < 2 ^ 8) : Value.int .i64 (wrap64 (wrap64 ((256 : Int) * (m : Int)) + wrap64 (b : Int))) = Value.int .i64 ((m * 256 + b : Nat) : Int) := by
  congr 1; unfold wrap64; omega

theorem ref32b (n : Nat) (h : n < 256 ^ 4) (h2 : (2147483648 : Int) ≤ (n : Int)) : wrap64 ((n : Int) - (4294967296 : Int)) = sgn32 n := by
  unfold sgn32 wrap64; rw [if_neg (by omega)]; omega
theorem ref32c (n : Nat) (h2 : (n : Int) < (2147483648 : Int)) : (n : Int) = sgn32 n := by
  unfold sgn32; rw [if_pos (by omega)]

theorem rget32_any (s : ByteArray) (a : Int) (w : World) (hs : s.size ≤ 281474976710656) :
    Calls Try.prog 56 #[.string s, .int .i64 a] w fun e w' => e = .returned (int3 (g32 s a)) ∧ Below w.heap.size w w' := by
  by_cases hc : insB s.size a = false ∨ (s.size : Int) - a < 4
  · obtain ⟨c, e1, hne, e2⟩ := g32_no s a hc
    have d := fun w => rgetBytes_any s a 4 w hs
    rw [e1, res3_err] at d
    rw [e2]; clear e1 e2 hc
    go_enter Try.func56, Try.ntmps56
    go_wp2_with (go_at_call 69; refine (d _).mono ?_; rintro e w1 ⟨rfl, rfl⟩)
    go_ret3
    exact ⟨rfl, Below.refl _ _⟩
  · have hi : insB s.size a = true := by cases h : insB s.size a; exact absurd (.inl h) hc; rfl
    have hl : ¬ (s.size : Int) - a < 4 := fun h => hc (.inr h)
    obtain ⟨r, hr, e1, e2⟩ := g32_yes s a hi (by omega)
    have d := fun w => rgetBytes_any s a 4 w hs
    rw [e1, res3_ok] at d
    rw [e2]; clear e1 e2 hc hi hl
    have r4 : r.size ≤ 4 := by omega
    have r4' : 4 ≤ r.size := by omega
    clear hr
    go_enter Try.func56, Try.ntmps56
    go_wp2_with (go_at_call 69; refine (d _).mono ?_; rintro e w1 ⟨rfl, rfl⟩)
    go_loop [10, 11] (fun x i => ∃ k : Nat, k ≤ 4 ∧ i = .int .i64 k ∧ x = .int .i64 (beN (r.data.toList.take k))) (fun _ i => 4 - (intOf i).toNat)
    case atStart => exact ⟨0, Nat.zero_le _, rfl, rfl⟩
    case round =>
      obtain ⟨k, hk, rfl, rfl⟩ := hrel
      by_cases hlt : k < 4
      · have hkr : k < r.size := by omega
        have hb := beN_lt (r.data.toList.take k)
        have hlen : (r.data.toList.take k).length = k := by simp; omega
        have h3 : 256 ^ k ≤ 256 ^ 3 := Nat.pow_le_pow_right (by decide) (by omega)
        rw [hlen] at hb
        have hs1 := Lib.hid (beN_take r k hkr)
        have hb2 := Lib.hid (show beN (r.data.toList.take k) < 16777216 by omega)
        have hb3 := Lib.hid (r[k].toNat_lt)
        clear hb hlen h3
        go_wp2
        go_round
        case rel => exact ⟨k + 1, by omega, by go_num, by rw [ref32 _ _ hb2.out hb3.out, hs1.out]⟩
        case measure => simp [intOf]; omega
      · have ht := Lib.hid (show r.data.toList.take k = r.data.toList from List.take_of_length_le (by rw [← Lib.size_eq]; omega))
        have hb := beN_lt r.data.toList
        rw [← Lib.size_eq, show r.size = 4 by omega] at hb
        have hb2 := Lib.hid hb
        clear hb
        obtain ⟨z, hz⟩ : ∃ z : Int, ((beN (r.data.toList.take k) : Nat) : Int) = z := ⟨_, rfl⟩
        rw [hz]
        rw [ht.out] at hz
        have hz2 := Lib.hid hz
        have z0 : 0 ≤ z := by omega
        clear hz
        by_cases hbig : (2147483648 : Int) ≤ z
        · have H := Lib.hid hbig
          go_wp2
          go_ret3
          refine ⟨?_, Below.refl _ _⟩
          show Ending.returned (.tuple #[.int .i64 (wrap64 (z - (4294967296 : Int))), .int .i64 (a + (4 : Int)), .int .i64 0]) = _
          have e := hz2.out
          have l := hb2.out
          have hh := H.out
          subst e
          rw [ref32b _ l hh]; rfl
        · have H := Lib.hid hbig
          go_wp2
          go_ret3
          refine ⟨?_, Below.refl _ _⟩
          show Ending.returned (.tuple #[.int .i64 z, .int .i64 (a + (4 : Int)), .int .i64 0]) = _
          have e := hz2.out
          have hh := H.out
          subst e
          rw [ref32c _ hh]; rfl

/-- the bytes of s from A on, byte by byte -/
theorem ext_get (s : ByteArray) (A k : Nat) (h : k < (s.extract A s.size).size) (h2 : A + k < s.size) : (s.extract A s.size)[k] = s[A + k] := ByteArray.getElem_extract h

theorem rgetText_any (s : ByteArray) (a : Int) (w : World) (hs : s.size ≤ 281474976710656) :
    Calls Try.prog 57 #[.string s, .int .i64 a] w fun e w' => e = .returned (res3 (gText s a)) ∧ w' = w := by
  by_cases h0 : a < 0
  · have e : gText s a = (⟨#[]⟩, 0, 1) := by unfold gText; rw [if_pos (by unfold insB; exact decide_eq_false (by omega))]
    rw [e]; clear e
    go_enter Try.func57, Try.ntmps57
    go_wp2
    go_ret3
    exact ⟨rfl, rfl⟩
  · by_cases h1 : (s.size : Int) < a
    · have e : gText s a = (⟨#[]⟩, 0, 1) := by unfold gText; rw [if_pos (by unfold insB; exact decide_eq_false (by omega))]
      rw [e]; clear e
      go_enter Try.func57, Try.ntmps57
      go_wp2
      go_ret3
      exact ⟨rfl, rfl⟩
    · obtain ⟨A, rfl⟩ : ∃ A : Nat, a = A := ⟨a.toNat, by omega⟩
      have hA : A ≤ s.size := by omega
      have hi : insB s.size A = true := by unfold insB; exact decide_eq_true (by omega)
      obtain ⟨b, hb⟩ : ∃ b, s.extract A s.size = b := ⟨_, rfl⟩
      have hbs : b.size = s.size - A := by rw [← hb]; simp
      have hz := zix_le b
      have hbit : ∀ k, k < b.size → ∀ h2 : A + k < s.size, (h : k < b.size) → b[k] = s[A + k] := by
        intro k _ h2 h; subst hb; exact ext_get s A k h h2
      have G := Lib.hid (show gText s A = if zix b < b.size then (s.extract A (A + zix b), (A : Int) + zix b + 1, 0) else (⟨#[]⟩, 0, 3) by
        unfold gText
        rw [if_neg (by rw [hi]; decide), Int.toNat_natCast, hb]
        by_cases hx : Lib.indexByte b.data.toList 0 = -1
        · rw [if_pos hx, if_neg (by unfold zix; rw [if_pos hx]; omega)]
        · obtain ⟨g1, g2⟩ := zix_lt b hx
          rw [if_neg hx, if_pos g1, g2, show ((A : Int) + (zix b : Int)).toNat = A + zix b by omega])
      have hm := Lib.hid hbit
      have hbs2 : b.size ≤ s.size - A := by omega
      have hbs3 : s.size - A ≤ b.size := by omega
      clear hbit hb hbs hi
      go_enter Try.func57, Try.ntmps57
      go_wp2
      go_loop [7] (fun i => ∃ k : Nat, k ≤ zix b ∧ i = .int .i64 ((A + k : Nat) : Int)) (fun i => s.size - (intOf i).toNat)
      case atStart => exact ⟨0, Nat.zero_le _, rfl⟩
      case round =>
        obtain ⟨k, hk, rfl⟩ := hrel
        by_cases hlt : k < zix b
        · have h3 : A + k < s.size := by omega
          have h4 : k < b.size := by omega
          have h5 := zix_ne b k hlt h4
          rw [hm.out k h4 h3 h4] at h5
          have h6 : ((s[A + k].toNat : Int) == 0) = false := by have := toNat_ne _ h5; simpa using this
          clear h5
          go_wp2
          go_round
          case rel => exact ⟨k + 1, by omega, by go_num⟩
          case measure => simp [intOf]; omega
        · have e : k = zix b := by omega
          by_cases h3 : zix b < b.size
          · have h7 : A + k < s.size := by omega
            have h4 : k < b.size := by omega
            have h5 : b[k] = 0 := by subst e; exact zix_eq b h3
            rw [hm.out k h4 h7 h4] at h5
            have h6 : ((s[A + k].toNat : Int) == 0) = true := by rw [h5]; rfl
            have G2 := Lib.hid (show gText s A = (s.extract A (A + k), (A : Int) + k + 1, 0) by rw [G.out, if_pos h3, e])
            clear h5 e G
            have f1 : (A : Int) ≤ (A : Int) + (k : Int) := by omega
            have f2 : (A : Int) + (k : Int) ≤ s.size := by omega
            have f3 : 0 ≤ (A : Int) + (k : Int) := by omega
            have f4 : ((A : Int) + (k : Int)).toNat = A + k := by omega
            go_wp2
            go_ret3
            rw [G2.out]
            exact ⟨rfl, rfl⟩
          · have h7 : ¬ A + k < s.size := by omega
            have G2 := Lib.hid (show gText s A = (⟨#[]⟩, 0, 3) by rw [G.out, if_neg h3])
            clear e G
            go_wp2
            go_ret3
            rw [G2.out]
            exact ⟨rfl, rfl⟩
end Go.Proofs.Ytnjifbgjglniaaa
