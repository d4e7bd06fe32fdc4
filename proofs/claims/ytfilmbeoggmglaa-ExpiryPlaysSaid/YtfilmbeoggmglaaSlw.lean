/- What package slru's Touch and Put tell, and what they make of a store. Conditions: how long keys are, how many puts there were. -/
import Derived.Test.YtfilmbeoggmglaaSlv
namespace Go.Proofs.Ytfilmbeoggmglaa.SL
open Go.ChangeShapes Go.WideShapes Go.ChangeAt Go.RowKit Go.Maps Go.ChangeMaps
set_option maxRecDepth 100000
set_option linter.unusedVariables false
set_option linter.unusedSimpArgs false

theorem OT.mono {B B' : Nat} {w : World} {v : Value} {d : List ByteArray} (h : OT B w v d) (hB : B' ≤ B) : OT B' w v d := by
  refine ⟨h.1, ?_⟩
  rcases h.2 with h2 | ⟨g, cap, cur, rfl, hb, hr⟩
  · exact .inl h2
  · exact .inr ⟨g, cap, cur, rfl, Nat.le_trans hB hb, hr⟩
theorem OT.form {B : Nat} {w : World} {v : Value} {d : List ByteArray} (h : OT B w v d) : ∃ a c, v = .slice a d.length c := by
  rcases h.2 with ⟨rfl, h0⟩ | ⟨g, cap, cur, rfl, _⟩
  · exact ⟨_, _, by rw [h0]⟩
  · exact ⟨_, _, rfl⟩
theorem shr_none {ke : Int} {n : Nat} {T K : List En} (h : sumE K ≤ ke) : shrE ke n T K = (T, K, []) := by
  cases n with
  | zero => rfl
  | succ n => unfold shrE; rw [if_neg (by omega)]
/-- a list of texts that is told, beside a second answer, and what has become of the store -/
def TellP (g n n' : Nat) (al ke mo : Int) (x : Sx) (R : List En × List En × List ByteArray) (a : Value) (w : World) (e : Ending) (w' : World) : Prop :=
  ∃ v x', e = .returned (.tuple #[v, a]) ∧ OT w.heap.size w' v R.2.2 ∧ St w' g n' al ke mo x' ∧ x'.tE = R.1 ∧ x'.kE = R.2.1 ∧ (∀ y, x'.own g y → x.own g y ∨ w.heap.size ≤ y ∧ v.ownBlock ≠ some y) ∧ Chg (x.own g) w w'
theorem touch_no (w : World) (g n : Nat) (al ke mo : Int) (x : Sx) (h : St w g n al ke mo x) (k : ByteArray) (hk : k.size ≤ 281474976710656) (hf : x.f k = none) :
    Calls Try.prog 14 #[ptr g, .string k] w fun e w' => e = .returned (.tuple #[.slice none 0 0, .bool false]) ∧ w = w' := by
  have HFI := Lib.hid (find_no w g n al ke mo x h k hk hf)
  clear h hk hf
  go_enter Try.func14, Try.ntmps14
  go_wp2_with (go_at_call 47; refine HFI.out.mono ?_; rintro e w' ⟨rfl, rfl⟩)
  go_ret2
  exact ⟨rfl, rfl⟩
theorem touch_nil (w : World) (k : ByteArray) :
    Calls Try.prog 14 #[.pointer none, .string k] w fun e w' => e = .returned (.tuple #[.slice none 0 0, .bool false]) ∧ w = w' := by
  go_enter Try.func14, Try.ntmps14
  go_wp2_with (go_at_call 47; refine (find_nil _ _).mono ?_; rintro e w' ⟨rfl, rfl⟩)
  go_ret2
  exact ⟨rfl, rfl⟩
theorem touch_zero (w : World) (g : Nat) (k : ByteArray) (h : w.cell? ⟨g, 0, none⟩ = some (.pointer none)) :
    Calls Try.prog 14 #[ptr g, .string k] w fun e w' => e = .returned (.tuple #[.slice none 0 0, .bool false]) ∧ w = w' := by
  go_enter Try.func14, Try.ntmps14
  go_wp2_with (go_at_call 47; refine (find_zero _ g _ h).mono ?_; rintro e w' ⟨rfl, rfl⟩)
  go_ret2
  exact ⟨rfl, rfl⟩
set_option maxHeartbeats 2000000 in
theorem touch_TK (w : World) (g n : Nat) (al ke mo : Int) (x : Sx) (h : St w g n al ke mo x) (hke : 0 ≤ ke) (k : ByteArray) (hk : k.size ≤ 281474976710656) (b : Nat) (hf : x.f k = some b) (hb : b ∈ x.T) (z : Int) (hz : (x.F b).z = z) (hc : decide (z ≤ ke) = true)
    (R : List En × List En × List ByteArray) (hR : shrE ke ((k, z) :: delE k x.kE).length (delE k x.tE) ((k, z) :: delE k x.kE) = R) :
    Calls Try.prog 14 #[ptr g, .string k] w (TellP g n n al ke mo x R (.bool true) w) := by
  obtain ⟨hkb, _, hnb, _⟩ := h.some_ hf
  have HFI := Lib.hid (find_yes w g n al ke mo x h k hk b hf)
  obtain ⟨_, d1, _⟩ := h.node hnb
  rw [hz] at d1
  obtain ⟨_, _, c2, _⟩ := h.cells
  have HMV := Lib.hid (fun N => move_TK (w.drewN N) g n al ke mo x (h.sm ⟨rfl, rfl, rfl, rfl⟩) b hb)
  rw [hkb, hz] at HMV
  have HR := Lib.hid hR
  have HKE := Lib.hid hke
  have HLT := Lib.hid (fun y hy => h.lt (b := y) hy)
  clear h hf hb hz hR hkb hnb hk hke
  go_enter Try.func14, Try.ntmps14
  go_wp2_with fail
  refine HFI.out.mono ?_
  rintro e w' ⟨rfl, rfl⟩
  go_wp2
  go_quiet (fail)
  go_wp2_with fail
  refine (HMV.out nq).mono ?_
  rintro e w2 ⟨rfl, ⟨x2, s1, s2, s3, s4, s5, s6⟩, _⟩
  have HSH := Lib.hid (shrink_any w2 g n al ke mo x2 s1 HKE.out R (by rw [s2, s3]; exact HR.out))
  have HS4 := Lib.hid s4
  have HS5 := Lib.hid s5
  have HS6 : Hid (w2.heap.size = w.heap.size) := Lib.hid s6
  clear s1 s2 s3 s4 s5 s6
  go_wp2_with fail
  refine HSH.out.mono ?_
  rintro e w3 ⟨v, x3, rfl, t1, t2, t3, t4, t5, t6⟩
  obtain ⟨va, vc, rfl⟩ := t1.form
  go_wp2
  go_ret2
  exact ⟨_, x3, rfl, by rw [← HS6.out]; exact t1, t2, t3, t4, fun y hy => .inl (HS4.out y (t5 y hy)), ((Chg.refl _ w).drewN nq).trans (HS5.out.trans (t6.mono fun q _ hq => HS4.out q hq))⟩
set_option maxHeartbeats 2000000 in
theorem touch_TT (w : World) (g n : Nat) (al ke mo : Int) (x : Sx) (h : St w g n al ke mo x) (hke : 0 ≤ ke) (k : ByteArray) (hk : k.size ≤ 281474976710656) (b : Nat) (hf : x.f k = some b) (hb : b ∈ x.T) (z : Int) (hz : (x.F b).z = z) (hc : decide (z ≤ ke) = false)
    (R : List En × List En × List ByteArray) (hR : shrE ke (delE k x.kE).length ((k, z) :: delE k x.tE) (delE k x.kE) = R) :
    Calls Try.prog 14 #[ptr g, .string k] w (TellP g n n al ke mo x R (.bool true) w) := by
  obtain ⟨hkb, _, hnb, _⟩ := h.some_ hf
  have HFI := Lib.hid (find_yes w g n al ke mo x h k hk b hf)
  obtain ⟨_, d1, _⟩ := h.node hnb
  rw [hz] at d1
  obtain ⟨_, _, c2, _⟩ := h.cells
  have HMV := Lib.hid (fun N => move_TT (w.drewN N) g n al ke mo x (h.sm ⟨rfl, rfl, rfl, rfl⟩) b hb)
  rw [hkb, hz] at HMV
  have HR := Lib.hid hR
  have HKE := Lib.hid hke
  have HLT := Lib.hid (fun y hy => h.lt (b := y) hy)
  clear h hf hb hz hR hkb hnb hk hke
  go_enter Try.func14, Try.ntmps14
  go_wp2_with fail
  refine HFI.out.mono ?_
  rintro e w' ⟨rfl, rfl⟩
  go_wp2
  go_quiet (fail)
  go_wp2_with fail
  refine (HMV.out nq).mono ?_
  rintro e w2 ⟨rfl, ⟨x2, s1, s2, s3, s4, s5, s6⟩, _⟩
  have HSH := Lib.hid (shrink_any w2 g n al ke mo x2 s1 HKE.out R (by rw [s2, s3]; exact HR.out))
  have HS4 := Lib.hid s4
  have HS5 := Lib.hid s5
  have HS6 : Hid (w2.heap.size = w.heap.size) := Lib.hid s6
  clear s1 s2 s3 s4 s5 s6
  go_wp2_with fail
  refine HSH.out.mono ?_
  rintro e w3 ⟨v, x3, rfl, t1, t2, t3, t4, t5, t6⟩
  obtain ⟨va, vc, rfl⟩ := t1.form
  go_wp2
  go_ret2
  exact ⟨_, x3, rfl, by rw [← HS6.out]; exact t1, t2, t3, t4, fun y hy => .inl (HS4.out y (t5 y hy)), ((Chg.refl _ w).drewN nq).trans (HS5.out.trans (t6.mono fun q _ hq => HS4.out q hq))⟩
set_option maxHeartbeats 2000000 in
theorem touch_KK (w : World) (g n : Nat) (al ke mo : Int) (x : Sx) (h : St w g n al ke mo x) (hke : 0 ≤ ke) (k : ByteArray) (hk : k.size ≤ 281474976710656) (b : Nat) (hf : x.f k = some b) (hb : b ∈ x.K) (z : Int) (hz : (x.F b).z = z) (hc : decide (z ≤ ke) = true)
    (R : List En × List En × List ByteArray) (hR : shrE ke ((k, z) :: delE k x.kE).length (delE k x.tE) ((k, z) :: delE k x.kE) = R) :
    Calls Try.prog 14 #[ptr g, .string k] w (TellP g n n al ke mo x R (.bool true) w) := by
  obtain ⟨hkb, _, hnb, _⟩ := h.some_ hf
  have HFI := Lib.hid (find_yes w g n al ke mo x h k hk b hf)
  obtain ⟨_, d1, _⟩ := h.node hnb
  rw [hz] at d1
  obtain ⟨_, _, c2, _⟩ := h.cells
  have HMV := Lib.hid (fun N => move_KK (w.drewN N) g n al ke mo x (h.sm ⟨rfl, rfl, rfl, rfl⟩) b hb)
  rw [hkb, hz] at HMV
  have HR := Lib.hid hR
  have HKE := Lib.hid hke
  have HLT := Lib.hid (fun y hy => h.lt (b := y) hy)
  clear h hf hb hz hR hkb hnb hk hke
  go_enter Try.func14, Try.ntmps14
  go_wp2_with fail
  refine HFI.out.mono ?_
  rintro e w' ⟨rfl, rfl⟩
  go_wp2
  go_quiet (fail)
  go_wp2_with fail
  refine (HMV.out nq).mono ?_
  rintro e w2 ⟨rfl, ⟨x2, s1, s2, s3, s4, s5, s6⟩, _⟩
  have HSH := Lib.hid (shrink_any w2 g n al ke mo x2 s1 HKE.out R (by rw [s2, s3]; exact HR.out))
  have HS4 := Lib.hid s4
  have HS5 := Lib.hid s5
  have HS6 : Hid (w2.heap.size = w.heap.size) := Lib.hid s6
  clear s1 s2 s3 s4 s5 s6
  go_wp2_with fail
  refine HSH.out.mono ?_
  rintro e w3 ⟨v, x3, rfl, t1, t2, t3, t4, t5, t6⟩
  obtain ⟨va, vc, rfl⟩ := t1.form
  go_wp2
  go_ret2
  exact ⟨_, x3, rfl, by rw [← HS6.out]; exact t1, t2, t3, t4, fun y hy => .inl (HS4.out y (t5 y hy)), ((Chg.refl _ w).drewN nq).trans (HS5.out.trans (t6.mono fun q _ hq => HS4.out q hq))⟩
/-- Touch of a key that is there -/
theorem touch_yes (w : World) (g n : Nat) (al ke mo : Int) (x : Sx) (h : St w g n al ke mo x) (hke : 0 ≤ ke) (hsk : sumE x.kE ≤ ke) (k : ByteArray) (hk : k.size ≤ 281474976710656) (z : Int) (hz : hasS k x.tE x.kE = some z) :
    Calls Try.prog 14 #[ptr g, .string k] w (TellP g n n al ke mo x (touchE ke k z x.tE x.kE) (.bool true) w) := by
  cases hf : x.f k with
  | none =>
    obtain ⟨_, h1, h2, _⟩ := h.none_ hf
    unfold hasS at hz
    rw [h1, h2] at hz
    cases hz
  | some b =>
    obtain ⟨hkb, _, hnb, h0⟩ := h.some_ hf
    rcases h0 with ⟨hb, _, _, h1, h2, hd⟩ | ⟨hb, _, _, h1, h2, hd⟩
    · have hz2 : (x.F b).z = z := by unfold hasS at hz; rw [h1, h2] at hz; simpa using hz
      unfold touchE
      by_cases hc : z ≤ ke
      · rw [if_pos hc]
        exact touch_TK w g n al ke mo x h hke k hk b hf hb z hz2 (decide_eq_true hc) _ (by rw [List.length_cons])
      · rw [if_neg hc]
        exact touch_TT w g n al ke mo x h hke k hk b hf hb z hz2 (decide_eq_false hc) _ (shr_none (by rw [hd]; exact hsk))
    · have hz2 : (x.F b).z = z := by unfold hasS at hz; rw [h1, h2] at hz; simpa using hz
      have hc : z ≤ ke := by
        have := sum_mem h.gg.en_pos.2 ((x.F b).k, (x.F b).z) (List.mem_map.2 ⟨b, hb, rfl⟩)
        have e : sumE x.kE = sumE (en x.F x.K) := rfl
        simp only at this
        omega
      unfold touchE
      rw [if_pos hc]
      exact touch_KK w g n al ke mo x h hke k hk b hf hb z hz2 (decide_eq_true hc) _ (by rw [List.length_cons])
/-! ### Put -/
theorem room_sub {al z : Int} : ∀ (n : Nat) (T K : List En), (∀ y ∈ (roomE al z n T K).1, y ∈ T) ∧ ∀ y ∈ (roomE al z n T K).2.1, y ∈ K
  | 0, T, K => ⟨fun _ h => h, fun _ h => h⟩
  | n + 1, T, K => by
    unfold roomE
    split
    · split
      · rename_i a _
        obtain ⟨h1, h2⟩ := room_sub (al := al) (z := z) n T.dropLast K
        exact ⟨fun y hy => List.dropLast_subset _ (h1 y hy), h2⟩
      · split
        · obtain ⟨h1, h2⟩ := room_sub (al := al) (z := z) n T K.dropLast
          exact ⟨h1, fun y hy => List.dropLast_subset _ (h2 y hy)⟩
        · exact ⟨fun _ h => h, fun _ h => h⟩
    · exact ⟨fun _ h => h, fun _ h => h⟩
theorem room_fit {al z : Int} (hz : z ≤ al) : ∀ (n : Nat) (T K : List En), T.length + K.length = n → sumE (roomE al z n T K).1 + sumE (roomE al z n T K).2.1 + z ≤ al
  | 0, T, K, h => by
    have h1 : T = [] := List.eq_nil_of_length_eq_zero (by omega)
    have h2 : K = [] := List.eq_nil_of_length_eq_zero (by omega)
    subst h1 h2
    show (0 : Int) + 0 + z ≤ al
    omega
  | n + 1, T, K, h => by
    unfold roomE
    split
    · split
      · rename_i a ha
        have : 0 < T.length := by cases T; simp at ha; simp
        exact room_fit hz n T.dropLast K (by rw [List.length_dropLast]; omega)
      · rename_i ha
        have : T = [] := List.getLast?_eq_none_iff.1 ha
        subst this
        split
        · rename_i b hb
          have : 0 < K.length := by cases K; simp at hb; simp
          exact room_fit hz n [] K.dropLast (by rw [List.length_dropLast]; simp at h ⊢; omega)
        · rename_i hb
          have : K = [] := List.getLast?_eq_none_iff.1 hb
          subst this
          simp at h
    · simp only; omega
theorem St.fnone {w : World} {g n : Nat} {al ke mo : Int} {x : Sx} (h : St w g n al ke mo x) {k : ByteArray} (hT : ∀ y ∈ x.tE, y.1 ≠ k) (hK : ∀ y ∈ x.kE, y.1 ≠ k) : x.f k = none := by
  cases hf : x.f k with
  | none => rfl
  | some b =>
    exfalso
    obtain ⟨hb, e⟩ := (h.lk k b).1 hf
    rcases hb with hb | hb
    · exact hT _ (List.mem_map.2 ⟨b, hb, rfl⟩) e
    · exact hK _ (List.mem_map.2 ⟨b, hb, rfl⟩) e
theorem del_ne {k : ByteArray} {l : List En} {y : En} (h : y ∈ delE k l) : y ∈ l ∧ y.1 ≠ k := by
  obtain ⟨h1, h2⟩ := List.mem_filter.1 h
  exact ⟨h1, by simpa using h2⟩
theorem put_low (w : World) (g n : Nat) (al ke mo : Int) (x : Sx) (h : St w g n al ke mo x) (k : ByteArray) (z : Int) (hz : z < 1) :
    Calls Try.prog 11 #[ptr g, .string k, .int .i64 z] w fun e w' => e = .returned (.tuple #[.slice none 0 0, .int .i64 1]) ∧ w = w' := by
  obtain ⟨c0, _, _, c3, _⟩ := h.cells
  have d1 : decide (z < 1) = true := decide_eq_true hz
  clear h hz
  go_enter Try.func11, Try.ntmps11
  go_wp2_with (go_at_call 42; refine (given_yes _ g c0).mono ?_; rintro e w' ⟨rfl, rfl⟩)
  go_ret2
  exact ⟨rfl, rfl⟩
theorem put_big (w : World) (g n : Nat) (al ke mo : Int) (x : Sx) (h : St w g n al ke mo x) (k : ByteArray) (z : Int) (hz : 1 ≤ z) (hm : mo < z) :
    Calls Try.prog 11 #[ptr g, .string k, .int .i64 z] w fun e w' => e = .returned (.tuple #[.slice none 0 0, .int .i64 2]) ∧ w = w' := by
  obtain ⟨c0, _, _, c3, _⟩ := h.cells
  have d1 : decide (z < 1) = false := decide_eq_false (by omega)
  have d2 : decide (mo < z) = true := decide_eq_true hm
  clear h hz hm
  go_enter Try.func11, Try.ntmps11
  go_wp2_with (go_at_call 42; refine (given_yes _ g c0).mono ?_; rintro e w' ⟨rfl, rfl⟩)
  go_ret2
  exact ⟨rfl, rfl⟩
theorem put_nil (w : World) (k : ByteArray) (z : Int) :
    Calls Try.prog 11 #[.pointer none, .string k, .int .i64 z] w fun e w' => e = .returned (.tuple #[.slice none 0 0, .int .i64 12]) ∧ w = w' := by
  go_enter Try.func11, Try.ntmps11
  go_wp2_with (go_at_call 42; refine (given_nil _).mono ?_; rintro e w' ⟨rfl, rfl⟩)
  go_ret2
  exact ⟨rfl, rfl⟩
theorem put_zero (w : World) (g : Nat) (k : ByteArray) (z : Int) (h : w.cell? ⟨g, 0, none⟩ = some (.pointer none)) :
    Calls Try.prog 11 #[ptr g, .string k, .int .i64 z] w fun e w' => e = .returned (.tuple #[.slice none 0 0, .int .i64 12]) ∧ w = w' := by
  go_enter Try.func11, Try.ntmps11
  go_wp2_with (go_at_call 42; refine (given_zero _ g h).mono ?_; rintro e w' ⟨rfl, rfl⟩)
  go_ret2
  exact ⟨rfl, rfl⟩
set_option maxHeartbeats 2000000 in
theorem put_ok (w : World) (g n : Nat) (al ke mo : Int) (x : Sx) (h : St w g n al ke mo x) (hal : mo ≤ al ∧ al ≤ 1073741824) (hn : n < 1099511627776) (hks : ∀ y ∈ x.tE ++ x.kE, y.1.size ≤ 281474976710656) (k : ByteArray) (hk : k.size ≤ 281474976710656) (z : Int) (hz : 1 ≤ z) (hm : z ≤ mo)
    (R : List En × List En × List ByteArray) (hR : putE al k z x.tE x.kE = R) :
    Calls Try.prog 11 #[ptr g, .string k, .int .i64 z] w (TellP g n (n + 1) al ke mo x R (.int .i64 0) w) := by
  obtain ⟨c0, _, _, c3, _⟩ := h.cells
  have d1 : decide (z < 1) = false := decide_eq_false (by omega)
  have d2 : decide (mo < z) = false := decide_eq_false (by omega)
  have HDR := Lib.hid (drop_any w g n al ke mo x h k hk)
  obtain ⟨Q, hQ⟩ : ∃ Q, roomE al z ((delE k x.tE).length + (delE k x.kE).length) (delE k x.tE) (delE k x.kE) = Q := ⟨_, rfl⟩
  have hR2 : R = ((k, z) :: Q.1, Q.2.1, Q.2.2) := by rw [← hR]; unfold putE; rw [hQ]
  subst hR2
  have hsub := room_sub (al := al) (z := z) ((delE k x.tE).length + (delE k x.kE).length) (delE k x.tE) (delE k x.kE)
  have hfit := room_fit (al := al) (z := z) (by omega) ((delE k x.tE).length + (delE k x.kE).length) (delE k x.tE) (delE k x.kE) rfl
  rw [hQ] at hsub hfit
  have HRO := Lib.hid (fun (W : World) (x1 : Sx) (s1 : St W g n al ke mo x1) (s2 : x1.tE = delE k x.tE) (s3 : x1.kE = delE k x.kE) => room_any W g n al ke mo x1 s1 z ⟨hz, by omega, by omega⟩ (fun y hy => hks y (by
    rw [s2, s3] at hy
    rcases List.mem_append.1 hy with h0 | h0
    · exact List.mem_append.2 (.inl (del_ne h0).1)
    · exact List.mem_append.2 (.inr (del_ne h0).1))) Q (by rw [s2, s3]; exact hQ))
  have HAD := Lib.hid (fun (W : World) (x2 : Sx) (s1 : St W g n al ke mo x2) (s2 : x2.tE = Q.1) (s3 : x2.kE = Q.2.1) => add_T W g n al ke mo x2 s1 k hk (s1.fnone (fun y hy => (del_ne (hsub.1 y (by rw [← s2]; exact hy))).2) (fun y hy => (del_ne (hsub.2 y (by rw [← s3]; exact hy))).2)) z hz (by rw [s2, s3]; omega) hn)
  have HLT := Lib.hid (fun y hy => h.lt (b := y) hy)
  have HK := Lib.hid hk
  clear h hal hn hks hk hz hm hR hQ hsub hfit
  go_enter Try.func11, Try.ntmps11
  go_wp2_with fail
  refine (given_yes _ g c0).mono ?_
  rintro e w' ⟨rfl, rfl⟩
  go_wp2_with fail
  refine HDR.out.mono ?_
  rintro e w1 ⟨rfl, x1, s1, s2, s3, s4, s5, s6⟩
  have HR1 := Lib.hid (HRO.out w1 x1 s1 s2 s3)
  have HO1 := Lib.hid s4
  have HC1 := Lib.hid s5
  have HZ1 := Lib.hid s6
  clear s1 s2 s3 s4 s5 s6
  go_wp2_with fail
  refine HR1.out.mono ?_
  rintro e w2 ⟨v, x2, rfl, t1, t2, t3, t4, t5, t6⟩
  obtain ⟨va, vc, rfl⟩ := t1.form
  have HV := Lib.hid t1
  have HS2 := Lib.hid t2
  have HT2 := Lib.hid t3
  have HK2 := Lib.hid t4
  have HO2 := Lib.hid t5
  have HC2 := Lib.hid t6
  clear t1 t2 t3 t4 t5 t6
  go_wp2_with fail
  refine (clone_any k _ HK.out).mono ?_
  rintro e w3 ⟨rfl, hb3⟩
  have HA := Lib.hid (HAD.out w3 x2 (HS2.out.below hb3) HT2.out HK2.out)
  have HB3 := Lib.hid hb3
  clear hb3
  go_wp2_with fail
  refine HA.out.mono ?_
  rintro e w4 ⟨rfl, x4, u1, u2, u3, u4, u5⟩
  have HA4 := Lib.hid u4
  have HC4 := Lib.hid u5
  have HS4 := Lib.hid u1
  have HT4 := Lib.hid u2
  have HK4 := Lib.hid u3
  clear u1 u2 u3 u4 u5
  go_wp2
  go_ret2
  have hlow : ∀ q, (Value.slice va Q.2.2.length vc).ownBlock = some q → w.heap.size ≤ q ∧ q < w2.heap.size := fun q hq => by
    obtain ⟨h1, h2⟩ := World.ownsRow.lt HV.out q hq
    have := HZ1.out
    exact ⟨by omega, h2⟩
  have hx2 : ∀ y, x2.own g y → x.own g y := fun y hy => HO1.out y (HO2.out y hy)
  refine ⟨_, x4, rfl, ?_, HS4.out, by rw [HT4.out, HT2.out], by rw [HK4.out, HK2.out], fun y hy => ?_, ?_⟩
  · refine ((HV.out.mono (B' := w.heap.size) (by rw [HZ1.out]; exact Nat.le_refl _)).below HB3.out).chg HC4.out fun q hq e => ?_
    have h1 := (hlow q hq).1
    have h2 := HLT.out q (hx2 q e)
    omega
  · rcases HA4.out y hy with h0 | h0
    · exact .inl (hx2 y h0)
    · refine .inr ⟨?_, fun e => ?_⟩
      · have := HB3.out.size; have := HC2.out.size; have := HZ1.out; omega
      · have := (hlow y e).2; have := HB3.out.size; omega
  · exact HC1.out.trans ((HC2.out.mono fun q _ hq => HO1.out q hq).trans ((Chg.of_below HB3.out).trans (HC4.out.mono fun q _ hq => hx2 q hq)))
end Go.Proofs.Ytfilmbeoggmglaa.SL
