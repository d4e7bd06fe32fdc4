/- What package slru's find, Bytes, Has and Drop do to a store. Condition: how long the key is. -/
import Derived.Test.YtfilmbeoggmglaaSlo
namespace Go.Proofs.Ytfilmbeoggmglaa.SL
open Go.ChangeShapes Go.WideShapes Go.ChangeAt Go.RowKit Go.Maps Go.ChangeMaps
set_option maxRecDepth 100000
set_option linter.unusedVariables false
set_option linter.unusedSimpArgs false

theorem zeroP (w : World) : (zeroValue 76).run Try.prog w = .ok (.pointer none) w := by
  obtain ⟨j, hj, hz⟩ : ∃ j, Try.prog.info? 76 = some j ∧ j.zero = some (.pointer none) := by
    have h : (Try.prog.info? 76).bind (·.zero) = some (.pointer none) := by kernel_rfl
    cases hi : Try.prog.info? 76 with
    | none => rw [hi] at h; cases h
    | some j => rw [hi] at h; exact ⟨j, rfl, h⟩
  simp [zeroValue, typeInfo, hj, hz]
theorem MapP.look {w : World} {b n : Nat} {f : ByteArray → Option Nat} (h : MapP w b n f) (k : ByteArray) (hk : k.size ≤ 281474976710656) :
    (Instr.lookup 80 (.map (some b)) (.string k) false).run Try.prog w = .ok (pV (f k)) w := by
  obtain ⟨D, hown, hf⟩ := h
  obtain ⟨v, ps, hr, hv⟩ := hown.lookup strK Try.underlying80 (zeroP w) (ptrE_mk none) (keyB k hk)
  rw [hf] at hv
  rw [hr, ptrE_inv hv]
theorem St.cells {w : World} {g n : Nat} {al ke mo : Int} {x : Sx} (h : St w g n al ke mo x) :
    w.cell? ⟨g, 0, none⟩ = some (ptr g) ∧ w.cell? ⟨g, 1, none⟩ = some (.int .i64 al) ∧ w.cell? ⟨g, 2, none⟩ = some (.int .i64 ke) ∧ w.cell? ⟨g, 3, none⟩ = some (.int .i64 mo) ∧ w.cell? ⟨g, 4, none⟩ = some (ptr x.e0) ∧ w.cell? ⟨g, 5, none⟩ = some (.int .i64 (sumE x.tE)) ∧ w.cell? ⟨g, 6, none⟩ = some (ptr x.e1) ∧ w.cell? ⟨g, 7, none⟩ = some (.int .i64 (sumE x.kE)) ∧ w.cell? ⟨g, 8, none⟩ = some (.map (some x.mb)) :=
  ⟨h.bk.cell 0, h.bk.cell 1, h.bk.cell 2, h.bk.cell 3, h.bk.cell 4, h.bk.cell 5, h.bk.cell 6, h.bk.cell 7, h.bk.cell 8⟩
theorem St.node {w : World} {g n : Nat} {al ke mo : Int} {x : Sx} (h : St w g n al ke mo x) {b : Nat} (hb : x.nd b) :
    w.cell? ⟨b, 0, none⟩ = some (.string (x.F b).k) ∧ w.cell? ⟨b, 1, none⟩ = some (.int .i64 (x.F b).z) ∧ w.cell? ⟨b, 2, none⟩ = some (.int .i64 (x.F b).s) ∧ w.cell? ⟨b, 3, none⟩ = some (pV (x.F b).nw) ∧ w.cell? ⟨b, 4, none⟩ = some (pV (x.F b).od) :=
  ⟨(h.nn b hb).cell 0, (h.nn b hb).cell 1, (h.nn b hb).cell 2, (h.nn b hb).cell 3, (h.nn b hb).cell 4⟩
theorem St.sums {w : World} {g n : Nat} {al ke mo : Int} {x : Sx} (h : St w g n al ke mo x) : 0 ≤ sumE x.tE ∧ 0 ≤ sumE x.kE := ⟨sum_nonneg h.gg.en_pos.1, sum_nonneg h.gg.en_pos.2⟩
set_option maxHeartbeats 1000000 in
theorem find_any (w : World) (g n : Nat) (al ke mo : Int) (x : Sx) (h : St w g n al ke mo x) (k : ByteArray) (hk : k.size ≤ 281474976710656) :
    Calls Try.prog 47 #[ptr g, .string k] w fun e w' => e = .returned (pV (x.f k)) ∧ w = w' := by
  obtain ⟨c0, _, _, _, _, _, _, _, c8⟩ := h.cells
  have hl := h.mp.look k hk
  clear h hk
  go_enter Try.func47, Try.ntmps47
  go_wp2_with (go_at_call 42; refine (given_yes _ g c0).mono ?_; rintro e w' ⟨rfl, rfl⟩)
  go_ret
  exact ⟨rfl, rfl⟩
theorem find_nil (w : World) (k : ByteArray) :
    Calls Try.prog 47 #[.pointer none, .string k] w fun e w' => e = .returned (.pointer none) ∧ w = w' := by
  go_enter Try.func47, Try.ntmps47
  go_wp2_with (go_at_call 42; refine (given_nil _).mono ?_; rintro e w' ⟨rfl, rfl⟩)
  go_ret
  exact ⟨rfl, rfl⟩
theorem find_zero (w : World) (g : Nat) (k : ByteArray) (h : w.cell? ⟨g, 0, none⟩ = some (.pointer none)) :
    Calls Try.prog 47 #[ptr g, .string k] w fun e w' => e = .returned (.pointer none) ∧ w = w' := by
  go_enter Try.func47, Try.ntmps47
  go_wp2_with (go_at_call 42; refine (given_zero _ g h).mono ?_; rintro e w' ⟨rfl, rfl⟩)
  go_ret
  exact ⟨rfl, rfl⟩
theorem find_no (w : World) (g n : Nat) (al ke mo : Int) (x : Sx) (h : St w g n al ke mo x) (k : ByteArray) (hk : k.size ≤ 281474976710656) (hf : x.f k = none) :
    Calls Try.prog 47 #[ptr g, .string k] w fun e w' => e = .returned (.pointer none) ∧ w = w' := by
  have := find_any w g n al ke mo x h k hk
  rw [hf] at this; exact this
theorem find_yes (w : World) (g n : Nat) (al ke mo : Int) (x : Sx) (h : St w g n al ke mo x) (k : ByteArray) (hk : k.size ≤ 281474976710656) (b : Nat) (hf : x.f k = some b) :
    Calls Try.prog 47 #[ptr g, .string k] w fun e w' => e = .returned (ptr b) ∧ w = w' := by
  have := find_any w g n al ke mo x h k hk
  rw [hf] at this; exact this
set_option maxHeartbeats 1000000 in
theorem bytes_false (w : World) (g n : Nat) (al ke mo : Int) (x : Sx) (h : St w g n al ke mo x) :
    Calls Try.prog 23 #[ptr g, .bool false] w fun e w' => e = .returned (.int .i64 (sumE x.tE)) ∧ ∃ n, w' = w.drewN n := by
  obtain ⟨c0, _, _, _, _, c5, _, c7, _⟩ := h.cells
  clear h
  go_enter Try.func23, Try.ntmps23
  go_wp2_with (go_at_call 42; refine (given_yes _ g c0).mono ?_; rintro e w' ⟨rfl, rfl⟩)
  go_quiet ((go_at_call 54; exact Calls.quiet_of_same ((where_any false _).mono fun _ _ h => ⟨h.1, h.2.symm⟩)))
  go_wp2
  go_ret
  exact ⟨rfl, _, rfl⟩
set_option maxHeartbeats 1000000 in
theorem bytes_true (w : World) (g n : Nat) (al ke mo : Int) (x : Sx) (h : St w g n al ke mo x) :
    Calls Try.prog 23 #[ptr g, .bool true] w fun e w' => e = .returned (.int .i64 (sumE x.kE)) ∧ ∃ n, w' = w.drewN n := by
  obtain ⟨c0, _, _, _, _, c5, _, c7, _⟩ := h.cells
  clear h
  go_enter Try.func23, Try.ntmps23
  go_wp2_with (go_at_call 42; refine (given_yes _ g c0).mono ?_; rintro e w' ⟨rfl, rfl⟩)
  go_quiet ((go_at_call 54; exact Calls.quiet_of_same ((where_any true _).mono fun _ _ h => ⟨h.1, h.2.symm⟩)))
  go_wp2
  go_ret
  exact ⟨rfl, _, rfl⟩
theorem bytes_nil (w : World) (b : Bool) :
    Calls Try.prog 23 #[.pointer none, .bool b] w fun e w' => e = .returned (.int .i64 0) ∧ w = w' := by
  go_enter Try.func23, Try.ntmps23
  go_wp2_with (go_at_call 42; refine (given_nil _).mono ?_; rintro e w' ⟨rfl, rfl⟩)
  go_ret
  exact ⟨rfl, rfl⟩
theorem bytes_zero (w : World) (g : Nat) (b : Bool) (h : w.cell? ⟨g, 0, none⟩ = some (.pointer none)) :
    Calls Try.prog 23 #[ptr g, .bool b] w fun e w' => e = .returned (.int .i64 0) ∧ w = w' := by
  go_enter Try.func23, Try.ntmps23
  go_wp2_with (go_at_call 42; refine (given_zero _ g h).mono ?_; rintro e w' ⟨rfl, rfl⟩)
  go_ret
  exact ⟨rfl, rfl⟩
/-! ### what the map tells of the lists -/
theorem has_none {k : ByteArray} {F : Nat → Nd} {L : List Nat} (h : ∀ b ∈ L, (F b).k ≠ k) : hasE k (en F L) = none := by
  unfold hasE
  rw [Option.map_eq_none_iff, List.find?_eq_none]
  intro y hy
  obtain ⟨b, hb, rfl⟩ := List.mem_map.1 hy
  simpa using h b hb
theorem has_some {k : ByteArray} {F : Nat → Nd} {L : List Nat} {b : Nat} (hb : b ∈ L) (hk : (F b).k = k) (hu : ∀ c ∈ L, (F c).k = k → c = b) : hasE k (en F L) = some (F b).z := by
  unfold hasE
  cases hf : (en F L).find? (fun y => decide (y.1 = k)) with
  | none =>
    rw [List.find?_eq_none] at hf
    have := hf ((F b).k, (F b).z) (List.mem_map.2 ⟨b, hb, rfl⟩)
    simp [hk] at this
  | some y =>
    have h1 := List.find?_some hf
    have h2 := List.mem_of_find?_eq_some hf
    obtain ⟨c, hc, rfl⟩ := List.mem_map.1 h2
    have := hu c hc (by simpa using h1)
    subst this; rfl
theorem St.none_ {w : World} {g n : Nat} {al ke mo : Int} {x : Sx} (h : St w g n al ke mo x) {k : ByteArray} (hf : x.f k = none) : (∀ b, b ∈ x.T ∨ b ∈ x.K → (x.F b).k ≠ k) ∧ hasE k x.tE = none ∧ hasE k x.kE = none ∧ delE k x.tE = x.tE ∧ delE k x.kE = x.kE := by
  have h0 : ∀ b, b ∈ x.T ∨ b ∈ x.K → (x.F b).k ≠ k := fun b hb e => by
    have := (h.lk k b).2 ⟨hb, e⟩
    rw [hf] at this; cases this
  refine ⟨h0, has_none fun b hb => h0 b (.inl hb), has_none fun b hb => h0 b (.inr hb), del_none fun y hy => ?_, del_none fun y hy => ?_⟩
  · obtain ⟨b, hb, rfl⟩ := List.mem_map.1 hy; exact h0 b (.inl hb)
  · obtain ⟨b, hb, rfl⟩ := List.mem_map.1 hy; exact h0 b (.inr hb)
theorem St.some_ {w : World} {g n : Nat} {al ke mo : Int} {x : Sx} (h : St w g n al ke mo x) {k : ByteArray} {b : Nat} (hf : x.f k = some b) :
    (x.F b).k = k ∧ 1 ≤ (x.F b).z ∧ x.nd b ∧ ((b ∈ x.T ∧ b ∉ x.K ∧ (x.F b).s = 0 ∧ hasE k x.tE = some (x.F b).z ∧ hasE k x.kE = none ∧ delE k x.kE = x.kE) ∨ (b ∈ x.K ∧ b ∉ x.T ∧ (x.F b).s = 1 ∧ hasE k x.tE = none ∧ hasE k x.kE = some (x.F b).z ∧ delE k x.tE = x.tE)) := by
  obtain ⟨hb, hk⟩ := (h.lk k b).1 hf
  refine ⟨hk, h.gg.pos b hb, .inr (.inr hb), ?_⟩
  rcases hb with hb | hb
  · have hn : ∀ c ∈ x.K, (x.F c).k ≠ k := fun c hc e => h.gg.ap b (.inr hb) (.inr (by rw [h.gg.uq b c (.inl hb) (.inr hc) (hk.trans e.symm)]; exact hc))
    refine .inl ⟨hb, fun hc => h.gg.ap b (.inr hb) (.inr hc), h.gg.sg0 b hb, has_some hb hk fun c hc e => h.gg.uq c b (.inl hc) (.inl hb) (e.trans hk.symm), has_none hn, del_none fun y hy => ?_⟩
    obtain ⟨c, hc, rfl⟩ := List.mem_map.1 hy; exact hn c hc
  · have hn : ∀ c ∈ x.T, (x.F c).k ≠ k := fun c hc e => h.gg.ap c (.inr hc) (.inr (by rw [h.gg.uq c b (.inl hc) (.inr hb) (e.trans hk.symm)]; exact hb))
    refine .inr ⟨hb, fun hc => h.gg.ap b (.inr hc) (.inr hb), h.gg.sg1 b hb, has_none hn, has_some hb hk fun c hc e => h.gg.uq c b (.inr hc) (.inr hb) (e.trans hk.symm), del_none fun y hy => ?_⟩
    obtain ⟨c, hc, rfl⟩ := List.mem_map.1 hy; exact hn c hc
def HasV (o : Option Int) : Value := match o with | none => .tuple #[.int .i64 0, .bool false] | some z => .tuple #[.int .i64 z, .bool true]
def hasS (k : ByteArray) (T K : List En) : Option Int := (hasE k T).or (hasE k K)
set_option maxHeartbeats 1000000 in
theorem has_any (w : World) (g n : Nat) (al ke mo : Int) (x : Sx) (h : St w g n al ke mo x) (k : ByteArray) (hk : k.size ≤ 281474976710656) :
    Calls Try.prog 19 #[ptr g, .string k] w fun e w' => e = .returned (HasV (hasS k x.tE x.kE)) ∧ w = w' := by
  cases hf : x.f k with
  | none =>
    obtain ⟨_, h1, h2, _⟩ := h.none_ hf
    have e1 : hasS k x.tE x.kE = none := by unfold hasS; rw [h1, h2]; rfl
    rw [e1]
    have HF := Lib.hid (find_no w g n al ke mo x h k hk hf)
    clear h hk hf h1 h2 e1
    go_enter Try.func19, Try.ntmps19
    go_wp2_with (go_at_call 47; refine HF.out.mono ?_; rintro e w' ⟨rfl, rfl⟩)
    go_ret2
    exact ⟨rfl, rfl⟩
  | some b =>
    obtain ⟨_, _, hb, h1⟩ := h.some_ hf
    have e1 : hasS k x.tE x.kE = some (x.F b).z := by
      unfold hasS
      rcases h1 with ⟨_, _, _, h1, h2, _⟩ | ⟨_, _, _, h1, h2, _⟩ <;> rw [h1, h2] <;> rfl
    rw [e1]
    obtain ⟨_, c1, _⟩ := h.node hb
    have HF := Lib.hid (find_yes w g n al ke mo x h k hk b hf)
    clear h hk hf h1 e1 hb
    go_enter Try.func19, Try.ntmps19
    go_wp2_with (go_at_call 47; refine HF.out.mono ?_; rintro e w' ⟨rfl, rfl⟩)
    go_ret2
    exact ⟨rfl, rfl⟩
end Go.Proofs.Ytfilmbeoggmglaa.SL
