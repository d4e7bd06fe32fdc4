/- What package slru's find, Bytes, Has and Drop do to a store. Condition: how long the key is.
   What package slru's Drop, add and move do to a store. Condition: how long the key is. -/
import Derived.Test.YtjngangojgjceaaGreatG2
set_option linter.unusedSimpArgs false
set_option linter.unusedVariables false
namespace Go.Proofs.YtjngangojgjceaaGreat.SL
open Go.ChangeShapes Go.WideShapes Go.ChangeAt Go.RowKit Go.Maps Go.ChangeMaps
set_option maxRecDepth 100000
set_option linter.unusedVariables false
set_option linter.unusedSimpArgs false

theorem zeroP (w : World) : (zeroValue 118).run Tryz.prog w = .ok (.pointer none) w := by
  obtain ⟨j, hj, hz⟩ : ∃ j, Tryz.prog.info? 118 = some j ∧ j.zero = some (.pointer none) := by
    have h : (Tryz.prog.info? 118).bind (·.zero) = some (.pointer none) := by kernel_rfl
    cases hi : Tryz.prog.info? 118 with
    | none => rw [hi] at h; cases h
    | some j => rw [hi] at h; exact ⟨j, rfl, h⟩
  simp [zeroValue, typeInfo, hj, hz]
theorem MapP.look {w : World} {b n : Nat} {f : ByteArray → Option Nat} (h : MapP w b n f) (k : ByteArray) (hk : k.size ≤ 281474976710656) :
    (Instr.lookup 122 (.map (some b)) (.string k) false).run Tryz.prog w = .ok (pV (f k)) w := by
  obtain ⟨D, hown, hf⟩ := h
  obtain ⟨v, ps, hr, hv⟩ := hown.lookup strK Tryz.underlying122 (zeroP w) (ptrE_mk none) (keyB k hk)
  rw [hf] at hv
  rw [hr, ptrE_inv hv]
theorem St.cells {w : World} {g n : Nat} {al ke mo : Int} {x : Sx} (h : St w g n al ke mo x) :
    w.cell? ⟨g, 0, none⟩ = some (ptr g) ∧ w.cell? ⟨g, 1, none⟩ = some (.int .i64 al) ∧ w.cell? ⟨g, 2, none⟩ = some (.int .i64 ke) ∧ w.cell? ⟨g, 3, none⟩ = some (.int .i64 mo) ∧ w.cell? ⟨g, 4, none⟩ = some (ptr x.e0) ∧ w.cell? ⟨g, 5, none⟩ = some (.int .i64 (sumE x.tE)) ∧ w.cell? ⟨g, 6, none⟩ = some (ptr x.e1) ∧ w.cell? ⟨g, 7, none⟩ = some (.int .i64 (sumE x.kE)) ∧ w.cell? ⟨g, 8, none⟩ = some (.map (some x.mb)) :=
  ⟨h.bk.cell 0, h.bk.cell 1, h.bk.cell 2, h.bk.cell 3, h.bk.cell 4, h.bk.cell 5, h.bk.cell 6, h.bk.cell 7, h.bk.cell 8⟩
theorem St.node {w : World} {g n : Nat} {al ke mo : Int} {x : Sx} (h : St w g n al ke mo x) {b : Nat} (hb : x.nd b) :
    w.cell? ⟨b, 0, none⟩ = some (.string (x.F b).k) ∧ w.cell? ⟨b, 1, none⟩ = some (.int .i64 (x.F b).z) ∧ w.cell? ⟨b, 2, none⟩ = some (.int .i64 (x.F b).s) ∧ w.cell? ⟨b, 3, none⟩ = some (pV (x.F b).nw) ∧ w.cell? ⟨b, 4, none⟩ = some (pV (x.F b).od) :=
  ⟨(h.nn b hb).cell 0, (h.nn b hb).cell 1, (h.nn b hb).cell 2, (h.nn b hb).cell 3, (h.nn b hb).cell 4⟩
theorem St.sums {w : World} {g n : Nat} {al ke mo : Int} {x : Sx} (h : St w g n al ke mo x) : 0 ≤ sumE x.tE ∧ 0 ≤ sumE x.kE := ⟨sum_nonneg h.gg.en_pos.1, sum_nonneg h.gg.en_pos.2⟩
set_option maxHeartbeats 1000000 in
theorem find_any (w : World) (g n : Nat) (al ke mo : Int) (x : Sx) (h : St w g n al ke mo x) (k : ByteArray) (hk : k.size ≤ 281474976710656) :
    Calls Tryz.prog 84 #[ptr g, .string k] w fun e w' => e = .returned (pV (x.f k)) ∧ w = w' := by
  obtain ⟨c0, _, _, _, _, _, _, _, c8⟩ := h.cells
  have hl := h.mp.look k hk
  clear h hk
  go_enter Tryz.func84, Tryz.ntmps84
  go_wp2_with (go_at_call 68; refine (given_yes _ g c0).mono ?_; rintro e w' ⟨rfl, rfl⟩)
  go_ret
  exact ⟨rfl, rfl⟩
theorem find_nil (w : World) (k : ByteArray) :
    Calls Tryz.prog 84 #[.pointer none, .string k] w fun e w' => e = .returned (.pointer none) ∧ w = w' := by
  go_enter Tryz.func84, Tryz.ntmps84
  go_wp2_with (go_at_call 68; refine (given_nil _).mono ?_; rintro e w' ⟨rfl, rfl⟩)
  go_ret
  exact ⟨rfl, rfl⟩
theorem find_zero (w : World) (g : Nat) (k : ByteArray) (h : w.cell? ⟨g, 0, none⟩ = some (.pointer none)) :
    Calls Tryz.prog 84 #[ptr g, .string k] w fun e w' => e = .returned (.pointer none) ∧ w = w' := by
  go_enter Tryz.func84, Tryz.ntmps84
  go_wp2_with (go_at_call 68; refine (given_zero _ g h).mono ?_; rintro e w' ⟨rfl, rfl⟩)
  go_ret
  exact ⟨rfl, rfl⟩
theorem find_no (w : World) (g n : Nat) (al ke mo : Int) (x : Sx) (h : St w g n al ke mo x) (k : ByteArray) (hk : k.size ≤ 281474976710656) (hf : x.f k = none) :
    Calls Tryz.prog 84 #[ptr g, .string k] w fun e w' => e = .returned (.pointer none) ∧ w = w' := by
  have := find_any w g n al ke mo x h k hk
  rw [hf] at this; exact this
theorem find_yes (w : World) (g n : Nat) (al ke mo : Int) (x : Sx) (h : St w g n al ke mo x) (k : ByteArray) (hk : k.size ≤ 281474976710656) (b : Nat) (hf : x.f k = some b) :
    Calls Tryz.prog 84 #[ptr g, .string k] w fun e w' => e = .returned (ptr b) ∧ w = w' := by
  have := find_any w g n al ke mo x h k hk
  rw [hf] at this; exact this
set_option maxHeartbeats 1000000 in
theorem bytes_false (w : World) (g n : Nat) (al ke mo : Int) (x : Sx) (h : St w g n al ke mo x) :
    Calls Tryz.prog 60 #[ptr g, .bool false] w fun e w' => e = .returned (.int .i64 (sumE x.tE)) ∧ ∃ n, w' = w.drewN n := by
  obtain ⟨c0, _, _, _, _, c5, _, c7, _⟩ := h.cells
  clear h
  go_enter Tryz.func60, Tryz.ntmps60
  go_wp2_with (go_at_call 68; refine (given_yes _ g c0).mono ?_; rintro e w' ⟨rfl, rfl⟩)
  go_quiet ((go_at_call 99; exact Calls.quiet_of_same ((where_any false _).mono fun _ _ h => ⟨h.1, h.2.symm⟩)))
  go_wp2
  go_ret
  exact ⟨rfl, _, rfl⟩
set_option maxHeartbeats 1000000 in
theorem bytes_true (w : World) (g n : Nat) (al ke mo : Int) (x : Sx) (h : St w g n al ke mo x) :
    Calls Tryz.prog 60 #[ptr g, .bool true] w fun e w' => e = .returned (.int .i64 (sumE x.kE)) ∧ ∃ n, w' = w.drewN n := by
  obtain ⟨c0, _, _, _, _, c5, _, c7, _⟩ := h.cells
  clear h
  go_enter Tryz.func60, Tryz.ntmps60
  go_wp2_with (go_at_call 68; refine (given_yes _ g c0).mono ?_; rintro e w' ⟨rfl, rfl⟩)
  go_quiet ((go_at_call 99; exact Calls.quiet_of_same ((where_any true _).mono fun _ _ h => ⟨h.1, h.2.symm⟩)))
  go_wp2
  go_ret
  exact ⟨rfl, _, rfl⟩
theorem bytes_nil (w : World) (b : Bool) :
    Calls Tryz.prog 60 #[.pointer none, .bool b] w fun e w' => e = .returned (.int .i64 0) ∧ w = w' := by
  go_enter Tryz.func60, Tryz.ntmps60
  go_wp2_with (go_at_call 68; refine (given_nil _).mono ?_; rintro e w' ⟨rfl, rfl⟩)
  go_ret
  exact ⟨rfl, rfl⟩
theorem bytes_zero (w : World) (g : Nat) (b : Bool) (h : w.cell? ⟨g, 0, none⟩ = some (.pointer none)) :
    Calls Tryz.prog 60 #[ptr g, .bool b] w fun e w' => e = .returned (.int .i64 0) ∧ w = w' := by
  go_enter Tryz.func60, Tryz.ntmps60
  go_wp2_with (go_at_call 68; refine (given_zero _ g h).mono ?_; rintro e w' ⟨rfl, rfl⟩)
  go_ret
  exact ⟨rfl, rfl⟩
/-! ### what the map tells of the lists -/
theorem has_none {k : ByteArray} {F : Nat → Nd} {L : List Nat} (h : ∀ b ∈ L, (F b).k ≠ k) : hasE k (en F L) = none := by
  unfold hasE
  rw [Option.map_eq_none_iff, List.find?_eq_none]
  intro y hy
  obtain ⟨b, hb, rfl⟩ := List.mem_map.1 hy
  simpa using h b hb
theorem has_some {k : ByteArray} {F : Nat → Nd} {L : List Nat} {b : Nat} (hb : b ∈ L) (hk : (F b).k = k) (hu : ∀ c ∈ L, (F c).k = k → c = b) : hasE k (en F L) = some (F b).z := by
  unfold hasE
  cases hf : (en F L).find? (fun y => decide (y.1 = k)) with
  | none =>
    rw [List.find?_eq_none] at hf
    have := hf ((F b).k, (F b).z) (List.mem_map.2 ⟨b, hb, rfl⟩)
    simp [hk] at this
  | some y =>
    have h1 := List.find?_some hf
    have h2 := List.mem_of_find?_eq_some hf
    obtain ⟨c, hc, rfl⟩ := List.mem_map.1 h2
    have := hu c hc (by simpa using h1)
    subst this; rfl
theorem St.none_ {w : World} {g n : Nat} {al ke mo : Int} {x : Sx} (h : St w g n al ke mo x) {k : ByteArray} (hf : x.f k = none) : (∀ b, b ∈ x.T ∨ b ∈ x.K → (x.F b).k ≠ k) ∧ hasE k x.tE = none ∧ hasE k x.kE = none ∧ delE k x.tE = x.tE ∧ delE k x.kE = x.kE := by
  have h0 : ∀ b, b ∈ x.T ∨ b ∈ x.K → (x.F b).k ≠ k := fun b hb e => by
    have := (h.lk k b).2 ⟨hb, e⟩
    rw [hf] at this; cases this
  refine ⟨h0, has_none fun b hb => h0 b (.inl hb), has_none fun b hb => h0 b (.inr hb), del_none fun y hy => ?_, del_none fun y hy => ?_⟩
  · obtain ⟨b, hb, rfl⟩ := List.mem_map.1 hy; exact h0 b (.inl hb)
  · obtain ⟨b, hb, rfl⟩ := List.mem_map.1 hy; exact h0 b (.inr hb)
theorem St.some_ {w : World} {g n : Nat} {al ke mo : Int} {x : Sx} (h : St w g n al ke mo x) {k : ByteArray} {b : Nat} (hf : x.f k = some b) :
    (x.F b).k = k ∧ 1 ≤ (x.F b).z ∧ x.nd b ∧ ((b ∈ x.T ∧ b ∉ x.K ∧ (x.F b).s = 0 ∧ hasE k x.tE = some (x.F b).z ∧ hasE k x.kE = none ∧ delE k x.kE = x.kE) ∨ (b ∈ x.K ∧ b ∉ x.T ∧ (x.F b).s = 1 ∧ hasE k x.tE = none ∧ hasE k x.kE = some (x.F b).z ∧ delE k x.tE = x.tE)) := by
  obtain ⟨hb, hk⟩ := (h.lk k b).1 hf
  refine ⟨hk, h.gg.pos b hb, .inr (.inr hb), ?_⟩
  rcases hb with hb | hb
  · have hn : ∀ c ∈ x.K, (x.F c).k ≠ k := fun c hc e => h.gg.ap b (.inr hb) (.inr (by rw [h.gg.uq b c (.inl hb) (.inr hc) (hk.trans e.symm)]; exact hc))
    refine .inl ⟨hb, fun hc => h.gg.ap b (.inr hb) (.inr hc), h.gg.sg0 b hb, has_some hb hk fun c hc e => h.gg.uq c b (.inl hc) (.inl hb) (e.trans hk.symm), has_none hn, del_none fun y hy => ?_⟩
    obtain ⟨c, hc, rfl⟩ := List.mem_map.1 hy; exact hn c hc
  · have hn : ∀ c ∈ x.T, (x.F c).k ≠ k := fun c hc e => h.gg.ap c (.inr hc) (.inr (by rw [h.gg.uq c b (.inl hc) (.inr hb) (e.trans hk.symm)]; exact hb))
    refine .inr ⟨hb, fun hc => h.gg.ap b (.inr hc) (.inr hb), h.gg.sg1 b hb, has_none hn, has_some hb hk fun c hc e => h.gg.uq c b (.inr hc) (.inr hb) (e.trans hk.symm), del_none fun y hy => ?_⟩
    obtain ⟨c, hc, rfl⟩ := List.mem_map.1 hy; exact hn c hc
def HasV (o : Option Int) : Value := match o with | none => .tuple #[.int .i64 0, .bool false] | some z => .tuple #[.int .i64 z, .bool true]
def hasS (k : ByteArray) (T K : List En) : Option Int := (hasE k T).or (hasE k K)
end Go.Proofs.YtjngangojgjceaaGreat.SL
namespace Go.Proofs.YtjngangojgjceaaGreat.SL
open Go.ChangeShapes Go.WideShapes Go.ChangeAt Go.RowKit Go.Maps Go.ChangeMaps
set_option maxRecDepth 100000
set_option linter.unusedVariables false
set_option linter.unusedSimpArgs false

/-- W is w, but for draws -/
structure Sm (w W : World) : Prop where
  os : W.os = w.os
  tape : W.tape = w.tape
  output : W.output = w.output
  heap : W.heap = w.heap
theorem Sm.refl (w : World) : Sm w w := ⟨rfl, rfl, rfl, rfl⟩
theorem Sm.chg {w W : World} (h : Sm w W) (S : Nat → Prop) : Chg S w W := ⟨h.os, h.tape, h.output, by rw [h.heap]; exact Nat.le_refl _, fun k _ _ => by rw [h.heap]⟩
theorem St.sm {w W : World} {g n : Nat} {al ke mo : Int} {x : Sx} (h : St w g n al ke mo x) (e : Sm w W) : St W g n al ke mo x := h.keep fun b _ => by rw [e.heap]
theorem sum_del {F : Nat → Nd} {L : List Nat} (hn : L.Nodup) {b : Nat} (hb : b ∈ L) : sumE (en F (L.filter fun x => decide (x ≠ b))) = sumE (en F L) - (F b).z := by
  obtain ⟨L1, L2, rfl⟩ := List.append_of_mem hb
  rw [filter_one L1 L2 b hn]
  unfold en
  rw [List.map_append, List.map_append, sum_app, sum_app, List.map_cons, sumE]; omega
theorem filter_in {L : List Nat} {b y : Nat} (h : y ∈ L.filter fun x => decide (x ≠ b)) : y ∈ L ∧ y ≠ b := by
  obtain ⟨h1, h2⟩ := List.mem_filter.1 h
  exact ⟨h1, by simpa using h2⟩
theorem filter_mk {L : List Nat} {b y : Nat} (h : y ∈ L) (hn : y ≠ b) : y ∈ L.filter fun x => decide (x ≠ b) := List.mem_filter.2 ⟨h, by simpa using hn⟩
/-- what a step makes of a store -/
def StepP (g n : Nat) (al ke mo : Int) (x : Sx) (T K : List En) (S : Nat → Prop) (w w' : World) : Prop :=
  ∃ x', St w' g n al ke mo x' ∧ x'.tE = T ∧ x'.kE = K ∧ (∀ y, x'.own g y → S y) ∧ Chg (x.own g) w w' ∧ w'.heap.size = w.heap.size
/-- b stands in the T ring: what leaving it makes -/
theorem St.leaveT {w : World} {g n : Nat} {al ke mo : Int} {x : Sx} (h : St w g n al ke mo x) {k : ByteArray} {b : Nat} (hf : x.f k = some b) (hb : b ∈ x.T) :
    ∃ a c, (x.F b).nw = some a ∧ (x.F b).od = some c ∧ x.nd a ∧ x.nd c ∧ a ≠ b ∧ c ≠ b ∧ (0 ≤ (x.F b).z ∧ (x.F b).z ≤ sumE x.tE ∧ sumE x.tE ≤ 4294967296) ∧
      GG 0 1 x.e0 x.e1 (x.T.filter fun y => decide (y ≠ b)) x.K (levF x.F a c) ∧ en (levF x.F a c) (x.T.filter fun y => decide (y ≠ b)) = delE k x.tE ∧ en (levF x.F a c) x.K = delE k x.kE ∧ sumE (delE k x.tE) = sumE x.tE - (x.F b).z ∧ b ∉ x.K := by
  obtain ⟨hk, hz, _, hx⟩ := h.some_ hf
  obtain ⟨a, c, h1, h2, h3, h4, h5, h6, h7⟩ := h.gg.leave hb
  have hbK : b ∉ x.K := fun hc => h.gg.ap b (.inr hb) (.inr hc)
  have hs := sum_mem h.gg.en_pos.1 ((x.F b).k, (x.F b).z) (List.mem_map.2 ⟨b, hb, rfl⟩)
  have hu : ∀ y ∈ x.T, (x.F y).k = (x.F b).k → y = b := fun y hy e => h.gg.uq y b (.inl hy) (.inl hb) e
  have ed : en x.F (x.T.filter fun y => decide (y ≠ b)) = delE k x.tE := by rw [en_del hu, hk]; rfl
  have := h.lim
  have := h.sums
  have hs2 : (x.F b).z ≤ sumE x.tE := hs
  refine ⟨a, c, h1, h2, (h3.elim (fun e => .inl e) fun e => .inr (.inr (.inl e))), (h4.elim (fun e => .inl e) fun e => .inr (.inr (.inl e))), h5, h6, ⟨by omega, hs2, by omega⟩, h7, by rw [en_lev, ed], ?_, ?_, hbK⟩
  · rw [en_lev]
    refine (del_none fun y hy => ?_).symm
    obtain ⟨d, hd, rfl⟩ := List.mem_map.1 hy
    exact fun e => hbK (by rw [← h.gg.uq d b (.inr hd) (.inl hb) (e.trans hk.symm)]; exact hd)
  · rw [← ed, sum_del (List.nodup_cons.1 h.gg.n0).2 hb]; rfl
theorem St.dropT {w w' : World} {g n : Nat} {al ke mo : Int} {x : Sx} (h : St w g n al ke mo x) {k : ByteArray} {b a c : Nat} (hf : x.f k = some b) (hb : b ∈ x.T)
    (hgg : GG 0 1 x.e0 x.e1 (x.T.filter fun y => decide (y ≠ b)) x.K (levF x.F a c)) (e1 : en (levF x.F a c) (x.T.filter fun y => decide (y ≠ b)) = delE k x.tE) (e2 : en (levF x.F a c) x.K = delE k x.kE) (e3 : sumE (delE k x.tE) = sumE x.tE - (x.F b).z) (hbK : b ∉ x.K)
    (hn : NN w' x.nd (levF x.F a c)) (hg : Bk w' g 124 ((cel g al ke mo x.e0 x.e1 x.mb (sumE x.tE) (sumE x.kE)).setIfInBounds 5 (.int .i64 (sumE x.tE - (x.F b).z)))) (hm : MapP w' x.mb n fun y => if y = k then none else x.f y) :
    ∃ x', St w' g n al ke mo x' ∧ x'.tE = delE k x.tE ∧ x'.kE = delE k x.kE ∧ ∀ y, x'.own g y → x.own g y := by
  have hsub : ∀ y, y ∈ (x.T.filter fun y => decide (y ≠ b)) → y ∈ x.T := fun y hy => (filter_in hy).1
  have ek : delE k x.kE = x.kE := by rw [← e2, en_lev]; rfl
  have hz := h.gg.pos b (.inl hb)
  obtain ⟨hkb, _, _, _⟩ := h.some_ hf
  refine ⟨⟨x.e0, x.e1, x.mb, (x.T.filter fun y => decide (y ≠ b)), x.K, levF x.F a c, fun y => if y = k then none else x.f y⟩, ⟨?_, fun y hy => hn y ?_, hgg, hm, fun q d => ?_, ?_, h.cnt⟩, e1, e2, fun y hy => ?_⟩
  · show Bk w' g _ (cel g al ke mo x.e0 x.e1 x.mb (sumE (en (levF x.F a c) (x.T.filter fun y => decide (y ≠ b)))) (sumE (en (levF x.F a c) x.K)))
    rw [e1, e2, ek, e3]
    exact hg
  · rcases hy with hy | hy | hy | hy
    · exact .inl hy
    · exact .inr (.inl hy)
    · exact .inr (.inr (.inl (hsub _ hy)))
    · exact .inr (.inr (.inr hy))
  · show (if q = k then none else x.f q) = some d ↔ (d ∈ (x.T.filter fun y => decide (y ≠ b)) ∨ d ∈ x.K) ∧ (levF x.F a c d).k = q
    rw [(levF_k x.F a c d).1]
    have hl := h.lk q d
    by_cases hq : q = k
    · subst hq
      rw [if_pos rfl]
      constructor
      · intro h0; cases h0
      · rintro ⟨h1, h2⟩
        exfalso
        have h3 : d ∈ x.T ∨ d ∈ x.K := h1.imp_left (hsub d)
        have h4 : d = b := h.gg.uq d b h3 (.inl hb) (h2.trans hkb.symm)
        rcases h1 with h1 | h1
        · exact (filter_in h1).2 h4
        · exact hbK (by rw [← h4]; exact h1)
    · rw [if_neg hq, hl]
      constructor
      · rintro ⟨h1, h2⟩
        have hdb : d ≠ b := fun e => hq (by rw [← h2, e, hkb])
        exact ⟨h1.imp_left fun h0 => filter_mk h0 hdb, h2⟩
      · rintro ⟨h1, h2⟩
        exact ⟨h1.imp_left (hsub d), h2⟩
  · show sumE (en (levF x.F a c) (x.T.filter fun y => decide (y ≠ b))) + sumE (en (levF x.F a c) x.K) ≤ 1073741824
    rw [e1, e2, ek, e3]
    have := h.lim
    omega
  · rcases hy with hy | hy | hy | hy | hy | hy
    · exact .inl hy
    · exact .inr (.inl hy)
    · exact .inr (.inr (.inl hy))
    · exact .inr (.inr (.inr (.inl hy)))
    · exact .inr (.inr (.inr (.inr (.inl (hsub _ hy)))))
    · exact .inr (.inr (.inr (.inr (.inr hy))))
def LvPT (w : World) (g n : Nat) (al ke mo : Int) (x : Sx) (b a c : Nat) (e : Ending) (w' : World) : Prop :=
  e = .returned (.tuple #[]) ∧ NN w' x.nd (levF x.F a c) ∧ Bk w' g 124 ((cel g al ke mo x.e0 x.e1 x.mb (sumE x.tE) (sumE x.kE)).setIfInBounds 5 (.int .i64 (sumE x.tE - (x.F b).z))) ∧ Chg (fun k => k = g ∨ x.nd k) w w' ∧ w'.heap.size = w.heap.size
theorem lvT_any (w W : World) (hW : Sm w W) (g n : Nat) (al ke mo : Int) (x : Sx) (h : St w g n al ke mo x) (b a c : Nat) (hb : x.nd b) (h1 : (x.F b).nw = some a) (h2 : (x.F b).od = some c) (ha : x.nd a) (hc : x.nd c) (h3 : a ≠ b) (h4 : c ≠ b) (h5 : 0 ≤ (x.F b).z ∧ (x.F b).z ≤ sumE x.tE ∧ sumE x.tE ≤ 4294967296) :
    Calls Tryz.prog 90 #[.pointer (some ⟨g, 4, none⟩), ptr b] W (LvPT w g n al ke mo x b a c) := by
  have h := h.sm hW
  refine (leave_any W g 4 b a c (sumE x.tE) x.nd x.F _ h.bk rfl h.nn h.ng hb ha hc h1 h2 h3 h4 h5).mono ?_
  rintro e w' ⟨r1, r2, r3, r4, r5⟩
  exact ⟨r1, r2, r3, (hW.chg _).trans r4, by rw [r5, hW.heap]⟩
set_option maxHeartbeats 2000000 in
theorem drop_T (w : World) (g n : Nat) (al ke mo : Int) (x : Sx) (h : St w g n al ke mo x) (k : ByteArray) (hk : k.size ≤ 281474976710656) (b : Nat) (hf : x.f k = some b) (hb : b ∈ x.T) :
    Calls Tryz.prog 50 #[ptr g, .string k] w fun e w' => e = .returned (.bool true) ∧ StepP g n al ke mo x (delE k x.tE) (delE k x.kE) (x.own g) w w' := by
  obtain ⟨a, c, h1, h2, ha, hc, h3, h4, h5, hgg, e1, e2, e3, hbK⟩ := h.leaveT hf hb
  have hnb : x.nd b := .inr (.inr (.inl hb))
  have HLV := Lib.hid (fun (W : World) (hW : Sm w W) => lvT_any w W hW g n al ke mo x h b a c hnb h1 h2 ha hc h3 h4 h5)
  have HFI := Lib.hid (find_yes w g n al ke mo x h k hk b hf)
  obtain ⟨_, _, c2, _, _⟩ := h.node hnb
  have hs : (x.F b).s = 0 := h.gg.sg0 b hb
  rw [hs] at c2
  have HEND := Lib.hid (fun (w' : World) => h.dropT (w' := w') hf hb hgg e1 e2 e3 hbK)
  have hmb := h.nm
  have HM := Lib.hid (fun (w' : World) (hC : Chg (fun k => k = g ∨ x.nd k) w w') => h.mp.keep (hC.block x.mb h.mp.lt (fun e => e.elim (fun e => hmb.2 e.symm) hmb.1)))
  have hkey := keyB k hk
  clear h hf hb h1 h2 ha hc h3 h4 h5 hgg e1 e2 e3 hbK hnb hs hmb hk
  go_enter Tryz.func50, Tryz.ntmps50
  go_wp2_with (go_at_call 84; refine HFI.out.mono ?_; rintro e w' ⟨rfl, rfl⟩)
  go_region_with (go_at_call 90; refine (HLV.out _ (by exact ⟨rfl, rfl, rfl, rfl⟩)).mono ?_; rintro e w1 ⟨rfl, hn1, hg1, hc1, hs1⟩)
  all_goals
    have c8 : w1.cell? ⟨g, 8, none⟩ = some (.map (some x.mb)) := hg1.cell 8
    obtain ⟨D, hown, hD⟩ := HM.out w1 hc1
    have HN1 := Lib.hid hn1
    have HG1 := Lib.hid hg1
    have HC1 := Lib.hid hc1
    have HS1 := Lib.hid hs1
    have HD := Lib.hid hD
    have HOW := Lib.hid hown
    clear hn1 hg1 hc1 hs1 hD hown
    go_wp2_with (at_delete; refine wpList_delete_own _ rfl _ _ 122 9 rfl 118 strK Tryz.underlying122 ptrE x.mb n D rfl HOW.out _ _ rfl hkey ?_; intro w2 ho2 ht2)
    go_ret
    have hgr := ht2.grown
    have hmp : MapP w2 x.mb n fun y => if y = k then none else x.f y := MapP.del HD.out ho2
    have hnm : ¬ x.nd x.mb := fun e => bk_nomap (HN1.out _ e) (⟨D, HOW.out, HD.out⟩ : MapP w1 x.mb n x.f) rfl
    have hgm : g ≠ x.mb := bk_nomap HG1.out (⟨D, HOW.out, HD.out⟩ : MapP w1 x.mb n x.f)
    obtain ⟨x', r1, r2, r3, r4⟩ := HEND.out w2 (HN1.out.heap fun q hq => hgr.block q (HN1.out q hq).lt (fun e => hnm (by injection e with e; rw [← e]; exact hq))) (HG1.out.heap (hgr.block g HG1.out.lt (fun e => hgm (by injection e with e)))) hmp
    exact ⟨rfl, x', r1, r2, r3, r4, (HC1.out.mono (S' := x.own g) fun q _ hq => hq.elim .inl fun e => .inr (.inr e)).grown hgr (fun q hq _ => by injection hq with hq; exact .inr (.inl hq.symm)), by
      obtain ⟨es, cl, es', cl', hh, rfl⟩ := ht2
      have : (setBlock w1 x.mb (.map es' cl')).heap.size = w1.heap.size := by simp [setBlock]
      rw [this]; exact HS1.out⟩
/-- b stands in the K ring: what leaving it makes -/
theorem St.leaveK {w : World} {g n : Nat} {al ke mo : Int} {x : Sx} (h : St w g n al ke mo x) {k : ByteArray} {b : Nat} (hf : x.f k = some b) (hb : b ∈ x.K) :
    ∃ a c, (x.F b).nw = some a ∧ (x.F b).od = some c ∧ x.nd a ∧ x.nd c ∧ a ≠ b ∧ c ≠ b ∧ (0 ≤ (x.F b).z ∧ (x.F b).z ≤ sumE x.kE ∧ sumE x.kE ≤ 4294967296) ∧
      GG 0 1 x.e0 x.e1 x.T (x.K.filter fun y => decide (y ≠ b)) (levF x.F a c) ∧ en (levF x.F a c) (x.K.filter fun y => decide (y ≠ b)) = delE k x.kE ∧ en (levF x.F a c) x.T = delE k x.tE ∧ sumE (delE k x.kE) = sumE x.kE - (x.F b).z ∧ b ∉ x.T := by
  obtain ⟨hk, hz, _, hx⟩ := h.some_ hf
  obtain ⟨a, c, h1, h2, h3, h4, h5, h6, h7⟩ := h.gg.swap.leave hb
  have hbK : b ∉ x.T := fun hc => h.gg.swap.ap b (.inr hb) (.inr hc)
  have hs := sum_mem h.gg.swap.en_pos.1 ((x.F b).k, (x.F b).z) (List.mem_map.2 ⟨b, hb, rfl⟩)
  have hu : ∀ y ∈ x.K, (x.F y).k = (x.F b).k → y = b := fun y hy e => h.gg.swap.uq y b (.inl hy) (.inl hb) e
  have ed : en x.F (x.K.filter fun y => decide (y ≠ b)) = delE k x.kE := by rw [en_del hu, hk]; rfl
  have := h.lim
  have := h.sums
  have hs2 : (x.F b).z ≤ sumE x.kE := hs
  refine ⟨a, c, h1, h2, (h3.elim (fun e => .inr (.inl e)) fun e => .inr (.inr (.inr e))), (h4.elim (fun e => .inr (.inl e)) fun e => .inr (.inr (.inr e))), h5, h6, ⟨by omega, hs2, by omega⟩, h7.swap, by rw [en_lev, ed], ?_, ?_, hbK⟩
  · rw [en_lev]
    refine (del_none fun y hy => ?_).symm
    obtain ⟨d, hd, rfl⟩ := List.mem_map.1 hy
    exact fun e => hbK (by rw [← h.gg.swap.uq d b (.inr hd) (.inl hb) (e.trans hk.symm)]; exact hd)
  · rw [← ed, sum_del (List.nodup_cons.1 h.gg.swap.n0).2 hb]; rfl
theorem St.dropK {w w' : World} {g n : Nat} {al ke mo : Int} {x : Sx} (h : St w g n al ke mo x) {k : ByteArray} {b a c : Nat} (hf : x.f k = some b) (hb : b ∈ x.K)
    (hgg : GG 0 1 x.e0 x.e1 x.T (x.K.filter fun y => decide (y ≠ b)) (levF x.F a c)) (e1 : en (levF x.F a c) (x.K.filter fun y => decide (y ≠ b)) = delE k x.kE) (e2 : en (levF x.F a c) x.T = delE k x.tE) (e3 : sumE (delE k x.kE) = sumE x.kE - (x.F b).z) (hbK : b ∉ x.T)
    (hn : NN w' x.nd (levF x.F a c)) (hg : Bk w' g 124 ((cel g al ke mo x.e0 x.e1 x.mb (sumE x.tE) (sumE x.kE)).setIfInBounds 7 (.int .i64 (sumE x.kE - (x.F b).z)))) (hm : MapP w' x.mb n fun y => if y = k then none else x.f y) :
    ∃ x', St w' g n al ke mo x' ∧ x'.tE = delE k x.tE ∧ x'.kE = delE k x.kE ∧ ∀ y, x'.own g y → x.own g y := by
  have hsub : ∀ y, y ∈ (x.K.filter fun y => decide (y ≠ b)) → y ∈ x.K := fun y hy => (filter_in hy).1
  have ek : delE k x.tE = x.tE := by rw [← e2, en_lev]; rfl
  have hz := h.gg.pos b (.inr hb)
  obtain ⟨hkb, _, _, _⟩ := h.some_ hf
  refine ⟨⟨x.e0, x.e1, x.mb, x.T, (x.K.filter fun y => decide (y ≠ b)), levF x.F a c, fun y => if y = k then none else x.f y⟩, ⟨?_, fun y hy => hn y ?_, hgg, hm, fun q d => ?_, ?_, h.cnt⟩, e2, e1, fun y hy => ?_⟩
  · show Bk w' g _ (cel g al ke mo x.e0 x.e1 x.mb (sumE (en (levF x.F a c) x.T)) (sumE (en (levF x.F a c) (x.K.filter fun y => decide (y ≠ b)))))
    rw [e2, e1, ek, e3]
    exact hg
  · rcases hy with hy | hy | hy | hy
    · exact .inl hy
    · exact .inr (.inl hy)
    · exact .inr (.inr (.inl hy))
    · exact .inr (.inr (.inr (hsub _ hy)))
  · show (if q = k then none else x.f q) = some d ↔ (d ∈ x.T ∨ d ∈ (x.K.filter fun y => decide (y ≠ b))) ∧ (levF x.F a c d).k = q
    rw [(levF_k x.F a c d).1]
    have hl := h.lk q d
    by_cases hq : q = k
    · subst hq
      rw [if_pos rfl]
      constructor
      · intro h0; cases h0
      · rintro ⟨h1, h2⟩
        exfalso
        have h3 : d ∈ x.T ∨ d ∈ x.K := h1.imp_right (hsub d)
        have h4 : d = b := h.gg.uq d b h3 (.inr hb) (h2.trans hkb.symm)
        rcases h1 with h1 | h1
        · exact hbK (by rw [← h4]; exact h1)
        · exact (filter_in h1).2 h4
    · rw [if_neg hq, hl]
      constructor
      · rintro ⟨h1, h2⟩
        have hdb : d ≠ b := fun e => hq (by rw [← h2, e, hkb])
        exact ⟨h1.imp_right fun h0 => filter_mk h0 hdb, h2⟩
      · rintro ⟨h1, h2⟩
        exact ⟨h1.imp_right (hsub d), h2⟩
  · show sumE (en (levF x.F a c) x.T) + sumE (en (levF x.F a c) (x.K.filter fun y => decide (y ≠ b))) ≤ 1073741824
    rw [e2, e1, ek, e3]
    have := h.lim
    omega
  · rcases hy with hy | hy | hy | hy | hy | hy
    · exact .inl hy
    · exact .inr (.inl hy)
    · exact .inr (.inr (.inl hy))
    · exact .inr (.inr (.inr (.inl hy)))
    · exact .inr (.inr (.inr (.inr (.inl hy))))
    · exact .inr (.inr (.inr (.inr (.inr (hsub _ hy)))))
def LvPK (w : World) (g n : Nat) (al ke mo : Int) (x : Sx) (b a c : Nat) (e : Ending) (w' : World) : Prop :=
  e = .returned (.tuple #[]) ∧ NN w' x.nd (levF x.F a c) ∧ Bk w' g 124 ((cel g al ke mo x.e0 x.e1 x.mb (sumE x.tE) (sumE x.kE)).setIfInBounds 7 (.int .i64 (sumE x.kE - (x.F b).z))) ∧ Chg (fun k => k = g ∨ x.nd k) w w' ∧ w'.heap.size = w.heap.size
theorem lvK_any (w W : World) (hW : Sm w W) (g n : Nat) (al ke mo : Int) (x : Sx) (h : St w g n al ke mo x) (b a c : Nat) (hb : x.nd b) (h1 : (x.F b).nw = some a) (h2 : (x.F b).od = some c) (ha : x.nd a) (hc : x.nd c) (h3 : a ≠ b) (h4 : c ≠ b) (h5 : 0 ≤ (x.F b).z ∧ (x.F b).z ≤ sumE x.kE ∧ sumE x.kE ≤ 4294967296) :
    Calls Tryz.prog 90 #[.pointer (some ⟨g, 6, none⟩), ptr b] W (LvPK w g n al ke mo x b a c) := by
  have h := h.sm hW
  refine (leave_any W g 6 b a c (sumE x.kE) x.nd x.F _ h.bk rfl h.nn h.ng hb ha hc h1 h2 h3 h4 h5).mono ?_
  rintro e w' ⟨r1, r2, r3, r4, r5⟩
  exact ⟨r1, r2, r3, (hW.chg _).trans r4, by rw [r5, hW.heap]⟩
set_option maxHeartbeats 2000000 in
theorem drop_K (w : World) (g n : Nat) (al ke mo : Int) (x : Sx) (h : St w g n al ke mo x) (k : ByteArray) (hk : k.size ≤ 281474976710656) (b : Nat) (hf : x.f k = some b) (hb : b ∈ x.K) :
    Calls Tryz.prog 50 #[ptr g, .string k] w fun e w' => e = .returned (.bool true) ∧ StepP g n al ke mo x (delE k x.tE) (delE k x.kE) (x.own g) w w' := by
  obtain ⟨a, c, h1, h2, ha, hc, h3, h4, h5, hgg, e1, e2, e3, hbK⟩ := h.leaveK hf hb
  have hnb : x.nd b := .inr (.inr (.inr hb))
  have HLV := Lib.hid (fun (W : World) (hW : Sm w W) => lvK_any w W hW g n al ke mo x h b a c hnb h1 h2 ha hc h3 h4 h5)
  have HFI := Lib.hid (find_yes w g n al ke mo x h k hk b hf)
  obtain ⟨_, _, c2, _, _⟩ := h.node hnb
  have hs : (x.F b).s = 1 := h.gg.sg1 b hb
  rw [hs] at c2
  have HEND := Lib.hid (fun (w' : World) => h.dropK (w' := w') hf hb hgg e1 e2 e3 hbK)
  have hmb := h.nm
  have HM := Lib.hid (fun (w' : World) (hC : Chg (fun k => k = g ∨ x.nd k) w w') => h.mp.keep (hC.block x.mb h.mp.lt (fun e => e.elim (fun e => hmb.2 e.symm) hmb.1)))
  have hkey := keyB k hk
  clear h hf hb h1 h2 ha hc h3 h4 h5 hgg e1 e2 e3 hbK hnb hs hmb hk
  go_enter Tryz.func50, Tryz.ntmps50
  go_wp2_with (go_at_call 84; refine HFI.out.mono ?_; rintro e w' ⟨rfl, rfl⟩)
  go_region_with (go_at_call 90; refine (HLV.out _ (by exact ⟨rfl, rfl, rfl, rfl⟩)).mono ?_; rintro e w1 ⟨rfl, hn1, hg1, hc1, hs1⟩)
  all_goals
    have c8 : w1.cell? ⟨g, 8, none⟩ = some (.map (some x.mb)) := hg1.cell 8
    obtain ⟨D, hown, hD⟩ := HM.out w1 hc1
    have HN1 := Lib.hid hn1
    have HG1 := Lib.hid hg1
    have HC1 := Lib.hid hc1
    have HS1 := Lib.hid hs1
    have HD := Lib.hid hD
    have HOW := Lib.hid hown
    clear hn1 hg1 hc1 hs1 hD hown
    go_wp2_with (at_delete; refine wpList_delete_own _ rfl _ _ 122 9 rfl 118 strK Tryz.underlying122 ptrE x.mb n D rfl HOW.out _ _ rfl hkey ?_; intro w2 ho2 ht2)
    go_ret
    have hgr := ht2.grown
    have hmp : MapP w2 x.mb n fun y => if y = k then none else x.f y := MapP.del HD.out ho2
    have hnm : ¬ x.nd x.mb := fun e => bk_nomap (HN1.out _ e) (⟨D, HOW.out, HD.out⟩ : MapP w1 x.mb n x.f) rfl
    have hgm : g ≠ x.mb := bk_nomap HG1.out (⟨D, HOW.out, HD.out⟩ : MapP w1 x.mb n x.f)
    obtain ⟨x', r1, r2, r3, r4⟩ := HEND.out w2 (HN1.out.heap fun q hq => hgr.block q (HN1.out q hq).lt (fun e => hnm (by injection e with e; rw [← e]; exact hq))) (HG1.out.heap (hgr.block g HG1.out.lt (fun e => hgm (by injection e with e)))) hmp
    exact ⟨rfl, x', r1, r2, r3, r4, (HC1.out.mono (S' := x.own g) fun q _ hq => hq.elim .inl fun e => .inr (.inr e)).grown hgr (fun q hq _ => by injection hq with hq; exact .inr (.inl hq.symm)), by
      obtain ⟨es, cl, es', cl', hh, rfl⟩ := ht2
      have : (setBlock w1 x.mb (.map es' cl')).heap.size = w1.heap.size := by simp [setBlock]
      rw [this]; exact HS1.out⟩
set_option maxHeartbeats 1000000 in
theorem drop_no (w : World) (g n : Nat) (al ke mo : Int) (x : Sx) (h : St w g n al ke mo x) (k : ByteArray) (hk : k.size ≤ 281474976710656) (hf : x.f k = none) :
    Calls Tryz.prog 50 #[ptr g, .string k] w fun e w' => e = .returned (.bool false) ∧ w = w' := by
  have HFI := Lib.hid (find_no w g n al ke mo x h k hk hf)
  clear h hk hf
  go_enter Tryz.func50, Tryz.ntmps50
  go_wp2_with (go_at_call 84; refine HFI.out.mono ?_; rintro e w' ⟨rfl, rfl⟩)
  go_ret
  exact ⟨rfl, rfl⟩
theorem drop_nil (w : World) (k : ByteArray) :
    Calls Tryz.prog 50 #[.pointer none, .string k] w fun e w' => e = .returned (.bool false) ∧ w = w' := by
  go_enter Tryz.func50, Tryz.ntmps50
  go_wp2_with (go_at_call 84; refine (find_nil _ _).mono ?_; rintro e w' ⟨rfl, rfl⟩)
  go_ret
  exact ⟨rfl, rfl⟩
theorem drop_zero (w : World) (g : Nat) (k : ByteArray) (h : w.cell? ⟨g, 0, none⟩ = some (.pointer none)) :
    Calls Tryz.prog 50 #[ptr g, .string k] w fun e w' => e = .returned (.bool false) ∧ w = w' := by
  go_enter Tryz.func50, Tryz.ntmps50
  go_wp2_with (go_at_call 84; refine (find_zero _ g _ h).mono ?_; rintro e w' ⟨rfl, rfl⟩)
  go_ret
  exact ⟨rfl, rfl⟩
/-- Drop, for every key -/
theorem drop_any (w : World) (g n : Nat) (al ke mo : Int) (x : Sx) (h : St w g n al ke mo x) (k : ByteArray) (hk : k.size ≤ 281474976710656) :
    Calls Tryz.prog 50 #[ptr g, .string k] w fun e w' => e = .returned (.bool (hasS k x.tE x.kE).isSome) ∧ StepP g n al ke mo x (delE k x.tE) (delE k x.kE) (x.own g) w w' := by
  cases hf : x.f k with
  | none =>
    obtain ⟨_, h1, h2, h3, h4⟩ := h.none_ hf
    refine (drop_no w g n al ke mo x h k hk hf).mono ?_
    rintro e w' ⟨rfl, rfl⟩
    exact ⟨by unfold hasS; rw [h1, h2]; rfl, x, h, h3.symm, h4.symm, fun _ hy => hy, Chg.refl _ _, rfl⟩
  | some b =>
    obtain ⟨_, _, hb, h1⟩ := h.some_ hf
    rcases h1 with ⟨hT, _, _, h1, h2, _⟩ | ⟨hT, _, _, h1, h2, _⟩
    · have e1 : (hasS k x.tE x.kE).isSome = true := by unfold hasS; rw [h1, h2]; rfl
      rw [e1]
      exact drop_T w g n al ke mo x h k hk b hf hT
    · have e1 : (hasS k x.tE x.kE).isSome = true := by unfold hasS; rw [h1, h2]; rfl
      rw [e1]
      exact drop_K w g n al ke mo x h k hk b hf hT
end Go.Proofs.YtjngangojgjceaaGreat.SL
