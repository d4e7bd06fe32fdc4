/- The document's store for slru: Touch, whatever there is; what both stores tell, one beside the other. Conditions: each key once, how large. -/
import Derived.Test.YtfilmbeoggmglaaSnd
namespace Go.Proofs.Ytfilmbeoggmglaa.SL
open Go.ChangeShapes Go.WideShapes Go.ChangeAt Go.RowKit Go.Maps Go.ChangeMaps
set_option maxRecDepth 100000
set_option linter.unusedVariables false
set_option linter.unusedSimpArgs false

theorem posE.ins {l : List En} (h : posE l) (k : ByteArray) {z : Int} (hz : 1 ≤ z) : posE ((k, z) :: delE k l) := fun y hy => by
  rcases List.mem_cons.1 hy with rfl | hy
  · exact hz
  · exact h.del k y hy
theorem hasS_t {k : ByteArray} {T K : List En} {y : Int} (h : hasE k T = some y) : hasS k T K = some y := by unfold hasS; rw [h]; rfl
theorem hasS_k {k : ByteArray} {T K : List En} (h : hasE k T = none) : hasS k T K = hasE k K := by unfold hasS; rw [h]; rfl
/-- the parts of what is told when a key that is there is used -/
theorem touch_parts {T K : List En} (hT : posE T) (hK : posE K) {k : ByteArray} {z : Int} (hz : hasS k T K = some z) :
    1 ≤ z ∧ sumE (delE k T) + (z + sumE (delE k K)) ≤ sumE T + sumE K ∧ (hasE k T = none → z ≤ sumE K) := by
  obtain ⟨t1, t2⟩ := sum_del_has (k := k) hT
  obtain ⟨k1, k2⟩ := sum_del_has (k := k) hK
  have hn := sum_nonneg (hK.del k)
  cases ht : hasE k T with
  | none =>
    rw [hasS_k ht] at hz
    have := k1 z hz
    exact ⟨has_pos hK hz, by omega, fun _ => by omega⟩
  | some y =>
    rw [hasS_t ht] at hz
    injection hz with hz
    subst hz
    have := t1 y ht
    exact ⟨has_pos hT ht, by omega, fun h => by cases h⟩
theorem rtouch_to (w0 w : World) (g : Nat) (al ke mo : Int) (T0 K0 : List En) (h : RS w0 w g al ke mo T0 K0) (hu : UK T0 K0) (hpT : posE T0) (hpK : posE K0) (hlim : sumE T0 + sumE K0 ≤ 1073741824) (hke : 0 ≤ ke) (hsk : sumE K0 ≤ ke) (k : ByteArray) (z : Int) (hz : hasS k T0 K0 = some z)
    (T9 K9 : List En) (G : List ByteArray) (hR : touchE ke k z T0 K0 = (T9, K9, G)) :
    Calls Try.prog 15 #[ptr g, .string k] w (TchP w0 w g al ke mo T9 K9 G) := by
  have lT := sum_pos hpT
  have lK := sum_pos hpK
  have nT := sum_nonneg hpT
  have nK := sum_nonneg hpK
  have hl : T0.length ≤ 1073741824 ∧ K0.length ≤ 1073741824 := by omega
  obtain ⟨z1, zs, zk⟩ := touch_parts hpT hpK hz
  unfold touchE at hR
  by_cases hk : z ≤ ke
  · rw [if_pos hk] at hR
    rcases place_has k T0 with ⟨hp, hn⟩ | ⟨p, y, hp, _, hh⟩
    · exact rtouch_two w0 w g al ke mo T0 K0 h hl k z hz hp hk hke _ _ rfl rfl (hu.ins k z) (hpT.del k) (hpK.ins k z1) (by rw [sumE]; exact Int.le_trans zs hlim) T9 K9 G hR
    · exact rtouch_one w0 w g al ke mo T0 K0 h hl k z hz p hp hk hke _ _ rfl rfl (hu.ins k z) (hpT.del k) (hpK.ins k z1) (by rw [sumE]; exact Int.le_trans zs hlim) T9 K9 G hR
  · rw [if_neg hk] at hR
    simp only [Prod.mk.injEq] at hR
    obtain ⟨rfl, rfl, rfl⟩ := hR
    rcases place_has k T0 with ⟨hp, hn⟩ | ⟨p, y, hp, _, hh⟩
    · exfalso
      have := zk hn
      omega
    · exact rtouch_big w0 w g al ke mo T0 K0 h hl k z hz p hp (by omega) _ _ rfl rfl (Nat.le_trans (List.length_filter_le _ _) hl.1)
section
variable {w0 w w' : World} {g n r : Nat} {al ke mo : Int} {T K T' K' : List En} {O : List Kp}
theorem lr_rtouch (h : LR w0 w g n al ke mo T K r T' K' O) (hO : allTxt O) (hu : UK T' K') (hpT : posE T') (hpK : posE K') (hlim : sumE T' + sumE K' ≤ 1073741824) (hke : 0 ≤ ke) (hsk : sumE K' ≤ ke) (k : ByteArray) (z : Int) (hz : hasS k T' K' = some z) (T2 K2 : List En) (G : List ByteArray) (hR : touchE ke k z T' K' = (T2, K2, G)) :
    Calls Try.prog 15 #[ptr r, .string k] w (LRP w0 g n al ke mo T K r T2 K2 O G (two (.bool true))) := by
  refine (rtouch_to w0 w r al ke mo T' K' h.rs hu hpT hpK hlim hke hsk k z hz T2 K2 G hR).mono ?_
  rintro e w1 ⟨v, c, rfl, h3, h4, h5⟩
  exact ⟨v, c, rfl, h.chgt hO h5 h4 h3⟩
theorem lr_rkeys (h : LR w0 w g n al ke mo T K r T' K' O) (v : Value) (l : List En) (hv : ER w v l) (hl : l.length ≤ 1073741824) (d : List ByteArray) (hd : keysE l = d) :
    Calls Try.prog 22 #[v] w fun e w' => ∃ u, e = .returned u ∧ Below w.heap.size w w' ∧ LR w0 w' g n al ke mo T K r T' K' (.txt u d :: O) := by
  obtain ⟨P, S, h1, h2⟩ := h
  subst hd
  refine (rkeys_any v l w hv hl).mono ?_
  rintro e w1 ⟨u, rfl, h3, h4⟩
  exact ⟨u, rfl, h4, LR.swap (h1.add h4 h3) h2⟩
end
/-- what the code's calls that only make memory leave of a list of entries -/
theorem LR.er {w0 w : World} {g n r : Nat} {al ke mo : Int} {T K T' K' : List En} {O : List Kp} (h : LR w0 w g n al ke mo T K r T' K' O) : ∃ aT cT aK cK, Bk w r 47 #[.slice aT T'.length cT, .slice aK K'.length cK, .int .i64 al, .int .i64 ke, .int .i64 mo] ∧ ER w (.slice aT T'.length cT) T' ∧ ER w (.slice aK K'.length cK) K' := by
  obtain ⟨aT, cT, aK, cK, r1, r2, r3, r4, r5, r6, r7⟩ := h.rs
  exact ⟨aT, cT, aK, cK, r1, r2.er, r3.er⟩
end Go.Proofs.Ytfilmbeoggmglaa.SL
