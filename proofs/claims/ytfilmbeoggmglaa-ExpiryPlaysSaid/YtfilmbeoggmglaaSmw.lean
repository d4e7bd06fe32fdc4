/- The document's store for slru: what its loops leave, on plain lists. No program; no condition. -/
import Derived.Test.YtfilmbeoggmglaaSmv
namespace Go.Proofs.Ytfilmbeoggmglaa.SL
open Go.ChangeShapes Go.WideShapes Go.ChangeAt Go.RowKit Go.Maps Go.ChangeMaps
set_option maxRecDepth 100000
set_option linter.unusedVariables false
set_option linter.unusedSimpArgs false

/-- each key once -/
structure UK (T K : List En) : Prop where
  t : (keysE T).Nodup
  k : (keysE K).Nodup
  ap : ∀ k, k ∈ keysE T → k ∉ keysE K
theorem UK.swap {T K : List En} (h : UK T K) : UK K T := ⟨h.k, h.t, fun k h1 h2 => h.ap k h2 h1⟩
theorem keysE_app (a b : List En) : keysE (a ++ b) = keysE a ++ keysE b := by unfold keysE; rw [List.map_append]
theorem delE_app (k : ByteArray) (a b : List En) : delE k (a ++ b) = delE k a ++ delE k b := by unfold delE; rw [List.filter_append]
theorem UK.last {T K : List En} (h : UK T K) {x : En} (hx : T.getLast? = some x) : delE x.1 T = T.dropLast ∧ delE x.1 K = K ∧ UK T.dropLast K := by
  have e := last_app hx
  have ht := h.t
  rw [e, keysE_app] at ht
  have hn := List.nodup_append.1 ht
  have hx0 : x.1 ∈ keysE T := by rw [e, keysE_app]; exact List.mem_append.2 (.inr (by simp [keysE]))
  refine ⟨?_, del_no (mem_keys (h.ap _ hx0)), ⟨hn.1, h.k, fun k hk => h.ap k (by rw [e, keysE_app]; exact List.mem_append.2 (.inl hk))⟩⟩
  have e1 : delE x.1 T.dropLast = T.dropLast := del_no (mem_keys fun hk => hn.2.2 x.1 hk x.1 (by simp [keysE]) rfl)
  have e2 : delE x.1 [x] = [] := by unfold delE; rw [List.filter_cons, if_neg (by simp)]; rfl
  calc delE x.1 T = delE x.1 (T.dropLast ++ [x]) := by rw [← e]
    _ = T.dropLast := by rw [delE_app, e1, e2, List.append_nil]
theorem UK.lastK {T K : List En} (h : UK T K) {x : En} (hx : K.getLast? = some x) : delE x.1 K = K.dropLast ∧ delE x.1 T = T ∧ UK T K.dropLast := by
  obtain ⟨h1, h2, h3⟩ := h.swap.last hx
  exact ⟨h1, h2, h3.swap⟩
theorem UK.del {T K : List En} (h : UK T K) (k : ByteArray) : UK (delE k T) (delE k K) := by
  have hs : ∀ l : List En, (keysE (delE k l)).Sublist (keysE l) := fun l => (List.filter_sublist).map _
  exact ⟨h.t.sublist (hs T), h.k.sublist (hs K), fun q hq hq2 => h.ap q ((hs T).subset hq) ((hs K).subset hq2)⟩
theorem LS.uk {w0 w : World} {g n : Nat} {al ke mo : Int} {T K : List En} {O : List Kp} (h : LS w0 w g n al ke mo T K O) : UK T K := ⟨h.nodup.1, h.nodup.2, h.apart⟩
/-- a round of the document's loop that makes room -/
theorem room_T {al z : Int} {T K : List En} {x : En} (n : Nat) (hc : al < sumE T + sumE K + z) (hx : T.getLast? = some x) : roomE al z (n + 1) T K = ((roomE al z n T.dropLast K).1, (roomE al z n T.dropLast K).2.1, x.1 :: (roomE al z n T.dropLast K).2.2) := by
  conv => lhs; unfold roomE
  rw [if_pos hc, hx]
theorem room_K {al z : Int} {K : List En} {x : En} (n : Nat) (hc : al < sumE [] + sumE K + z) (hx : K.getLast? = some x) : roomE al z (n + 1) [] K = ((roomE al z n [] K.dropLast).1, (roomE al z n [] K.dropLast).2.1, x.1 :: (roomE al z n [] K.dropLast).2.2) := by
  conv => lhs; unfold roomE
  rw [if_pos hc]
  simp only [List.getLast?_nil, hx]
/-- a round of the document's loop that shrinks the kept segment -/
theorem shr_K {ke : Int} {T K : List En} {x : En} (n : Nat) (hc : ke < sumE K) (hx : K.getLast? = some x) : shrE ke (n + 1) T K = ((shrE ke n (x :: T) K.dropLast).1, (shrE ke n (x :: T) K.dropLast).2.1, x.1 :: (shrE ke n (x :: T) K.dropLast).2.2) := by
  conv => lhs; unfold shrE
  rw [if_pos hc, hx]
theorem shr_no {ke : Int} {T K : List En} (h : sumE K ≤ ke) : ∀ n, shrE ke n T K = (T, K, [])
  | 0 => rfl
  | n + 1 => by unfold shrE; rw [if_neg (by omega)]
end Go.Proofs.Ytfilmbeoggmglaa.SL
