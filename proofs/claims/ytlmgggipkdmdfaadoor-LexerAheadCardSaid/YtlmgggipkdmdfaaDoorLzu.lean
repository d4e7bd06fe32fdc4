/- Quotes, dollars; blanks and a remark ahead of a text: in plain words. Condition: none. -/
import Derived.Test.YtlmgggipkdmdfaaDoorLzt
namespace Go.Proofs.YtlmgggipkdmdfaaDoor
open Go.ChangeShapes Go.WideShapes Go.ChangeAt Go.RowKit
set_option linter.unusedVariables false
set_option linter.unusedSimpArgs false

theorem scan_single (k : Int) (t : ByteArray) (hg : Good k t) : scanF (bb (shownL (k, t, 0))) 0 [] = ([(k, t, 0)], 0, 0) := by
  have hd : (bb (shownL (k, t, 0))).data.toList.drop 0 = shownL (k, t, 0) ++ [] := by simp
  obtain ⟨hS, ho⟩ := hg _ 0 [] 0 hd (.inl rfl)
  rw [scan_good _ 0 [] k t _ hS ho, scanF_end _ _ _ (by show (shownL (k, t, 0)).toArray.size ≤ _; rw [List.size_toArray]; omega)]
  rfl
theorem idx_dol (l : Tx) (h : (36 : UInt8) ∉ l) : Lib.index (l ++ [36, 113, 36]) [36, 113, 36] = (l.length : Int) := by
  induction l with
  | nil => rw [List.nil_append, idx_cons, if_pos (by decide)]; rfl
  | cons c r ih =>
    have hc : c ≠ 36 := fun e => h (by rw [e]; simp)
    have hr := ih (fun hm => h (by simp [hm]))
    rw [List.cons_append, idx_cons, if_neg, hr, if_neg (by omega)]
    · simp
    · intro hh
      simp [List.isPrefixOf] at hh
      exact hc hh.1.symm
theorem scan_dol (l : Tx) (h : (36 : UInt8) ∉ l) : scanF (bb ([36, 113, 36] ++ l ++ [36, 113, 36])) 0 [] = ([(3, bb l, 0)], 0, 0) := by
  obtain ⟨x, hx⟩ : ∃ x, bb ([36, 113, 36] ++ l ++ [36, 113, 36]) = x := ⟨_, rfl⟩
  have hxl : x.data.toList = 36 :: 113 :: 36 :: (l ++ [36, 113, 36]) := by rw [← hx]; simp
  rw [hx]
  have hxs : x.size = l.length + 6 := by rw [← hx, bb_size]; simp
  have hd : x.data.toList.drop 0 = 36 :: (113 :: 36 :: (l ++ [36, 113, 36])) := by rw [hxl]; rfl
  obtain ⟨h1, h2, h3⟩ := head_lt x 0 36 _ hd
  have hS := solid_of x 0 36 _ hd (by decide) (.inl (by decide)) (.inl (by decide))
  have htl : tagL (x.data.toList.drop (0 + 1)) = 1 := by
    rw [h3, tagL_cons, if_pos (by decide), rowL_cons, if_neg (by decide)]
  have hta : tagAt x 0 = 3 := by
    unfold tagAt
    rw [htl, if_pos]
    · rfl
    · rw [hxl]; rfl
  have hm : (x.extract 0 3).data.toList = [36, 113, 36] := by
    have := ext_to x 0 3 (by omega)
    rw [this, hd]; rfl
  have hd3 : x.data.toList.drop 3 = l ++ [36, 113, 36] := by rw [hxl]; rfl
  have hdo : dolAt x 0 3 = some (l, 3 + l.length + 3) := by
    unfold dolAt
    rw [hm, hd3, idx_dol l h, if_pos (by omega), Int.toNat_natCast]
    simp
  have ho : oneP x 0 = ((3, bb l, ((0 : Nat) : Int)), 3 + l.length + 3, 0) := by
    unfold oneP
    simp only [h2]
    rw [if_neg (by decide), if_neg (by decide), if_neg (by decide), if_neg (by decide), if_pos trivial, hta, if_pos (by decide)]
    rw [show Int.toNat 3 = 3 from rfl, hdo]
  rw [scan_good x 0 [] 3 (bb l) _ hS ho, scanF_end _ _ _ (by omega)]
  rfl
/-- places so much farther -/
def shT (d : Nat) (t : Tok) : Tok := (t.1, t.2.1, t.2.2 + (d : Int))
def shR (d : Nat) (r : List Tok × Int × Int) : List Tok × Int × Int := (r.1.map (shT d), r.2.1, if r.2.1 = 0 then r.2.2 else r.2.2 + (d : Int))
theorem scan_shift (s x : ByteArray) (d : Nat) (hx : x.size = s.size + d) (hd : ∀ a, x.extract (a + d) x.size = s.extract a s.size) : ∀ (f a : Nat) (acc : List Tok), scanN f x (a + d) (acc.map (shT d)) = shR d (scanN f s a acc) := by
  intro f
  induction f with
  | zero => intro a acc; rfl
  | succ f ih =>
    intro a acc
    rw [scanN, scanN]
    by_cases h : s.size ≤ a
    · rw [if_pos h, if_pos (by omega)]; rfl
    · rw [if_neg h, if_neg (by omega), hd a]
      cases hf : findR 10 (s.extract a s.size) with
      | none => simp only [shR]; simp
      | some p =>
        by_cases hp : p.2.2 = -1
        · simp only [hp, if_true, shR]; simp
        · simp only [hp, if_false]
          have e : (if p.1 = 0 then acc.map (shT d) else acc.map (shT d) ++ [(p.1, p.2.1, ((a + d : Nat) : Int))]) = (if p.1 = 0 then acc else acc ++ [(p.1, p.2.1, (a : Int))]).map (shT d) := by
            split
            · rfl
            · rw [List.map_append]; simp [shT]
          rw [e, show a + d + p.2.2.toNat = a + p.2.2.toNat + d by omega]
          exact ih _ _
theorem ext_app (p s : ByteArray) (a : Nat) : (p ++ s).extract (a + p.size) (p ++ s).size = s.extract a s.size := by
  apply ByteArray.ext
  apply Array.ext'
  rw [ext_list, ext_list]
  have : (p ++ s).data.toList = p.data.toList ++ s.data.toList := by simp
  rw [this, Nat.add_comm, ← List.drop_drop]
  have hp : p.size = p.data.toList.length := rfl
  rw [hp, List.drop_left]
abbrev ahead : ByteArray := ⟨#[32, 47, 42, 47, 42, 42, 47, 42, 47, 10]⟩
theorem ahead_rem (l : Tx) : remL 1 ([47, 42, 42, 47, 42, 47, 10] ++ l) = some 6 := by
  show remL 1 (47 :: 42 :: 42 :: 47 :: 42 :: 47 :: 10 :: l) = some 6
  rw [remL, if_pos (by rfl)]
  show (remL 2 (42 :: 47 :: 42 :: 47 :: 10 :: l)).map (· + 2) = some 6
  rw [remL, if_neg (by simp), if_pos (by rfl)]
  show ((remL 1 (42 :: 47 :: 10 :: l)).map (· + 2)).map (· + 2) = some 6
  rw [remL, if_neg (by simp), if_pos (by rfl)]
  show (((remL 0 (10 :: l)).map (· + 2)).map (· + 2)).map (· + 2) = some 6
  rw [remL]; rfl
theorem scan_ahead (s : ByteArray) : scanF (ahead ++ s) 0 [] = shR 10 (scanF s 0 []) := by
  obtain ⟨x, hx⟩ : ∃ x, ahead ++ s = x := ⟨_, rfl⟩
  have hxl : x.data.toList = 32 :: 47 :: 42 :: 47 :: 42 :: 42 :: 47 :: 42 :: 47 :: 10 :: s.data.toList := by rw [← hx]; simp
  have hsz : x.size = s.size + 10 := by
    have e : x.size = x.data.toList.length := rfl
    have e2 : s.size = s.data.toList.length := rfl
    rw [e, hxl, e2]; rfl
  rw [hx]
  have s1 : scanF x 0 [] = scanF x 1 [] := scan_blank x 0 [] (by omega) (by rw [hxl]; show fiveQ 32 = true; decide)
  have s2 : scanF x 1 [] = scanF x 9 [] := by
    have h1 : x.data.toList.drop 1 = 47 :: 42 :: 47 :: 42 :: 42 :: 47 :: 42 :: 47 :: 10 :: s.data.toList := by rw [hxl]; rfl
    have h := scan_rem x 1 [] (by omega) (by rw [h1]; show fiveQ 47 = false; decide) (by rw [h1]; rfl)
    have hr : remAt x 1 = some 9 := by
      unfold remAt
      have h3 : x.data.toList.drop (1 + 2) = [47, 42, 42, 47, 42, 47, 10] ++ s.data.toList := by rw [hxl]; rfl
      rw [h3, ahead_rem]; rfl
    rw [hr] at h
    exact h
  have s3 : scanF x 9 [] = scanF x 10 [] := by
    have h1 : x.data.toList.drop 9 = 10 :: s.data.toList := by rw [hxl]; rfl
    exact scan_blank x 9 [] (by omega) (by rw [h1]; show fiveQ 10 = true; decide)
  rw [s1, s2, s3]
  have hsh := scan_shift s x 10 hsz (fun a => by rw [← hx]; exact ext_app ahead s a) (s.size + 1) 0 []
  unfold scanF
  rw [← hsh]
  exact scan_fuel x s.size _ _ 10 [] (by omega) (by omega) (by omega)
end Go.Proofs.YtlmgggipkdmdfaaDoor
