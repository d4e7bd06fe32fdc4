/- Lzi Lxz Lyb Lzj Lzk Lzl Lzm Lzn Lzp -/
import Derived.Test.YtjmmninopagpjaaGreatDoorG13
import Derived.Test.YtjmmninopagpjaaGreatDoorG10
import Derived.Test.YtjmmninopagpjaaGreatDoorG11
import Derived.KernelRfl
import Derived.Test.YtjmmninopagpjaaGreatDoorG1
set_option linter.unusedSimpArgs false
set_option linter.unusedVariables false
namespace Go.Proofs.YtjmmninopagpjaaGreatDoor
open Go.ChangeShapes Go.WideShapes Go.ChangeAt Go.RowKit
set_option maxRecDepth 100000
set_option linter.unusedVariables false
set_option linter.unusedSimpArgs false



def scanA (s : ByteArray) : List Tok × Int × Int := if 2000 < s.size then ([],2,2000) else scanN (s.size + 1) s 0 []
theorem scan_any (s : ByteArray) (m : Int) (w : World) (hm : Wd m w) :
  Calls Tryz.prog 76 #[.string s] w (ScanP w (scanA s)) := by
 by_cases h : 2000 < s.size
 ·have e : scanA s = ([],2,2000) := if_pos h
  rw [e]
  have hl : (2000 : Int) < (s.size : Int) := by omega
  clear e
  go_enter Tryz.func76,Tryz.ntmps76
  go_wp2
  go_step3
  go_wp2
  try rw [Exit.noGoto_ret]
  go_ret3
  exact ⟨_,rfl,World.ownsRow_nil _ _ _ _,Below.refl _ _⟩
 ·exact scan_small s m w (by omega) hm _ (if_neg h)

theorem hp_eq (x p : ByteArray) : hpB x p = p.data.toList.isPrefixOf x.data.toList := by
 unfold hpB
 by_cases h : p.size ≤ x.size
 ·rw [decide_eq_true h,Bool.true_and]
  have := starts_eq x p 0 (by omega)
  rw [Nat.zero_add,List.drop_zero] at this
  exact this
 ·rw [decide_eq_false h,Bool.false_and]
  have := starts_short x p 0 (by omega) (by omega)
  rw [List.drop_zero] at this
  exact this.symm
theorem find_sized (k : Nat) (hk : k ≤ 10) (r : ByteArray) (hr : 0 < r.size) (p : Pc) (h : findR k r = some p) : p.2.2 = -1 ∨ (1 ≤ p.2.2 ∧ p.2.2 ≤ (r.size : Int)) := by
 induction k with
 | zero => cases h
 | succ k ih =>
  rw [findR] at h
  by_cases h0 : (rdP (9 - k) r).2.2 = 0
  ·rw [if_pos h0] at h
   exact ih (by omega) h
  ·rw [if_neg h0] at h
   cases h
   rcases rd_sized (9 - k) r hr with h1 | h1 | h1
   ·exact absurd h1 h0
   ·exact .inl h1
   ·exact .inr h1
theorem scan_fuel (s : ByteArray) : ∀ (n f g a : Nat) (acc : List Tok),s.size - a ≤ n → n < f → n < g → scanN f s a acc = scanN g s a acc := by
 intro n
 induction n with
 | zero =>
  intro f g a acc hn hf hg
  obtain ⟨f,rfl⟩ : ∃ x,f = x + 1 := ⟨f - 1,by omega⟩
  obtain ⟨g,rfl⟩ : ∃ x,g = x + 1 := ⟨g - 1,by omega⟩
  rw [scanN,scanN,if_pos (by omega),if_pos (by omega)]
 | succ n ih =>
  intro f g a acc hn hf hg
  obtain ⟨f,rfl⟩ : ∃ x,f = x + 1 := ⟨f - 1,by omega⟩
  obtain ⟨g,rfl⟩ : ∃ x,g = x + 1 := ⟨g - 1,by omega⟩
  rw [scanN,scanN]
  by_cases h : s.size ≤ a
  ·rw [if_pos h,if_pos h]
  ·rw [if_neg h,if_neg h]
   cases hf2 : findR 10 (s.extract a s.size) with
   | none => rfl
   | some p =>
    have hsz := find_sized 10 (Nat.le_refl _) _ (by rw [ByteArray.size_extract]; omega) p hf2
    by_cases hp : p.2.2 = -1
    ·simp only [hp,if_true]
    ·simp only [hp,if_false]
     exact ih f g _ _ (by omega) (by omega) (by omega)
def scanF (s : ByteArray) (a : Nat) (acc : List Tok) : List Tok × Int × Int := scanN (s.size + 1) s a acc
theorem scanF_end (s : ByteArray) (a : Nat) (acc : List Tok) (h : s.size ≤ a) : scanF s a acc = (acc,0,0) := by
 unfold scanF; rw [scanN,if_pos h]
theorem scanF_none (s : ByteArray) (a : Nat) (acc : List Tok) (h : a < s.size) (hf : findR 10 (s.extract a s.size) = none) : scanF s a acc = ([],7,(a : Int)) := by
 unfold scanF; rw [scanN,if_neg (by omega),hf]
theorem scanF_bad (s : ByteArray) (a : Nat) (acc : List Tok) (h : a < s.size) (p : Pc) (hf : findR 10 (s.extract a s.size) = some p) (hp : p.2.2 = -1) : scanF s a acc = ([],6,(a : Int)) := by
 unfold scanF; rw [scanN,if_neg (by omega),hf]; simp only [hp,if_true]
theorem scanF_step (s : ByteArray) (a : Nat) (acc : List Tok) (h : a < s.size) (k : Int) (t : ByteArray) (n : Nat) (hn : 0 < n) (hf : findR 10 (s.extract a s.size) = some (k,t,(n : Int))) :
  scanF s a acc = scanF s (a + n) (if k = 0 then acc else acc ++ [(k,t,(a : Int))]) := by
 unfold scanF
 rw [scanN,if_neg (by omega),hf]
 have : ¬ ((n : Int) = -1) := by omega
 simp only [this,if_false,Int.toNat_natCast]
 exact scan_fuel s (s.size - (a + n)) _ _ _ _ (Nat.le_refl _) (by omega) (by omega)
theorem find_first (i : Nat) (hi : i < 10) (r : ByteArray) (h0 : ∀ j,j < i → (rdP j r).2.2 = 0) (h1 : (rdP i r).2.2 ≠ 0) : findR 10 r = some (rdP i r) := by
 have key : ∀ d j,j + d = i → findR (10 - j) r = some (rdP i r) := by
  intro d
  induction d with
  | zero => intro j hj; have : j = i := by omega
            subst this; rw [findR_at j hi,if_neg h1]
  | succ d ih =>
   intro j hj
   rw [findR_at j (by omega),if_pos (h0 j (by omega))]
   exact ih (j + 1) (by omega)
 exact key i 0 (by omega)
theorem find_none (r : ByteArray) (h0 : ∀ j,j < 10 → (rdP j r).2.2 = 0) : findR 10 r = none := by
 have key : ∀ d j,j + d = 10 → findR (10 - j) r = none := by
  intro d
  induction d with
  | zero => intro j hj; have : j = 10 := by omega
            subst this; rfl
  | succ d ih =>
   intro j hj
   rw [findR_at j (by omega),if_pos (h0 j (by omega))]
   exact ih (j + 1) (by omega)
 exact key 10 0 (by omega)

theorem cut_line (l : Tx) : (Lib.cut l [10]).1 = l.takeWhile notNl := by
 unfold Lib.cut
 induction l with
 | nil => rw [idx_nil _ (by simp)]; rfl
 | cons c r ih =>
  rw [List.takeWhile_cons]
  by_cases h : c = 10
  ·subst h
   have e : Lib.index (10 :: r) [10] = 0 := by rw [idx_cons,if_pos]; simp
   rw [e]
   rfl
  ·have h1 : ¬ ([10] : Tx).isPrefixOf (c :: r) = true := by
    simp [List.isPrefixOf]; exact fun h2 => h h2.symm
   have h2 : notNl c = true := by unfold notNl; rw [bne_iff_ne]; exact h
   rw [idx_cons,if_neg h1,if_pos h2,← ih]
   have hge := Lib.index_ge r [10]
   by_cases h3 : Lib.index r [10] = -1
   ·rw [if_pos h3,if_neg (by omega),if_neg (by omega)]
   ·rw [if_neg h3,if_pos (by omega),if_pos (by omega)]
    obtain ⟨n,hn⟩ : ∃ n : Nat,Lib.index r [10] = (n : Int) := ⟨(Lib.index r [10]).toNat,by omega⟩
    rw [hn]
    show (c :: r).take (n + 1) = c :: r.take n
    rfl
theorem line_size (r : ByteArray) : (lineA r).size = rowL notNl r.data.toList := by
 unfold lineA
 show (Lib.cut r.data.toList [10]).1.toArray.size = _
 rw [cut_line,List.size_toArray]; rfl
theorem z0 (s : ByteArray) (a : Nat) : (rdP 0 (s.extract a s.size)).2.2 = ((rowL fiveQ (s.data.toList.drop a) : Nat) : Int) := by
 show ((rowL fiveQ (s.extract a s.size).data.toList : Nat) : Int) = _
 rw [ext_list]
theorem z1_no (s : ByteArray) (a : Nat) (h : (s.data.toList.drop a).take 2 ≠ [45,45]) : (rdP 1 (s.extract a s.size)).2.2 = 0 := by
 show (if hpB (s.extract a s.size) dashT = true then ((lineA (s.extract a s.size)).size : Int) else 0) = 0
 rw [hp_eq,ext_list,if_neg]
 exact fun h2 => h ((pfx2 _ _ _).1 h2)
theorem z1_yes (s : ByteArray) (a : Nat) (h : (s.data.toList.drop a).take 2 = [45,45]) : rdP 1 (s.extract a s.size) = (0,⟨#[]⟩,((rowL notNl (s.data.toList.drop a) : Nat) : Int)) := by
 show ((0 : Int),(⟨#[]⟩ : ByteArray),(if hpB (s.extract a s.size) dashT = true then ((lineA (s.extract a s.size)).size : Int) else 0)) = _
 rw [hp_eq,ext_list,if_pos ((pfx2 _ _ _).2 h),line_size,ext_list]
theorem z2_no (s : ByteArray) (a : Nat) (h : (s.data.toList.drop a).take 2 ≠ [47,42]) : (rdP 2 (s.extract a s.size)).2.2 = 0 := by
 show (if hpB (s.extract a s.size) opnT = true then _ else pc0).2.2 = 0
 rw [hp_eq,ext_list,if_neg]
 ·rfl
 ·exact fun h2 => h ((pfx2 _ _ _).1 h2)
theorem z2_yes (s : ByteArray) (a : Nat) (h : (s.data.toList.drop a).take 2 = [47,42]) : rdP 2 (s.extract a s.size) = (0,⟨#[]⟩,remI ((remL 1 (s.data.toList.drop (a + 2))).map (· + 2))) := by
 show (if hpB (s.extract a s.size) opnT = true then ((0 : Int),(⟨#[]⟩ : ByteArray),remI ((remL 1 ((s.extract a s.size).data.toList.drop 2)).map (· + 2))) else pc0) = _
 rw [hp_eq,ext_list,if_pos ((pfx2 _ _ _).2 h),List.drop_drop]
structure Solid (s : ByteArray) (a : Nat) : Prop where
 lt : a < s.size
 blank : fiveQ ((s.data.toList.drop a).headD 0) = false
 line : (s.data.toList.drop a).take 2 ≠ [45,45]
 rem : (s.data.toList.drop a).take 2 ≠ [47,42]
theorem five_row (s : ByteArray) (a : Nat) (h : a < s.size) : rowL fiveQ (s.data.toList.drop a) = if fiveQ ((s.data.toList.drop a).headD 0) = true then rowL fiveQ (s.data.toList.drop (a + 1)) + 1 else 0 := by
 rw [byte_at s a h,rowL_cons]; rfl
theorem scan_blank (s : ByteArray) (a : Nat) (acc : List Tok) (h : a < s.size) (hb : fiveQ ((s.data.toList.drop a).headD 0) = true) : scanF s a acc = scanF s (a + 1) acc := by
 have h0 := five_row s a h
 rw [if_pos hb] at h0
 have one : ∀ b,b < s.size → 0 < rowL fiveQ (s.data.toList.drop b) → scanF s b acc = scanF s (b + rowL fiveQ (s.data.toList.drop b)) acc := by
  intro b hb2 hp
  have hf := find_first 0 (by omega) (s.extract b s.size) (fun j hj => by omega) (by rw [z0]; omega)
  have e : rdP 0 (s.extract b s.size) = (0,⟨#[]⟩,((rowL fiveQ (s.data.toList.drop b) : Nat) : Int)) := by
   show ((0 : Int),(⟨#[]⟩ : ByteArray),((rowL fiveQ (s.extract b s.size).data.toList : Nat) : Int)) = _
   rw [ext_list]
  rw [e] at hf
  have := scanF_step s b acc hb2 0 ⟨#[]⟩ _ hp hf
  rwa [if_pos rfl] at this
 rw [one a h (by omega),h0]
 by_cases hn : rowL fiveQ (s.data.toList.drop (a + 1)) = 0
 ·rw [hn]
 ·have h1 : a + 1 < s.size := by
   rcases Nat.lt_or_ge (a + 1) s.size with h2 | h2
   ·exact h2
   ·rw [drop_nil s (a + 1) (by omega)] at hn; exact absurd rfl hn
  rw [one (a + 1) h1 (by omega),show a + 1 + rowL fiveQ (s.data.toList.drop (a + 1)) = a + (rowL fiveQ (s.data.toList.drop (a + 1)) + 1) by omega]
theorem scan_line (s : ByteArray) (a : Nat) (acc : List Tok) (h : a < s.size) (hb : fiveQ ((s.data.toList.drop a).headD 0) = false) (hl : (s.data.toList.drop a).take 2 = [45,45]) : scanF s a acc = scanF s (lineEnd s a) acc := by
 have hg := lineEnd_gt s a hl
 unfold lineEnd at hg ⊢
 have h0 := five_row s a h
 rw [hb,if_neg (by decide)] at h0
 have hj : ∀ j,j < 1 → (rdP j (s.extract a s.size)).2.2 = 0 := by
  intro j hj
  obtain rfl : j = 0 := by omega
  rw [z0,h0]; rfl
 have hf := find_first 1 (by omega) (s.extract a s.size) hj (by rw [z1_yes s a hl]; show ((rowL notNl (s.data.toList.drop a) : Nat) : Int) ≠ 0; omega)
 rw [z1_yes s a hl] at hf
 have := scanF_step s a acc h 0 ⟨#[]⟩ _ (by omega) hf
 rwa [if_pos rfl] at this
theorem scan_rem (s : ByteArray) (a : Nat) (acc : List Tok) (h : a < s.size) (hb : fiveQ ((s.data.toList.drop a).headD 0) = false) (hl : (s.data.toList.drop a).take 2 = [47,42]) :
  scanF s a acc = (match remAt s a with | none => ([],6,(a : Int)) | some n => scanF s n acc) := by
 have h0 := five_row s a h
 rw [hb,if_neg (by decide)] at h0
 have hz := z2_yes s a hl
 have h1 : (s.data.toList.drop a).take 2 ≠ [45,45] := by rw [hl]; decide
 have hj : ∀ j,j < 2 → (rdP j (s.extract a s.size)).2.2 = 0 := by
  intro j hj
  have : j = 0 ∨ j = 1 := by omega
  rcases this with rfl | rfl
  ·rw [z0,h0]; rfl
  ·exact z1_no s a h1
 unfold remAt
 cases hr : remL 1 (s.data.toList.drop (a + 2)) with
 | none =>
  rw [hr] at hz
  have hf := find_first 2 (by omega) (s.extract a s.size) hj (by rw [hz]; show (-1 : Int) ≠ 0; decide)
  rw [hz] at hf
  exact scanF_bad s a acc h _ hf rfl
 | some n =>
  rw [hr] at hz
  have hz2 : rdP 2 (s.extract a s.size) = (0,⟨#[]⟩,((n + 2 : Nat) : Int)) := hz
  have hf := find_first 2 (by omega) (s.extract a s.size) hj (by rw [hz2]; show ((n + 2 : Nat) : Int) ≠ 0; omega)
  rw [hz2] at hf
  have := scanF_step s a acc h 0 ⟨#[]⟩ (n + 2) (by omega) hf
  rw [if_pos rfl] at this
  rw [this]
  show scanF s (a + (n + 2)) acc = scanF s (n + (a + 2)) acc
  rw [show a + (n + 2) = n + (a + 2) by omega]
theorem gapN_end (f : Nat) (s : ByteArray) (a : Nat) (h : s.size ≤ a) : gapN (f + 1) s a = (a,false) := by rw [gapN,if_pos h]
theorem gapN_blank (f : Nat) (s : ByteArray) (a : Nat) (h : ¬ s.size ≤ a) (hb : fiveQ ((s.data.toList.drop a).headD 0) = true) : gapN (f + 1) s a = gapN f s (a + 1) := by rw [gapN,if_neg h,if_pos hb]
theorem gapN_line (f : Nat) (s : ByteArray) (a : Nat) (h : ¬ s.size ≤ a) (hb : fiveQ ((s.data.toList.drop a).headD 0) = false) (hl : (s.data.toList.drop a).take 2 = [45,45]) : gapN (f + 1) s a = gapN f s (lineEnd s a) := by
 rw [gapN,if_neg h,hb,if_neg (by simp),if_pos hl]
theorem gapN_rem (f : Nat) (s : ByteArray) (a : Nat) (h : ¬ s.size ≤ a) (hb : fiveQ ((s.data.toList.drop a).headD 0) = false) (hl : (s.data.toList.drop a).take 2 ≠ [45,45]) (hr : (s.data.toList.drop a).take 2 = [47,42]) :
  gapN (f + 1) s a = (match remAt s a with | none => (a,true) | some n => gapN f s n) := by
 rw [gapN,if_neg h,hb,if_neg (by simp),if_neg hl,if_pos hr]
 all_goals (cases remAt s a <;> rfl)
theorem gapN_stop (f : Nat) (s : ByteArray) (a : Nat) (h : ¬ s.size ≤ a) (hb : fiveQ ((s.data.toList.drop a).headD 0) = false) (hl : (s.data.toList.drop a).take 2 ≠ [45,45]) (hr : (s.data.toList.drop a).take 2 ≠ [47,42]) :
  gapN (f + 1) s a = (a,false) := by
 rw [gapN,if_neg h,hb,if_neg (by simp),if_neg hl,if_neg hr]
theorem scan_gap (s : ByteArray) (acc : List Tok) : ∀ (n f a : Nat),s.size - a ≤ n → n < f → a ≤ s.size →
  scanF s a acc = (if (gapN f s a).2 = true then ([],6,((gapN f s a).1 : Int)) else scanF s (gapN f s a).1 acc) ∧ a ≤ (gapN f s a).1 ∧ (gapN f s a).1 ≤ s.size ∧
   ((gapN f s a).2 = false → (gapN f s a).1 < s.size → Solid s (gapN f s a).1) := by
 intro n
 induction n with
 | zero =>
  intro f a hn hf ha
  obtain ⟨f,rfl⟩ : ∃ x,f = x + 1 := ⟨f - 1,by omega⟩
  rw [gapN_end f s a (by omega)]
  exact ⟨by simp,Nat.le_refl _,ha,fun _ h => by simp only at h; omega⟩
 | succ n ih =>
  intro f a hn hf ha
  obtain ⟨f,rfl⟩ : ∃ x,f = x + 1 := ⟨f - 1,by omega⟩
  by_cases h : s.size ≤ a
  ·rw [gapN_end f s a h]
   exact ⟨by simp,Nat.le_refl _,ha,fun _ h2 => by simp only at h2; omega⟩
  ·cases hb : fiveQ ((s.data.toList.drop a).headD 0) with
   | true =>
    rw [gapN_blank f s a h hb]
    obtain ⟨i1,i2,i3,i4⟩ := ih f (a + 1) (by omega) (by omega) (by omega)
    exact ⟨by rw [scan_blank s a acc (by omega) hb]; exact i1,by omega,i3,i4⟩
   | false =>
    by_cases hl : (s.data.toList.drop a).take 2 = [45,45]
    ·rw [gapN_line f s a h hb hl]
     have hg := lineEnd_gt s a hl
     obtain ⟨i1,i2,i3,i4⟩ := ih f (lineEnd s a) (by omega) (by omega) (lineEnd_le s a ha)
     exact ⟨by rw [scan_line s a acc (by omega) hb hl]; exact i1,by omega,i3,i4⟩
    ·by_cases hr : (s.data.toList.drop a).take 2 = [47,42]
     ·rw [gapN_rem f s a h hb hl hr]
      have hsr := scan_rem s a acc (by omega) hb hr
      cases hra : remAt s a with
      | none =>
       rw [hra] at hsr
       simp only at hsr ⊢
       exact ⟨by simpa using hsr,Nat.le_refl _,ha,fun h => by cases h⟩
      | some m =>
       rw [hra] at hsr
       simp only at hsr ⊢
       obtain ⟨m1,m2⟩ := remAt_le s a m hra hr
       obtain ⟨i1,i2,i3,i4⟩ := ih f m (by omega) (by omega) m2
       exact ⟨by rw [hsr]; exact i1,by omega,i3,i4⟩
     ·rw [gapN_stop f s a h hb hl hr]
      exact ⟨by simp,Nat.le_refl _,ha,fun _ _ => ⟨by omega,hb,hl,hr⟩⟩

def tok0 : Tok := (0,⟨#[]⟩,0)
def oneP (s : ByteArray) (a : Nat) : Tok × Nat × Int :=
 let c := (s.data.toList.drop a).headD 0
 if letB c = true then ((1,smallA (s.extract a (a + rowL wordB (s.data.toList.drop a))),(a : Int)),a + rowL wordB (s.data.toList.drop a),0)
 else if digB c = true then ((4,s.extract a (a + rowL numB (s.data.toList.drop a)),(a : Int)),a + rowL numB (s.data.toList.drop a),0)
 else if c = 34 then (match quoAt s a 34 with | none => (tok0,0,6) | some p => ((2,bb p.1,(a : Int)),p.2,0))
 else if c = 39 then (match quoAt s a 39 with | none => (tok0,0,6) | some p => ((3,bb p.1,(a : Int)),p.2,0))
 else if c = 36 then (if 0 < tagAt s a then (match dolAt s a (tagAt s a).toNat with | none => (tok0,0,6) | some p => ((3,bb p.1,(a : Int)),p.2,0))
  else if rowL digB (s.data.toList.drop (a + 1)) = 0 then (tok0,0,7) else ((5,s.extract a (a + 1 + rowL digB (s.data.toList.drop (a + 1))),(a : Int)),a + 1 + rowL digB (s.data.toList.drop (a + 1)),0))
 else if signI c < 0 then (tok0,0,7) else ((5,s.extract a (a + 1),(a : Int)),a + 1,0)
theorem head_at (s : ByteArray) (a : Nat) (h : a < s.size) : (s.data.toList.drop a).headD 0 = s[a] := by rw [byte_at s a h]; rfl
theorem tagAt_cases (s : ByteArray) (a : Nat) (h : a < s.size) : tagAt s a = -1 ∨ (a + 1 < (tagAt s a).toNat ∧ (tagAt s a).toNat ≤ s.size ∧ tagAt s a = ((tagAt s a).toNat : Int)) := by
 unfold tagAt
 split
 ·rename_i h1
  right
  have h2 := congrArg List.length h1
  rw [List.length_take,List.length_drop] at h2
  simp only [List.length_singleton] at h2
  have e : s.size = s.data.toList.length := rfl
  omega
 ·exact .inl rfl

abbrev rst (s : ByteArray) (a : Nat) : ByteArray := s.extract a s.size
theorem rst_ext (s : ByteArray) (a n : Nat) (h : a + n ≤ s.size) : (rst s a).extract 0 n = s.extract a (a + n) := by
 apply ByteArray.ext
 apply Array.ext'
 rw [ByteArray.data_extract,Array.toList_extract,List.extract_eq_take_drop,ext_list,ByteArray.data_extract,Array.toList_extract,List.extract_eq_take_drop]
 rw [List.drop_zero,Nat.sub_zero,show a + n - a = n by omega]
theorem row_pos (p : UInt8 → Bool) (s : ByteArray) (a : Nat) (h : a < s.size) (hp : p s[a] = true) : rowL p (s.data.toList.drop a) = rowL p (s.data.toList.drop (a + 1)) + 1 := by
 rw [byte_at s a h,rowL_cons,if_pos hp]
theorem row_zero (p : UInt8 → Bool) (s : ByteArray) (a : Nat) (h : a < s.size) (hp : p s[a] = false) : rowL p (s.data.toList.drop a) = 0 := by
 rw [byte_at s a h,rowL_cons,hp]; rfl
theorem let_word (c : UInt8) (h : letB c = true) : wordB c = true := by
 show wordN (c.toNat : Int) = true
 have : letN (c.toNat : Int) = true := h
 unfold wordN; rw [this]; rfl
theorem dig_num (c : UInt8) (h : digB c = true) : numB c = true := by
 show numN (c.toNat : Int) = true
 have : digN (c.toNat : Int) = true := h
 unfold numN; rw [this]; rfl
theorem r3_no (s : ByteArray) (a : Nat) (h : a < s.size) (hl : letB s[a] = false) : (rdP 3 (rst s a)).2.2 = 0 := by
 show (wordP (rst s a)).2.2 = 0
 unfold wordP
 rw [ext_list,if_pos (row_zero letB s a h hl)]; rfl
theorem r3_yes (s : ByteArray) (a : Nat) (h : a < s.size) (hl : letB s[a] = true) : rdP 3 (rst s a) = (1,smallA (s.extract a (a + rowL wordB (s.data.toList.drop a))),((rowL wordB (s.data.toList.drop a) : Nat) : Int)) := by
 show wordP (rst s a) = _
 unfold wordP
 rw [ext_list,if_neg (by rw [row_pos letB s a h hl]; omega),rst_ext s a _ (row_end s wordB a (by omega))]
theorem r45_no (q : UInt8) (k : Int) (s : ByteArray) (a : Nat) (h : a < s.size) (hc : s[a] ≠ q) : (quoP q k (rst s a)).2.2 = 0 := by
 unfold quoP
 rw [ext_list,byte_at s a h]
 simp only [hc,if_false]; rfl
theorem r45_yes (q : UInt8) (k : Int) (s : ByteArray) (a : Nat) (h : a < s.size) (hc : s[a] = q) : quoP q k (rst s a) = (match quoAt s a q with | none => (0,⟨#[]⟩,-1) | some p => (k,bb p.1,((p.2 - a : Nat) : Int))) := by
 unfold quoP
 rw [ext_list,byte_at s a h]
 simp only [hc,if_true]
 unfold quoAt
 cases betL q (s.data.toList.drop (a + 1)) with
 | none => rfl
 | some p =>
  show (k,bb p.1,((p.2 + 1 : Nat) : Int)) = (k,bb p.1,((p.2 + (a + 1) - a : Nat) : Int))
  rw [show p.2 + (a + 1) - a = p.2 + 1 by omega]
theorem dol_hp (s : ByteArray) (a : Nat) (h : a < s.size) : hpB (rst s a) dolT = decide (s[a] = 36) := by
 rw [hp_eq,ext_list,byte_at s a h]
 show (([36] : Tx).isPrefixOf (s[a] :: s.data.toList.drop (a + 1))) = _
 simp only [List.isPrefixOf,Bool.and_true]
 rw [Bool.eq_iff_iff,beq_iff_eq,decide_eq_true_iff]
 exact ⟨fun h => h.symm,fun h => h.symm⟩
theorem dol_rest (s : ByteArray) (a : Nat) (h : a < s.size) (hc : s[a] = 36) : (dolR (rst s a)).data.toList = s.data.toList.drop (a + 1) := by
 unfold dolR
 rw [dol_hp s a h,if_pos (decide_eq_true hc),ext_list,ext_list,List.drop_drop]
theorem r7_no (s : ByteArray) (a : Nat) (h : a < s.size) (hl : digB s[a] = false) : (rdP 7 (rst s a)).2.2 = 0 := by
 show (numP (rst s a)).2.2 = 0
 unfold numP
 rw [ext_list,if_pos (row_zero digB s a h hl)]; rfl
theorem r7_yes (s : ByteArray) (a : Nat) (h : a < s.size) (hl : digB s[a] = true) : rdP 7 (rst s a) = (4,s.extract a (a + rowL numB (s.data.toList.drop a)),((rowL numB (s.data.toList.drop a) : Nat) : Int)) := by
 show numP (rst s a) = _
 unfold numP
 rw [ext_list,if_neg (by rw [row_pos digB s a h hl]; omega),rst_ext s a _ (row_end s numB a (by omega))]
theorem r8_no (s : ByteArray) (a : Nat) (h : a < s.size) (hc : s[a] ≠ 36 ∨ rowL digB (s.data.toList.drop (a + 1)) = 0) : (rdP 8 (rst s a)).2.2 = 0 := by
 show (parP (rst s a)).2.2 = 0
 unfold parP
 rw [dol_hp s a h]
 by_cases h36 : s[a] = 36
 ·have hz : rowL digB (s.data.toList.drop (a + 1)) = 0 := hc.resolve_left (fun hh => hh h36)
  have : parN (rst s a) = 0 := by unfold parN; rw [dol_rest s a h h36]; exact hz
  rw [if_pos (.inr this)]; rfl
 ·rw [if_pos (.inl (decide_eq_false h36))]; rfl
theorem r8_yes (s : ByteArray) (a : Nat) (h : a < s.size) (hc : s[a] = 36) (hp : rowL digB (s.data.toList.drop (a + 1)) ≠ 0) : rdP 8 (rst s a) = (5,s.extract a (a + 1 + rowL digB (s.data.toList.drop (a + 1))),((1 + rowL digB (s.data.toList.drop (a + 1)) : Nat) : Int)) := by
 show parP (rst s a) = _
 unfold parP
 have e : parN (rst s a) = rowL digB (s.data.toList.drop (a + 1)) := by unfold parN; rw [dol_rest s a h hc]
 have hle := row_end s digB (a + 1) (by omega)
 rw [e,dol_hp s a h,decide_eq_true hc,if_neg (by rintro (h1 | h1); · cases h1
                                                 ·exact hp h1)]
 rw [rst_ext s a _ (by omega)]
 rw [show a + (rowL digB (s.data.toList.drop (a + 1)) + 1) = a + 1 + rowL digB (s.data.toList.drop (a + 1)) by omega,Nat.add_comm 1]
theorem r9_no (s : ByteArray) (a : Nat) (h : a < s.size) (hg : signI s[a] < 0) : (rdP 9 (rst s a)).2.2 = 0 := by
 show (signP (rst s a)).2.2 = 0
 unfold signP
 rw [ext_list,byte_at s a h]
 simp only [hg,if_true]; rfl
theorem r9_yes (s : ByteArray) (a : Nat) (h : a < s.size) (hg : ¬ signI s[a] < 0) : rdP 9 (rst s a) = (5,s.extract a (a + 1),1) := by
 show signP (rst s a) = _
 unfold signP
 rw [ext_list,byte_at s a h]
 simp only [hg,if_false]
 rw [rst_ext s a 1 (by omega)]
theorem cut_q (q : UInt8) (l : Tx) : (Lib.cut l [q]).1 = l.takeWhile (· != q) ∧ ((Lib.cut l [q]).2.2 = true ↔ q ∈ l) := by
 unfold Lib.cut
 induction l with
 | nil => rw [idx_nil _ (by simp)]; simp
 | cons c r ih =>
  rw [List.takeWhile_cons]
  by_cases h : c = q
  ·subst h
   have e : Lib.index (c :: r) [c] = 0 := by rw [idx_cons,if_pos]; simp
   rw [e]; simp
  ·have h1 : ¬ ([q] : Tx).isPrefixOf (c :: r) = true := by
    simp [List.isPrefixOf]; exact fun h2 => h h2.symm
   have h2 : (c != q) = true := by rw [bne_iff_ne]; exact h
   rw [idx_cons,if_neg h1,if_pos h2,← ih.1]
   have hge := Lib.index_ge r [q]
   by_cases h3 : Lib.index r [q] = -1
   ·rw [if_pos h3,if_neg (by omega),if_neg (by omega)]
    refine ⟨rfl,?_⟩
    have := ih.2
    rw [if_neg (by omega)] at this
    simp only [List.mem_cons]
    constructor
    ·intro hh; cases hh
    ·rintro (hh | hh)
     ·exact absurd hh.symm h
     ·exact this.2 hh
   ·rw [if_neg h3,if_pos (by omega),if_pos (by omega)]
    obtain ⟨n,hn⟩ : ∃ n : Nat,Lib.index r [q] = (n : Int) := ⟨(Lib.index r [q]).toNat,by omega⟩
    rw [hn]
    refine ⟨rfl,?_⟩
    have := ih.2
    rw [if_pos (by omega)] at this
    simp only [List.mem_cons]
    exact ⟨fun _ => .inr (this.1 rfl),fun _ => by first | rfl | trivial⟩

theorem dol_no_tag (c : UInt8) (h : tagB c = true) : c ≠ 36 := by
 intro h2; subst h2; exact absurd h (by decide)
theorem row_all (p : UInt8 → Bool) : ∀ (l : Tx),rowL p l = l.length → ∀ c ∈ l,p c = true := by
 intro l
 induction l with
 | nil => intro _ c hc; cases hc
 | cons x r ih =>
  intro h c hc
  rw [rowL_cons] at h
  by_cases hx : p x = true
  ·rw [if_pos hx] at h
   rcases List.mem_cons.1 hc with rfl | hc
   ·exact hx
   ·exact ih (by simpa using h) c hc
  ·rw [if_neg hx] at h; simp at h
theorem row_app (p : UInt8 → Bool) (x : Tx) (d : UInt8) (y : Tx) (h : ∀ c ∈ x,p c = true) (hd : p d = false) : rowL p (x ++ d :: y) = x.length := by
 induction x with
 | nil => rw [List.nil_append,rowL_cons,hd]; rfl
 | cons c r ih =>
  rw [List.cons_append,rowL_cons,if_pos (h c (by simp)),ih (fun c hc => h c (by simp [hc]))]
  rfl
theorem row_full (p : UInt8 → Bool) (x : Tx) (h : ∀ c ∈ x,p c = true) : rowL p x = x.length := by
 induction x with
 | nil => rfl
 | cons c r ih => rw [rowL_cons,if_pos (h c (by simp)),ih (fun c hc => h c (by simp [hc]))]; rfl
theorem row_take (p : UInt8 → Bool) (l : Tx) : ∀ c ∈ l.take (rowL p l),p c = true := by
 induction l with
 | nil => intro c hc; simp at hc
 | cons x r ih =>
  intro c hc
  rw [rowL_cons] at hc
  by_cases hx : p x = true
  ·rw [if_pos hx,List.take_succ_cons] at hc
   rcases List.mem_cons.1 hc with rfl | hc
   ·exact hx
   ·exact ih c hc
  ·rw [if_neg hx] at hc; simp at hc
theorem tw_app (x : Tx) (d : UInt8) (y : Tx) (h : ∀ c ∈ x,c ≠ d) : (x ++ d :: y).takeWhile (· != d) = x := by
 induction x with
 | nil => simp
 | cons c r ih =>
  have hc : (c != d) = true := by rw [bne_iff_ne]; exact h c (by simp)
  rw [List.cons_append,List.takeWhile_cons,if_pos hc,ih (fun c hc => h c (by simp [hc]))]
theorem tw_mem (d : UInt8) (l : Tx) (h : d ∈ l) : ∃ y,l = l.takeWhile (· != d) ++ d :: y := by
 induction l with
 | nil => cases h
 | cons c r ih =>
  by_cases hc : c = d
  ·subst hc; exact ⟨r,by simp⟩
  ·have h2 : (c != d) = true := by rw [bne_iff_ne]; exact hc
   obtain ⟨y,hy⟩ := ih ((List.mem_cons.1 h).resolve_left (fun e => hc e.symm))
   refine ⟨y,?_⟩
   rw [List.takeWhile_cons,if_pos h2,List.cons_append]
   congr 1
theorem tag_iff (M : Tx) : ((Lib.cut M [36]).2.2 && isTagL (Lib.cut M [36]).1) = decide ((M.drop (tagL M)).take 1 = [36]) ∧ ((M.drop (tagL M)).take 1 = [36] → (Lib.cut M [36]).1.length = tagL M) := by
 obtain ⟨hc1,hc2⟩ := cut_q 36 M
 have fwd : (Lib.cut M [36]).2.2 = true → isTagL (Lib.cut M [36]).1 = true → (M.drop (tagL M)).take 1 = [36] := by
  intro h1 h2
  obtain ⟨y,hy⟩ := tw_mem 36 M (hc2.1 h1)
  rw [hc1] at h2
  generalize M.takeWhile (· != 36) = U at *
  subst hy
  have ht : tagL (U ++ 36 :: y) = U.length := by
   unfold isTagL at h2
   cases U with
   | nil => rw [List.nil_append,tagL_cons,if_neg (by decide)]; rfl
   | cons c r =>
    simp only [List.isEmpty_cons,Bool.false_or,Bool.and_eq_true,decide_eq_true_iff] at h2
    obtain ⟨h3,h4⟩ := h2
    have hl : letB c = true := by
     rw [rowL_cons] at h3
     by_cases hx : letB c = true
     ·exact hx
     ·rw [if_neg hx] at h3; omega
    have ha := row_all tagB (c :: r) h4
    rw [List.cons_append,tagL_cons,if_pos hl,row_app tagB r 36 y (fun x hx => ha x (by simp [hx])) (by decide)]
    rfl
  rw [ht,List.drop_left]
  rfl
 have bwd : (M.drop (tagL M)).take 1 = [36] → (Lib.cut M [36]).2.2 = true ∧ isTagL (Lib.cut M [36]).1 = true ∧ (Lib.cut M [36]).1.length = tagL M := by
  intro h
  have hle := tagL_le M
  obtain ⟨y,hy⟩ : ∃ y,M.drop (tagL M) = 36 :: y := by
   cases hd : M.drop (tagL M) with
   | nil => rw [hd] at h; cases h
   | cons c r => rw [hd] at h; simp at h; subst h; exact ⟨r,rfl⟩
  have hM : M = M.take (tagL M) ++ 36 :: y := by rw [← hy,List.take_append_drop]
  have hall : ∀ c ∈ M.take (tagL M),tagB c = true := by
   intro c hc
   unfold tagL at hc
   split at hc
   ·simp at hc
   ·exact row_take tagB M c hc
  have hlen : (M.take (tagL M)).length = tagL M := by rw [List.length_take]; omega
  have hU : M.takeWhile (· != 36) = M.take (tagL M) := by
   have := tw_app (M.take (tagL M)) 36 y (fun c hc => dol_no_tag c (hall c hc))
   rw [← hM] at this
   exact this
  have hmem : (36 : UInt8) ∈ M := by rw [hM]; simp
  refine ⟨hc2.2 hmem,?_,by rw [hc1,hU,hlen]⟩
  rw [hc1,hU]
  unfold isTagL
  by_cases h0 : tagL M = 0
  ·rw [h0,List.take_zero]; rfl
  ·have hr : rowL letB M ≠ 0 := by
    intro hz; apply h0; unfold tagL; rw [if_pos hz]
   have hne : M ≠ [] := by rintro rfl; exact hr rfl
   obtain ⟨c,r,rfl⟩ : ∃ c r,M = c :: r := by
    cases M with
    | nil => exact absurd rfl hne
    | cons c r => exact ⟨c,r,rfl⟩
   have hl : letB c = true := by
    rw [rowL_cons] at hr
    by_cases hx : letB c = true
    ·exact hx
    ·rw [if_neg hx] at hr; exact absurd rfl hr
   obtain ⟨t,ht⟩ : ∃ t,tagL (c :: r) = t + 1 := ⟨tagL (c :: r) - 1,by omega⟩
   have hrf := row_full tagB _ hall
   rw [hrf]
   have h3 : 0 < rowL letB ((c :: r).take (tagL (c :: r))) := by
    rw [ht,List.take_succ_cons,rowL_cons,if_pos hl]; omega
   simp [h3]
 constructor
 ·rw [Bool.eq_iff_iff,Bool.and_eq_true,decide_eq_true_iff]
  exact ⟨fun h => fwd h.1 h.2,fun h => ⟨(bwd h).1,(bwd h).2.1⟩⟩
 ·exact fun h => (bwd h).2.2
theorem mark_eq (s : ByteArray) (a : Nat) (h : a < s.size) : markA (rst s a) = if s[a] = 36 ∧ 0 < tagAt s a then s.extract a (tagAt s a).toNat else ⟨#[]⟩ := by
 unfold markA
 rw [dol_hp s a h]
 by_cases hc : s[a] = 36
 ·have hcd : cutD (rst s a) = Lib.cut (s.data.toList.drop (a + 1)) [36] := by unfold cutD; rw [dol_rest s a h hc]
  obtain ⟨h1,h2⟩ := tag_iff (s.data.toList.drop (a + 1))
  rw [decide_eq_true hc,Bool.true_and,hcd,h1]
  have e : s.data.toList.drop (a + 1 + tagL (s.data.toList.drop (a + 1))) = (s.data.toList.drop (a + 1)).drop (tagL (s.data.toList.drop (a + 1))) := by rw [List.drop_drop]
  by_cases ht : ((s.data.toList.drop (a + 1)).drop (tagL (s.data.toList.drop (a + 1)))).take 1 = [36]
  ·have hta : tagAt s a = ((a + 1 + tagL (s.data.toList.drop (a + 1)) + 1 : Nat) : Int) := by unfold tagAt; rw [e,if_pos ht]
   have hlen : a + 1 + tagL (s.data.toList.drop (a + 1)) + 1 ≤ s.size := by
    have := congrArg List.length ht
    rw [List.length_take,List.length_drop,List.length_drop] at this
    simp only [List.length_singleton] at this
    have e2 : s.size = s.data.toList.length := rfl
    omega
   rw [decide_eq_true ht,if_pos rfl,if_pos ⟨hc,by rw [hta]; omega⟩,h2 ht,hta,Int.toNat_natCast,rst_ext s a _ (by omega)]
   rw [show a + (tagL (s.data.toList.drop (a + 1)) + 2) = a + 1 + tagL (s.data.toList.drop (a + 1)) + 1 by omega]
  ·have hta : tagAt s a = -1 := by unfold tagAt; rw [e,if_neg ht]
   rw [decide_eq_false ht,if_neg (by decide),if_neg (by rw [hta]; omega)]
 ·rw [decide_eq_false hc,if_neg (by simp),if_neg (fun hh => hc hh.1)]
theorem r6_no (s : ByteArray) (a : Nat) (h : a < s.size) (hc : s[a] ≠ 36 ∨ tagAt s a = -1) : (rdP 6 (rst s a)).2.2 = 0 := by
 show (dolP (rst s a)).2.2 = 0
 have hm := mark_eq s a h
 have hn : ¬ (s[a] = 36 ∧ 0 < tagAt s a) := by
  rintro ⟨h1,h2⟩
  rcases hc with hc | hc
  ·exact hc h1
  ·omega
 rw [if_neg hn] at hm
 unfold dolP
 rw [hm,if_pos (by rw [ByteArray.toList_eq]; rfl)]
 rfl
theorem r6_yes (s : ByteArray) (a : Nat) (h : a < s.size) (hc : s[a] = 36) (t : Nat) (ht : tagAt s a = (t : Int)) (hat : a < t) (hts : t ≤ s.size) :
  rdP 6 (rst s a) = (match dolAt s a t with | none => (0,⟨#[]⟩,-1) | some p => (3,bb p.1,((p.2 - a : Nat) : Int))) := by
 show dolP (rst s a) = _
 have hm := mark_eq s a h
 rw [if_pos ⟨hc,by omega⟩,ht,Int.toNat_natCast] at hm
 have hms : (markA (rst s a)).size = t - a := by rw [hm,ByteArray.size_extract]; omega
 have hcm : cutM (rst s a) = Lib.cut (s.data.toList.drop t) (s.extract a t).data.toList := by
  unfold cutM
  rw [hms,hm]
  congr 1
  have e : (rst s a).size = s.size - a := by rw [ByteArray.size_extract]; omega
  rw [e]
  have e2 : ((rst s a).extract (t - a) (s.size - a)) = (rst s a).extract (t - a) (rst s a).size := by rw [e]
  rw [e2,ext_list,ext_list,List.drop_drop]
  congr 1; omega
 unfold dolP
 have hne : ¬ ((markA (rst s a)).toList.isEmpty = true) := by
  rw [ByteArray.toList_eq]
  intro hh
  have : (markA (rst s a)).data.toList.length = 0 := by rw [List.isEmpty_iff.1 hh]; rfl
  have e : (markA (rst s a)).data.toList.length = (markA (rst s a)).size := rfl
  omega
 rw [if_neg hne,hcm,hms]
 unfold Lib.cut dolAt
 by_cases hi : 0 ≤ Lib.index (s.data.toList.drop t) (s.extract a t).data.toList
 ·rw [if_pos hi,if_pos hi,if_neg (by simp)]
  simp only
  obtain ⟨n,hn⟩ : ∃ n : Nat,Lib.index (s.data.toList.drop t) (s.extract a t).data.toList = (n : Int) := ⟨_,(Int.toNat_of_nonneg hi).symm⟩
  have hnl : n ≤ (s.data.toList.drop t).length := by
   rcases Lib.index_spec (s.data.toList.drop t) (s.extract a t).data.toList with ⟨h1,_⟩ | ⟨i,h1,h2,_⟩
   ·rw [hn] at h1; omega
   ·rw [hn] at h1; have : n = i := by omega
    rw [this]; exact h2
  rw [hn,Int.toNat_natCast]
  have hx : (bb ((s.data.toList.drop t).take n)).size = n := by rw [bb_size,List.length_take]; omega
  have hz : ((t - a : Nat) : Int) + (((bb ((s.data.toList.drop t).take n)).size : Nat) : Int) + ((t - a : Nat) : Int) = ((t + n + (t - a) - a : Nat) : Int) := by rw [hx]; omega
  exact congrArg (fun z => ((3 : Int),bb ((s.data.toList.drop t).take n),z)) hz
 ·rw [if_neg hi,if_neg hi,if_pos rfl]

def GoesOn (s : ByteArray) (a : Nat) (acc : List Tok) (r : Tok × Nat × Int) : Prop :=
 scanF s a acc = (if r.2.2 = 0 then scanF s r.2.1 (acc ++ [r.1]) else ([],r.2.2,(a : Int))) ∧ (r.2.2 = 0 → a < r.2.1 ∧ r.2.1 ≤ s.size)
theorem ok_of (s : ByteArray) (a : Nat) (acc : List Tok) (h : a < s.size) (k : Int) (t : ByteArray) (b n : Nat) (hn : a + n = b) (hk : k ≠ 0) (hf : findR 10 (rst s a) = some (k,t,(n : Int))) : GoesOn s a acc ((k,t,(a : Int)),b,0) := by
 have hsz := find_sized 10 (Nat.le_refl _) _ (by rw [ByteArray.size_extract]; omega) _ hf
 rw [ByteArray.size_extract] at hsz
 simp only at hsz
 have := scanF_step s a acc h k t n (by omega) hf
 rw [if_neg hk,hn] at this
 exact ⟨by rw [if_pos rfl]; exact this,fun _ => ⟨by simp only; omega,by simp only; omega⟩⟩
theorem bad_of (s : ByteArray) (a : Nat) (acc : List Tok) (h : a < s.size) (k : Int) (t : ByteArray) (hf : findR 10 (rst s a) = some (k,t,-1)) : GoesOn s a acc (tok0,0,6) :=
 ⟨by rw [if_neg (by decide)]; exact scanF_bad s a acc h _ hf rfl,fun h => absurd h (by decide)⟩
theorem none_of (s : ByteArray) (a : Nat) (acc : List Tok) (h : a < s.size) (hf : findR 10 (rst s a) = none) : GoesOn s a acc (tok0,0,7) :=
 ⟨by rw [if_neg (by decide)]; exact scanF_none s a acc h hf,fun h => absurd h (by decide)⟩
theorem below3 {P : Nat → Prop} (h0 : P 0) (h1 : P 1) (h2 : P 2) : ∀ j,j < 3 → P j := by
 intro j hj
 have : j = 0 ∨ j = 1 ∨ j = 2 := by omega
 rcases this with rfl | rfl | rfl
 ·exact h0
 ·exact h1
 ·exact h2
theorem upto_succ {P : Nat → Prop} {n : Nat} (h : ∀ j,j < n → P j) (hn : P n) : ∀ j,j < n + 1 → P j := by
 intro j hj
 by_cases e : j = n
 ·subst e; exact hn
 ·exact h j (by omega)
theorem dig_not (c : UInt8) (h : digB c = true) : c ≠ 34 ∧ c ≠ 39 ∧ c ≠ 36 := by
 refine ⟨?_,?_,?_⟩ <;> (rintro rfl; exact absurd h (by decide))
theorem scan_one (s : ByteArray) (a : Nat) (acc : List Tok) (hS : Solid s a) : GoesOn s a acc (oneP s a) := by
 have h := hS.lt
 have hh := head_at s a h
 have hb := hS.blank
 rw [hh] at hb
 have z0' : (rdP 0 (rst s a)).2.2 = 0 := by
  rw [z0,five_row s a h,hh,hb]; rfl
 have z3 := below3 (P := fun j => (rdP j (rst s a)).2.2 = 0) z0' (z1_no s a hS.line) (z2_no s a hS.rem)
 unfold oneP
 simp only [hh]
 by_cases hl : letB s[a] = true
 ·rw [if_pos hl]
  have e := r3_yes s a h hl
  have hf := find_first 3 (by omega) (rst s a) z3 (by rw [e]; have := row_pos wordB s a h (let_word _ hl); show ((rowL wordB (s.data.toList.drop a) : Nat) : Int) ≠ 0; omega)
  rw [e] at hf
  exact ok_of s a acc h 1 _ _ _ rfl (by decide) hf
 ·have hl2 : letB s[a] = false := by simpa using hl
  rw [if_neg hl]
  have z4 := upto_succ z3 (r3_no s a h hl2)
  by_cases hd : digB s[a] = true
  ·rw [if_pos hd]
   obtain ⟨n1,n2,n3⟩ := dig_not _ hd
   have z7 := upto_succ (upto_succ (upto_succ z4 (r45_no 34 2 s a h n1)) (r45_no 39 3 s a h n2)) (r6_no s a h (.inl n3))
   have e := r7_yes s a h hd
   have hf := find_first 7 (by omega) (rst s a) z7 (by rw [e]; have := row_pos numB s a h (dig_num _ hd); show ((rowL numB (s.data.toList.drop a) : Nat) : Int) ≠ 0; omega)
   rw [e] at hf
   exact ok_of s a acc h 4 _ _ _ rfl (by decide) hf
  ·have hd2 : digB s[a] = false := by simpa using hd
   rw [if_neg hd]
   by_cases h34 : s[a] = 34
   ·rw [if_pos h34]
    have e : rdP 4 (rst s a) = _ := r45_yes 34 2 s a h h34
    cases hq : quoAt s a 34 with
    | none =>
     rw [hq] at e
     have hf := find_first 4 (by omega) (rst s a) z4 (by rw [e]; show (-1 : Int) ≠ 0; decide)
     rw [e] at hf
     exact bad_of s a acc h _ _ hf
    | some p =>
     rw [hq] at e
     have hp : a < p.2 := by
      unfold quoAt at hq
      obtain ⟨r,_,rfl⟩ := Option.map_eq_some_iff.1 hq
      simp only; omega
     have hf := find_first 4 (by omega) (rst s a) z4 (by rw [e]; show ((p.2 - a : Nat) : Int) ≠ 0; omega)
     rw [e] at hf
     exact ok_of s a acc h 2 _ _ _ (by omega) (by decide) hf
   ·rw [if_neg h34]
    have z5 := upto_succ z4 (r45_no 34 2 s a h h34)
    by_cases h39 : s[a] = 39
    ·rw [if_pos h39]
     have e : rdP 5 (rst s a) = _ := r45_yes 39 3 s a h h39
     cases hq : quoAt s a 39 with
     | none =>
      rw [hq] at e
      have hf := find_first 5 (by omega) (rst s a) z5 (by rw [e]; show (-1 : Int) ≠ 0; decide)
      rw [e] at hf
      exact bad_of s a acc h _ _ hf
     | some p =>
      rw [hq] at e
      have hp : a < p.2 := by
       unfold quoAt at hq
       obtain ⟨r,_,rfl⟩ := Option.map_eq_some_iff.1 hq
       simp only; omega
      have hf := find_first 5 (by omega) (rst s a) z5 (by rw [e]; show ((p.2 - a : Nat) : Int) ≠ 0; omega)
      rw [e] at hf
      exact ok_of s a acc h 3 _ _ _ (by omega) (by decide) hf
    ·rw [if_neg h39]
     have z6 := upto_succ z5 (r45_no 39 3 s a h h39)
     by_cases h36 : s[a] = 36
     ·rw [if_pos h36]
      rcases tagAt_cases s a h with ht | ⟨t1,t2,t3⟩
      ·rw [if_neg (by omega)]
       have z8 := upto_succ (upto_succ z6 (r6_no s a h (.inr ht))) (r7_no s a h hd2)
       by_cases hp : rowL digB (s.data.toList.drop (a + 1)) = 0
       ·rw [if_pos hp]
        have z10 := upto_succ (upto_succ z8 (r8_no s a h (.inr hp))) (r9_no s a h (by rw [h36]; decide))
        exact none_of s a acc h (find_none _ z10)
       ·rw [if_neg hp]
        have e := r8_yes s a h h36 hp
        have hf := find_first 8 (by omega) (rst s a) z8 (by rw [e]; show ((1 + rowL digB (s.data.toList.drop (a + 1)) : Nat) : Int) ≠ 0; omega)
        rw [e] at hf
        exact ok_of s a acc h 5 _ _ _ (by omega) (by decide) hf
      ·rw [if_pos (by omega)]
       have e := r6_yes s a h h36 _ t3 (by omega) t2
       cases hq : dolAt s a (tagAt s a).toNat with
       | none =>
        rw [hq] at e
        have hf := find_first 6 (by omega) (rst s a) z6 (by rw [e]; show (-1 : Int) ≠ 0; decide)
        rw [e] at hf
        exact bad_of s a acc h _ _ hf
       | some p =>
        rw [hq] at e
        have hp : a < p.2 := by
         unfold dolAt at hq
         split at hq
         ·cases hq; simp only; omega
         ·cases hq
        have hf := find_first 6 (by omega) (rst s a) z6 (by rw [e]; show ((p.2 - a : Nat) : Int) ≠ 0; omega)
        rw [e] at hf
        exact ok_of s a acc h 3 _ _ _ (by omega) (by decide) hf
     ·rw [if_neg h36]
      have z9 := upto_succ (upto_succ (upto_succ z6 (r6_no s a h (.inl h36))) (r7_no s a h hd2)) (r8_no s a h (.inl h36))
      by_cases hg : signI s[a] < 0
      ·rw [if_pos hg]
       exact none_of s a acc h (find_none _ (upto_succ z9 (r9_no s a h hg)))
      ·rw [if_neg hg]
       have e := r9_yes s a h hg
       have hf := find_first 9 (by omega) (rst s a) z9 (by rw [e]; show (1 : Int) ≠ 0; decide)
       rw [e] at hf
       exact ok_of s a acc h 5 _ _ 1 rfl (by decide) hf
end Go.Proofs.YtjmmninopagpjaaGreatDoor
