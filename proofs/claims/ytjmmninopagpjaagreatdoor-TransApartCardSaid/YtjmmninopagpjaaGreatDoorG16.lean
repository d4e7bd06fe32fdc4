/- Lzr Lzs Lzt Nma Nmp Nmb Nmc Nmd Nme Nmf -/
import Derived.Test.YtjmmninopagpjaaGreatDoorG15
import Derived.WalkMore
import Derived.BigQuiet
import Derived.RegionTactic
import Derived.Lib.SliceRun
import Derived.Test.YtjmmninopagpjaaGreatDoorG1
set_option linter.unusedSimpArgs false
set_option linter.unusedVariables false
namespace Go.Proofs.YtjmmninopagpjaaGreatDoor
open Go.ChangeShapes Go.WideShapes Go.ChangeAt Go.RowKit
set_option maxRecDepth 100000
set_option linter.unusedVariables false
set_option linter.unusedSimpArgs false

theorem scan_ind (s : ByteArray) (P : Nat → List Tok → (List Tok × Int × Int) → Prop)
  (hend : ∀ a acc,s.size ≤ a → P a acc (acc,0,0))
  (hgap : ∀ a b acc r,a ≤ b → b ≤ s.size → P b acc r → P a acc r)
  (hbad : ∀ (a : Nat) acc (e : Int),a ≤ s.size → e ≠ 0 → P a acc ([],e,(a : Int)))
  (htok : ∀ a acc r,Solid s a → (oneP s a).2.2 = 0 → a < (oneP s a).2.1 → (oneP s a).2.1 ≤ s.size → P (oneP s a).2.1 (acc ++ [(oneP s a).1]) r → P a acc r) :
  ∀ a acc,a ≤ s.size → P a acc (scanF s a acc) := by
 have key : ∀ n a acc,s.size - a ≤ n → a ≤ s.size → P a acc (scanF s a acc) := by
  intro n
  induction n with
  | zero =>
   intro a acc hn ha
   rw [scanF_end s a acc (by omega)]
   exact hend a acc (by omega)
  | succ n ih =>
   intro a acc hn ha
   obtain ⟨g1,g2,g3,g4⟩ := scan_gap s acc (s.size - a) (s.size + 1) a (Nat.le_refl _) (by omega) ha
   rw [g1]
   refine hgap a _ acc _ g2 g3 ?_
   cases hb : (gapN (s.size + 1) s a).2 with
   | true => rw [if_pos rfl]; exact hbad _ acc 6 g3 (by decide)
   | false =>
    rw [if_neg (by decide)]
    by_cases hlt : (gapN (s.size + 1) s a).1 < s.size
    ·have hS := g4 hb hlt
     obtain ⟨o1,o2⟩ := scan_one s _ acc hS
     rw [o1]
     by_cases he : (oneP s (gapN (s.size + 1) s a).1).2.2 = 0
     ·rw [if_pos he]
      obtain ⟨o3,o4⟩ := o2 he
      exact htok _ acc _ hS he o3 o4 (ih _ _ (by omega) o4)
     ·rw [if_neg he]; exact hbad _ acc _ g3 he
    ·rw [scanF_end s _ acc (by omega)]
     exact hend _ acc (by omega)
 exact fun a acc ha => key (s.size - a) a acc (Nat.le_refl _) ha
theorem betL_txt (q : UInt8) (l : Tx) : ∀ p,betL q l = some p → p.1.length ≤ p.2 := by
 intro p
 induction hn : l.length using Nat.strongRecOn generalizing l p with
 | _ n ih =>
  intro h
  cases l with
  | nil => cases h
  | cons c r =>
   rw [betL_cons] at h
   split at h
   ·cases r with
    | nil => simp at h; subst h; simp
    | cons d r2 =>
     simp only at h
     split at h
     ·rw [Option.map_eq_some_iff] at h
      obtain ⟨k,hk,rfl⟩ := h
      have := ih r2.length (by simp at hn; omega) r2 k rfl hk
      simp; omega
     ·simp at h; subst h; simp
   ·rw [Option.map_eq_some_iff] at h
    obtain ⟨k,hk,rfl⟩ := h
    have := ih r.length (by simp at hn; omega) r k rfl hk
    simp; omega
theorem ext_size_le (s : ByteArray) (a b : Nat) : (s.extract a b).size ≤ s.size := by rw [ByteArray.size_extract]; omega
theorem small_size (s : ByteArray) : (smallA s).size = s.size := by
 unfold smallA
 show (s.data.toList.map lowB).toArray.size = _
 rw [List.size_toArray,List.length_map]; rfl
theorem quo_txt (s : ByteArray) (a : Nat) (q : UInt8) (p : Tx × Nat) (h : quoAt s a q = some p) : (bb p.1).size ≤ s.size := by
 unfold quoAt at h
 obtain ⟨r,hr,rfl⟩ := Option.map_eq_some_iff.1 h
 have h1 := betL_txt q _ r hr
 have h2 := betL_le q _ r hr
 rw [List.length_drop] at h2
 rw [bb_size]
 have e : s.size = s.data.toList.length := rfl
 simp only; omega
theorem one_txt (s : ByteArray) (a : Nat) : (oneP s a).1.2.1.size ≤ s.size := by
 unfold oneP
 simp only
 have h0 : (⟨#[]⟩ : ByteArray).size ≤ s.size := Nat.zero_le _
 split
 ·simp only; rw [small_size]; exact ext_size_le _ _ _
 ·split
  ·exact ext_size_le _ _ _
  ·split
   ·cases hq : quoAt s a 34 with
    | none => exact h0
    | some p => exact quo_txt s a 34 p hq
   ·split
    ·cases hq : quoAt s a 39 with
     | none => exact h0
     | some p => exact quo_txt s a 39 p hq
    ·split
     ·split
      ·cases hq : dolAt s a (tagAt s a).toNat with
       | none => exact h0
       | some p =>
        unfold dolAt at hq
        split at hq
        ·cases hq
         simp only
         rw [bb_size,List.length_take,List.length_drop]
         have e : s.size = s.data.toList.length := rfl
         omega
        ·cases hq
      ·split
       ·exact h0
       ·exact ext_size_le _ _ _
     ·split
      ·exact h0
      ·exact ext_size_le _ _ _
theorem scan_txt (s : ByteArray) (a : Nat) (acc : List Tok) (ha : a ≤ s.size) (h : ∀ t ∈ acc,t.2.1.size ≤ s.size) : ∀ t ∈ (scanF s a acc).1,t.2.1.size ≤ s.size :=
 scan_ind s (fun a acc r => (∀ t ∈ acc,t.2.1.size ≤ s.size) → ∀ t ∈ r.1,t.2.1.size ≤ s.size) (fun a acc h h2 => h2) (fun a b acc r h1 h2 h3 => h3) (fun a acc e h1 h2 h3 t ht => by cases ht)
  (fun a acc r hS he h1 h2 h3 h4 => h3 fun t ht => by
   rcases List.mem_append.1 ht with ht | ht
   ·exact h4 t ht
   ·simp at ht; subst ht; exact one_txt s a) a acc ha h
theorem scanA_txt (s : ByteArray) : ∀ t ∈ (scanA s).1,t.2.1.size ≤ 2000 := by
 by_cases h : 2000 < s.size
 ·have e : scanA s = ([],2,2000) := if_pos h
  rw [e]; intro t ht; cases ht
 ·rw [scanA_F s (by omega)]
  intro t ht
  have := scan_txt s 0 [] (Nat.zero_le _) (fun t ht => by cases ht) t ht
  omega

def Gap (l : Tx) : Prop := l = [] ∨ ∃ r,l = 32 :: r
def Good (k : Int) (t : ByteArray) : Prop := ∀ (x : ByteArray) (a : Nat) (rest : Tx) (p : Int),x.data.toList.drop a = shownL (k,t,p) ++ rest → Gap rest → Solid x a ∧ oneP x a = ((k,t,(a : Int)),a + (shownL (k,t,p)).length,0)
theorem row_gap (p : UInt8 → Bool) (l rest : Tx) (hp : ∀ c ∈ l,p c = true) (h32 : p 32 = false) (hg : Gap rest) : rowL p (l ++ rest) = l.length := by
 rcases hg with rfl | ⟨r,rfl⟩
 ·rw [List.append_nil]; exact row_full p l hp
 ·exact row_app p l 32 r hp h32
theorem head_lt (x : ByteArray) (a : Nat) (c : UInt8) (r : Tx) (h : x.data.toList.drop a = c :: r) : a < x.size ∧ (x.data.toList.drop a).headD 0 = c ∧ x.data.toList.drop (a + 1) = r := by
 have h1 := congrArg List.length h
 rw [List.length_drop,List.length_cons] at h1
 refine ⟨by have e : x.size = x.data.toList.length := rfl
            omega,by rw [h]; rfl,?_⟩
 rw [← List.drop_drop,h]; rfl
theorem ext_at (x : ByteArray) (a n : Nat) (l rest : Tx) (h : x.data.toList.drop a = l ++ rest) (hn : n = l.length) : x.extract a (a + n) = bb l := by
 apply ByteArray.ext
 apply Array.ext'
 rw [ByteArray.data_extract,Array.toList_extract,List.extract_eq_take_drop,h,show a + n - a = n by omega,hn]
 simp
def five_bytesT (c : UInt8) : Bool := !(fiveQ c) || (!(wordB c) && !(numB c) && decide (signI c < 0) && (c != 34) && (c != 39) && (c != 36) && (c != 45) && (c != 47))
theorem five_bytes : ((List.range 256).all fun n => five_bytesT (UInt8.ofNat n)) = true := by kernel_rfl
theorem byte_all {f : UInt8 → Bool} (h : ((List.range 256).all fun n => f (UInt8.ofNat n)) = true) (c : UInt8) : f c = true := by
 have := List.all_eq_true.1 h c.toNat (List.mem_range.2 c.toNat_lt)
 simpa using this
theorem not_five (c : UInt8) (h : wordB c = true ∨ numB c = true ∨ 0 ≤ signI c ∨ c = 34 ∨ c = 39 ∨ c = 36) : fiveQ c = false := by
 have h0 := byte_all (f := five_bytesT) five_bytes c
 unfold five_bytesT at h0
 cases hf : fiveQ c with
 | false => rfl
 | true =>
  rw [hf] at h0
  simp only [Bool.not_true,Bool.false_or,Bool.and_eq_true,Bool.not_eq_true',decide_eq_true_iff,bne_iff_ne] at h0
  obtain ⟨⟨⟨⟨⟨⟨⟨h1,h2⟩,h3⟩,h4⟩,h5⟩,h6⟩,h7⟩,h8⟩ := h0
  rcases h with h | h | h | h | h | h
  ·rw [h1] at h; cases h
  ·rw [h2] at h; cases h
  ·omega
  ·exact absurd h h4
  ·exact absurd h h5
  ·exact absurd h h6
theorem solid_of (x : ByteArray) (a : Nat) (c : UInt8) (r : Tx) (h : x.data.toList.drop a = c :: r) (hc : fiveQ c = false) (h45 : c ≠ 45 ∨ r.take 1 ≠ [45]) (h47 : c ≠ 47 ∨ r.take 1 ≠ [42]) : Solid x a := by
 obtain ⟨h1,h2,h3⟩ := head_lt x a c r h
 refine ⟨h1,by rw [h2]; exact hc,?_,?_⟩
 ·rw [h,List.take_succ_cons]
  intro hh
  injection hh with h4 h5
  rcases h45 with h6 | h6
  ·exact h6 h4
  ·exact h6 h5
 ·rw [h,List.take_succ_cons]
  intro hh
  injection hh with h4 h5
  rcases h47 with h6 | h6
  ·exact h6 h4
  ·exact h6 h5
def word_bytesT (c : UInt8) : Bool := !(wordB c) || ((c != 45) && (c != 47))
theorem word_bytes : ((List.range 256).all fun n => word_bytesT (UInt8.ofNat n)) = true := by kernel_rfl
def num_bytesT (c : UInt8) : Bool := !(numB c) || ((c != 45) && (c != 47))
theorem num_bytes : ((List.range 256).all fun n => num_bytesT (UInt8.ofNat n)) = true := by kernel_rfl
def low_bytesT (c : UInt8) : Bool := (lowB (lowB c) == lowB c) && (wordB (lowB c) == wordB c) && (letB (lowB c) == letB c)
theorem low_bytes : ((List.range 256).all fun n => low_bytesT (UInt8.ofNat n)) = true := by kernel_rfl
theorem low_facts (c : UInt8) : lowB (lowB c) = lowB c ∧ wordB (lowB c) = wordB c ∧ letB (lowB c) = letB c := by
 have h0 := byte_all (f := low_bytesT) low_bytes c
 unfold low_bytesT at h0
 simp only [Bool.and_eq_true,beq_iff_eq] at h0
 exact ⟨h0.1.1,h0.1.2,h0.2⟩
def dl_bytesT (c : UInt8) : Bool := !(digB c) || !(letB c)
theorem dl_bytes : ((List.range 256).all fun n => dl_bytesT (UInt8.ofNat n)) = true := by kernel_rfl
theorem dig_let (c : UInt8) (h : digB c = true) : letB c = false := by
 have := byte_all (f := dl_bytesT) dl_bytes c
 unfold dl_bytesT at this
 rw [h] at this
 simpa using this
theorem good_word (l : Tx) (c : UInt8) (r : Tx) (hl : l = c :: r) (hc : letB c = true) (ha : ∀ d ∈ l,wordB d = true) (hlow : ∀ d ∈ l,lowB d = d) : Good 1 (bb l) := by
 intro x a rest p hd hg
 have hsh : shownL (1,bb l,p) = l := rfl
 rw [hsh] at hd ⊢
 have hd2 := hd
 rw [hl,List.cons_append] at hd2
 obtain ⟨h1,h2,h3⟩ := head_lt x a c _ hd2
 have hw : wordB c = true := ha c (by rw [hl]; simp)
 have hb := byte_all (f := word_bytesT) word_bytes c
 unfold word_bytesT at hb
 rw [hw] at hb
 simp only [Bool.not_true,Bool.false_or,Bool.and_eq_true,bne_iff_ne] at hb
 refine ⟨solid_of x a c _ hd2 (not_five c (.inl hw)) (.inl hb.1) (.inl hb.2),?_⟩
 unfold oneP
 simp only [h2]
 rw [if_pos hc,hd,row_gap wordB l rest ha (by decide) hg,ext_at x a l.length l rest hd rfl]
 have : smallA (bb l) = bb l := by
  unfold smallA
  have hm : l.map lowB = l := by
   conv => rhs; rw [← List.map_id l]
   exact List.map_congr_left fun d hd => hlow d hd
  show bb (l.map lowB) = bb l
  rw [hm]
 rw [this]
theorem good_num (l : Tx) (c : UInt8) (r : Tx) (hl : l = c :: r) (hc : digB c = true) (ha : ∀ d ∈ l,numB d = true) : Good 4 (bb l) := by
 intro x a rest p hd hg
 have hsh : shownL (4,bb l,p) = l := rfl
 rw [hsh] at hd ⊢
 have hd2 := hd
 rw [hl,List.cons_append] at hd2
 obtain ⟨h1,h2,h3⟩ := head_lt x a c _ hd2
 have hw : numB c = true := ha c (by rw [hl]; simp)
 have hb := byte_all (f := num_bytesT) num_bytes c
 unfold num_bytesT at hb
 rw [hw] at hb
 simp only [Bool.not_true,Bool.false_or,Bool.and_eq_true,bne_iff_ne] at hb
 refine ⟨solid_of x a c _ hd2 (not_five c (.inr (.inl hw))) (.inl hb.1) (.inl hb.2),?_⟩
 unfold oneP
 simp only [h2]
 rw [if_neg (by rw [dig_let c hc]; decide),if_pos hc,hd,row_gap numB l rest ha (by decide) hg,ext_at x a l.length l rest hd rfl]
theorem bet_dbl (q : UInt8) (l rest : Tx) (hr : ∀ r,rest ≠ q :: r) : betL q (dblL q l ++ q :: rest) = some (l,(dblL q l).length + 1) := by
 induction l with
 | nil =>
  show betL q (q :: rest) = _
  rw [betL_cons,if_pos rfl]
  cases rest with
  | nil => rfl
  | cons d r =>
   have : d ≠ q := fun h => hr r (by rw [h])
   simp only [this,if_false]; rfl
 | cons c r ih =>
  have e : dblL q (c :: r) = (if c = q then [q,q] else [c]) ++ dblL q r := by simp [dblL]
  rw [e]
  by_cases hc : c = q
  ·subst hc
   rw [if_pos rfl]
   show betL c (c :: c :: (dblL c r ++ c :: rest)) = _
   rw [betL_cons,if_pos rfl]
   simp only [if_true]
   rw [ih]
   simp
  ·rw [if_neg hc]
   show betL q (c :: (dblL q r ++ q :: rest)) = _
   rw [betL_cons,if_neg hc,ih]
   simp
theorem quo_gap (q : UInt8) (hq : q ≠ 32) (t : ByteArray) (x : ByteArray) (a : Nat) (rest : Tx) (hd : x.data.toList.drop a = quoL q t.data.toList ++ rest) (hg : Gap rest) : quoAt x a q = some (t.data.toList,a + (quoL q t.data.toList).length) := by
 have hd2 : x.data.toList.drop a = q :: (dblL q t.data.toList ++ q :: rest) := by rw [hd]; simp [quoL]
 obtain ⟨h1,h2,h3⟩ := head_lt x a q _ hd2
 unfold quoAt
 rw [h3,bet_dbl q _ rest]
 ·simp [quoL]; omega
 ·intro r hr
  rcases hg with rfl | ⟨r2,rfl⟩
  ·cases hr
  ·injection hr with h4; exact hq h4.symm
theorem good_str (t : ByteArray) : Good 3 t := by
 intro x a rest p hd hg
 have hsh : shownL (3,t,p) = quoL 39 t.data.toList := rfl
 rw [hsh] at hd ⊢
 have hd2 : x.data.toList.drop a = 39 :: (dblL 39 t.data.toList ++ 39 :: rest) := by rw [hd]; simp [quoL]
 obtain ⟨h1,h2,h3⟩ := head_lt x a 39 _ hd2
 refine ⟨solid_of x a 39 _ hd2 (by decide) (.inl (by decide)) (.inl (by decide)),?_⟩
 unfold oneP
 simp only [h2]
 rw [if_neg (by decide),if_neg (by decide),if_neg (by decide),if_pos trivial,quo_gap 39 (by decide) t x a rest hd hg]
theorem good_quoted (t : ByteArray) : Good 2 t := by
 intro x a rest p hd hg
 have hsh : shownL (2,t,p) = quoL 34 t.data.toList := rfl
 rw [hsh] at hd ⊢
 have hd2 : x.data.toList.drop a = 34 :: (dblL 34 t.data.toList ++ 34 :: rest) := by rw [hd]; simp [quoL]
 obtain ⟨h1,h2,h3⟩ := head_lt x a 34 _ hd2
 refine ⟨solid_of x a 34 _ hd2 (by decide) (.inl (by decide)) (.inl (by decide)),?_⟩
 unfold oneP
 simp only [h2]
 rw [if_neg (by decide),if_neg (by decide),if_pos trivial,quo_gap 34 (by decide) t x a rest hd hg]
def sign_bytesT (c : UInt8) : Bool := decide (signI c < 0) || (!(letB c) && !(digB c) && (c != 34) && (c != 39) && (c != 36))
theorem sign_bytes : ((List.range 256).all fun n => sign_bytesT (UInt8.ofNat n)) = true := by kernel_rfl
theorem gap_take (rest : Tx) (hg : Gap rest) (c : UInt8) (hc : c ≠ 32) : rest.take 1 ≠ [c] := by
 rcases hg with rfl | ⟨r,rfl⟩
 ·simp
 ·simp; exact fun h => hc h.symm
theorem good_sign (c : UInt8) (hc : 0 ≤ signI c) : Good 5 (bb [c]) := by
 intro x a rest p hd hg
 have hsh : shownL (5,bb [c],p) = [c] := rfl
 rw [hsh] at hd ⊢
 have hd2 : x.data.toList.drop a = c :: rest := hd
 obtain ⟨h1,h2,h3⟩ := head_lt x a c _ hd2
 refine ⟨solid_of x a c _ hd2 (not_five c (.inr (.inr (.inl hc)))) (.inr (gap_take rest hg 45 (by decide))) (.inr (gap_take rest hg 42 (by decide))),?_⟩
 have hb := byte_all (f := sign_bytesT) sign_bytes c
 unfold sign_bytesT at hb
 have hn : ¬ signI c < 0 := by omega
 rw [decide_eq_false hn] at hb
 simp only [Bool.false_or,Bool.and_eq_true,Bool.not_eq_true',bne_iff_ne] at hb
 obtain ⟨⟨⟨⟨b1,b2⟩,b3⟩,b4⟩,b5⟩ := hb
 unfold oneP
 simp only [h2]
 rw [if_neg (by rw [b1]; decide),if_neg (by rw [b2]; decide),if_neg b3,if_neg b4,if_neg b5,if_neg hn,ext_at x a 1 [c] rest hd rfl]
 rfl
theorem good_param (l : Tx) (hne : l ≠ []) (ha : ∀ d ∈ l,digB d = true) : Good 5 (bb (36 :: l)) := by
 intro x a rest p hd hg
 have hsh : shownL (5,bb (36 :: l),p) = 36 :: l := rfl
 rw [hsh] at hd ⊢
 have hd2 : x.data.toList.drop a = 36 :: (l ++ rest) := hd
 obtain ⟨h1,h2,h3⟩ := head_lt x a 36 _ hd2
 refine ⟨solid_of x a 36 _ hd2 (by decide) (.inl (by decide)) (.inl (by decide)),?_⟩
 obtain ⟨d,r,rfl⟩ : ∃ d r,l = d :: r := by
  cases l with
  | nil => exact absurd rfl hne
  | cons d r => exact ⟨d,r,rfl⟩
 have hdd := ha d (by simp)
 have htl : tagL (x.data.toList.drop (a + 1)) = 0 := by rw [h3,List.cons_append,tagL_cons,if_neg (by rw [dig_let d hdd]; decide)]
 have hta : tagAt x a = -1 := by
  unfold tagAt
  rw [htl,Nat.add_zero,h3,if_neg]
  rw [List.cons_append,List.take_succ_cons]
  intro hh
  injection hh with h4
  subst h4
  exact absurd hdd (by decide)
 have hrow : rowL digB (x.data.toList.drop (a + 1)) = (d :: r).length := by rw [h3]; exact row_gap digB (d :: r) rest ha (by decide) hg
 unfold oneP
 simp only [h2]
 rw [if_neg (by decide),if_neg (by decide),if_neg (by decide),if_neg (by decide),if_pos trivial,hta,if_neg (by decide),hrow,if_neg (by simp)]
 have e : a + 1 + (d :: r).length = a + (36 :: d :: r).length := by simp; omega
 rw [e,ext_at x a _ (36 :: d :: r) rest hd rfl]

theorem take_row (s : ByteArray) (a : Nat) (p : UInt8 → Bool) (ha : a ≤ s.size) : s.extract a (a + rowL p (s.data.toList.drop a)) = bb ((s.data.toList.drop a).take (rowL p (s.data.toList.drop a))) := by
 have := ext_to s a (a + rowL p (s.data.toList.drop a)) (row_end s p a ha)
 rw [this]
 congr 2; omega
theorem one_good (s : ByteArray) (a : Nat) (hS : Solid s a) (he : (oneP s a).2.2 = 0) : Good (oneP s a).1.1 (oneP s a).1.2.1 := by
 have h := hS.lt
 have hh := head_at s a h
 unfold oneP at he ⊢
 simp only [hh] at he ⊢
 by_cases hl : letB s[a] = true
 ·rw [if_pos hl] at he ⊢
  show Good 1 (smallA _)
  rw [take_row s a wordB (by omega)]
  have e : smallA (bb ((s.data.toList.drop a).take (rowL wordB (s.data.toList.drop a)))) = bb (((s.data.toList.drop a).take (rowL wordB (s.data.toList.drop a))).map lowB) := rfl
  rw [e]
  have hn := row_pos wordB s a h (let_word _ hl)
  refine good_word _ (lowB s[a]) (((s.data.toList.drop (a + 1)).take (rowL wordB (s.data.toList.drop (a + 1)))).map lowB) ?_ (by rw [(low_facts _).2.2]; exact hl) ?_ ?_
  ·rw [hn,byte_at s a h,List.take_succ_cons,List.map_cons]
  ·intro d hd
   obtain ⟨c,hc,rfl⟩ := List.mem_map.1 hd
   rw [(low_facts c).2.1]
   exact row_take wordB _ c hc
  ·intro d hd
   obtain ⟨c,hc,rfl⟩ := List.mem_map.1 hd
   exact (low_facts c).1
 ·rw [if_neg hl] at he ⊢
  by_cases hd : digB s[a] = true
  ·rw [if_pos hd] at he ⊢
   show Good 4 _
   rw [take_row s a numB (by omega)]
   have hn := row_pos numB s a h (dig_num _ hd)
   refine good_num _ s[a] ((s.data.toList.drop (a + 1)).take (rowL numB (s.data.toList.drop (a + 1)))) ?_ hd ?_
   ·rw [hn,byte_at s a h,List.take_succ_cons]
   ·intro d hd
    exact row_take numB _ d hd
  ·rw [if_neg hd] at he ⊢
   by_cases h34 : s[a] = 34
   ·rw [if_pos h34] at he ⊢
    cases hq : quoAt s a 34 with
    | none => rw [hq] at he; exact absurd (show (6 : Int) = 0 from he) (by decide)
    | some p => exact good_quoted _
   ·rw [if_neg h34] at he ⊢
    by_cases h39 : s[a] = 39
    ·rw [if_pos h39] at he ⊢
     cases hq : quoAt s a 39 with
     | none => rw [hq] at he; exact absurd (show (6 : Int) = 0 from he) (by decide)
     | some p => exact good_str _
    ·rw [if_neg h39] at he ⊢
     by_cases h36 : s[a] = 36
     ·rw [if_pos h36] at he ⊢
      by_cases ht : 0 < tagAt s a
      ·rw [if_pos ht] at he ⊢
       cases hq : dolAt s a (tagAt s a).toNat with
       | none => rw [hq] at he; exact absurd (show (6 : Int) = 0 from he) (by decide)
       | some p => exact good_str _
      ·rw [if_neg ht] at he ⊢
       by_cases hp : rowL digB (s.data.toList.drop (a + 1)) = 0
       ·rw [if_pos hp] at he; exact absurd he (by decide)
       ·rw [if_neg hp] at he ⊢
        show Good 5 _
        have e : s.extract a (a + 1 + rowL digB (s.data.toList.drop (a + 1))) = bb (36 :: (s.data.toList.drop (a + 1)).take (rowL digB (s.data.toList.drop (a + 1)))) := by
         rw [ext_to s a _ (row_end s digB (a + 1) (by omega)),show a + 1 + rowL digB (s.data.toList.drop (a + 1)) - a = rowL digB (s.data.toList.drop (a + 1)) + 1 by omega]
         congr 1
         have hb := byte_at s a h
         rw [h36] at hb
         rw [hb,List.take_succ_cons]
        rw [e]
        refine good_param _ ?_ fun d hd => row_take digB _ d hd
        intro hz
        have := congrArg List.length hz
        rw [List.length_take,List.length_nil] at this
        have h2 := rowL_le digB (s.data.toList.drop (a + 1))
        omega
     ·rw [if_neg h36] at he ⊢
      by_cases hg : signI s[a] < 0
      ·rw [if_pos hg] at he; exact absurd he (by decide)
      ·rw [if_neg hg]
       show Good 5 _
       rw [ext_one s a h]
       exact good_sign s[a] (by omega)
theorem scan_all_good (s : ByteArray) (a : Nat) (acc : List Tok) (ha : a ≤ s.size) (h : ∀ t ∈ acc,Good t.1 t.2.1) : ∀ t ∈ (scanF s a acc).1,Good t.1 t.2.1 :=
 scan_ind s (fun a acc r => (∀ t ∈ acc,Good t.1 t.2.1) → ∀ t ∈ r.1,Good t.1 t.2.1) (fun a acc h h2 => h2) (fun a b acc r h1 h2 h3 => h3) (fun a acc e h1 h2 h3 t ht => by cases ht)
  (fun a acc r hS he h1 h2 h3 h4 => h3 fun t ht => by
   rcases List.mem_append.1 ht with ht | ht
   ·exact h4 t ht
   ·simp at ht; subst ht; exact one_good s a hS he) a acc ha h
theorem scan_good (x : ByteArray) (a : Nat) (acc : List Tok) (k : Int) (t : ByteArray) (b : Nat) (hS : Solid x a) (e : oneP x a = ((k,t,(a : Int)),b,0)) : scanF x a acc = scanF x b (acc ++ [(k,t,(a : Int))]) := by
 have h := (scan_one x a acc hS).1
 rw [e] at h
 exact h
theorem drop_app (x : ByteArray) (a : Nat) (l rest : Tx) (h : x.data.toList.drop a = l ++ rest) : x.data.toList.drop (a + l.length) = rest := by
 rw [← List.drop_drop,h,List.drop_left]
theorem tail_gap (l : List Tok) : Gap (tailL l) := by
 cases l with
 | nil => exact .inl rfl
 | cons t r => exact .inr ⟨shownL t ++ tailL r,by simp [tailL]⟩
theorem alike_cons (x y : Tok) (l m : List Tok) (h1 : x.1 = y.1) (h2 : x.2.1 = y.2.1) (h : Alike false l m) : Alike false (x :: l) (y :: m) := by
 refine ⟨by simp [h.1],fun i a b ha hb => ?_⟩
 cases i with
 | zero => simp at ha hb; subst ha hb; exact ⟨h1,h2,fun h => by cases h⟩
 | succ i => exact h.2 i a b (by simpa using ha) (by simpa using hb)
theorem back_tail : ∀ (l : List Tok),(∀ t ∈ l,Good t.1 t.2.1) → ∀ (x : ByteArray) (a : Nat) (acc : List Tok),x.data.toList.drop a = tailL l → ∃ m,scanF x a acc = (acc ++ m,0,0) ∧ Alike false l m := by
 intro l
 induction l with
 | nil =>
  intro _ x a acc hd
  have : x.size ≤ a := by
   have h1 := congrArg List.length hd
   rw [List.length_drop] at h1
   have e : x.size = x.data.toList.length := rfl
   simp [tailL] at h1; omega
  exact ⟨[],by rw [scanF_end x a acc this,List.append_nil],Alike.refl _ _⟩
 | cons t r ih =>
  intro hg x a acc hd
  have hd2 : x.data.toList.drop a = 32 :: (shownL t ++ tailL r) := by rw [hd]; simp [tailL]
  obtain ⟨h1,h2,h3⟩ := head_lt x a 32 _ hd2
  obtain ⟨hS,ho⟩ := hg t (by simp) x (a + 1) (tailL r) t.2.2 h3 (tail_gap r)
  obtain ⟨m,hm,ha⟩ := ih (fun u hu => hg u (by simp [hu])) x (a + 1 + (shownL t).length) (acc ++ [(t.1,t.2.1,((a + 1 : Nat) : Int))]) (drop_app x (a + 1) _ _ h3)
  refine ⟨(t.1,t.2.1,((a + 1 : Nat) : Int)) :: m,?_,alike_cons _ _ _ _ rfl rfl ha⟩
  rw [scan_blank x a acc h1 (by rw [h2]; decide),scan_good x (a + 1) acc t.1 t.2.1 _ hS ho]
  rw [show (t.1,t.2.1,t.2.2) = t from rfl,hm,List.append_assoc]; rfl
theorem back (l : List Tok) (hg : ∀ t ∈ l,Good t.1 t.2.1) : ∃ m,scanF (bb (showL l)) 0 [] = (m,0,0) ∧ Alike false l m := by
 cases l with
 | nil => exact ⟨[],by rw [scanF_end _ _ _ (by show (showL []).toArray.size ≤ 0; exact Nat.le_refl _)],Alike.refl _ _⟩
 | cons t r =>
  have hd : (bb (showL (t :: r))).data.toList.drop 0 = shownL t ++ tailL r := by simp [showL]
  obtain ⟨hS,ho⟩ := hg t (by simp) (bb (showL (t :: r))) 0 (tailL r) t.2.2 hd (tail_gap r)
  obtain ⟨m,hm,ha⟩ := back_tail r (fun u hu => hg u (by simp [hu])) (bb (showL (t :: r))) (0 + (shownL t).length) [(t.1,t.2.1,((0 : Nat) : Int))] (drop_app _ 0 _ _ hd)
  refine ⟨(t.1,t.2.1,((0 : Nat) : Int)) :: m,?_,alike_cons _ _ _ _ rfl rfl ha⟩
  rw [scan_good _ 0 [] t.1 t.2.1 _ hS ho]
  rw [show (t.1,t.2.1,t.2.2) = t from rfl]
  exact hm

def valL (l : Tx) : Nat := l.foldl (fun n c => 10 * n + (c.toNat - 48)) 0

theorem bb_list (l : Tx) : (bb l).data.toList = l := by simp





end Go.Proofs.YtjmmninopagpjaaGreatDoor
