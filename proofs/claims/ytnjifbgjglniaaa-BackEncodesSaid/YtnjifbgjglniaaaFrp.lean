/- Plain mathematics of layer 2: cutting a list of bytes into messages, and how that goes on when bytes come in pieces, or when messages were put one behind the other. No program is walked here. -/
import Derived.Test.YtnjifbgjglniaaaOrf
namespace Go.Proofs.Ytnjifbgjglniaaa
set_option linter.unusedVariables false

/-- a list of bytes as a text -/
def ba (l : List UInt8) : ByteArray := ⟨l.toArray⟩
theorem ba_size (l : List UInt8) : (ba l).size = l.length := by simp [ba, ByteArray.size]
theorem ba_list (l : List UInt8) : (ba l).data.toList = l := by simp [ba]
theorem ba_of (s : ByteArray) : ba s.data.toList = s := by simp [ba]
theorem ba_inj {a b : List UInt8} (h : ba a = ba b) : a = b := by rw [← ba_list a, h, ba_list]
theorem ba_ext {s t : ByteArray} (h : s.data.toList = t.data.toList) : s = t := by rw [← ba_of s, h, ba_of]
theorem ba_extract (l : List UInt8) (a b : Nat) : (ba l).extract a b = ba ((l.drop a).take (b - a)) := by
  apply ba_ext
  simp [ba]
theorem ba_append (a b : List UInt8) : ba a ++ ba b = ba (a ++ b) := by apply ba_ext; simp [ba]
theorem ba_nil : ba [] = ⟨#[]⟩ := rfl

abbrev Msg := UInt8 × List UInt8

def namedB (k : UInt8) : Bool := decide (33 ≤ k.toNat ∧ k.toNat ≤ 126)
def bodyN (f : Bool) : Nat := if f then 4 else 5
def numL (l : List UInt8) (f : Bool) : Int := sgn32 (beN ((l.drop (bodyN f - 4)).take 4))
def kindL (l : List UInt8) (f : Bool) : UInt8 := if f then 0 else l.headD 0

/-- the message ahead of all others, its size (0: none), what is wrong -/
def aheadL (l : List UInt8) (f : Bool) : Msg × Nat × Int :=
  if l.length < bodyN f then ((0, []), 0, 0)
  else if f = false ∧ namedB (kindL l f) = false then ((0, []), 0, 5)
  else if numL l f < 4 then ((0, []), 0, 4)
  else if 4096 < numL l f then ((0, []), 0, 2)
  else if l.length < bodyN f - 4 + (numL l f).toNat then ((0, []), 0, 0)
  else ((kindL l f, (l.drop (bodyN f)).take ((numL l f).toNat - 4)), bodyN f - 4 + (numL l f).toNat, 0)

theorem bodyN_pos (f : Bool) : 4 ≤ bodyN f ∧ bodyN f ≤ 5 := by cases f <;> simp [bodyN]

theorem ahead_pos {l : List UInt8} {f : Bool} (h : (aheadL l f).2.1 ≠ 0) :
    4 ≤ (aheadL l f).2.1 ∧ (aheadL l f).2.1 ≤ 4097 ∧ (aheadL l f).2.1 ≤ l.length ∧ (aheadL l f).2.2 = 0 ∧ bodyN f ≤ l.length ∧ ¬ (f = false ∧ namedB (kindL l f) = false) ∧ 4 ≤ numL l f ∧ numL l f ≤ 4096 ∧
      (aheadL l f).2.1 = bodyN f - 4 + (numL l f).toNat ∧ (aheadL l f).1 = (kindL l f, (l.drop (bodyN f)).take ((numL l f).toNat - 4)) := by
  have hb := bodyN_pos f
  unfold aheadL at h ⊢
  by_cases h1 : l.length < bodyN f
  · simp only [if_pos h1] at h; exact absurd rfl h
  · simp only [if_neg h1] at h ⊢
    by_cases h2 : f = false ∧ namedB (kindL l f) = false
    · simp only [if_pos h2] at h; exact absurd rfl h
    · simp only [if_neg h2] at h ⊢
      by_cases h3 : numL l f < 4
      · simp only [if_pos h3] at h; exact absurd rfl h
      · simp only [if_neg h3] at h ⊢
        by_cases h4 : 4096 < numL l f
        · simp only [if_pos h4] at h; exact absurd rfl h
        · simp only [if_neg h4] at h ⊢
          by_cases h5 : l.length < bodyN f - 4 + (numL l f).toNat
          · simp only [if_pos h5] at h; exact absurd rfl h
          · simp only [if_neg h5] at h ⊢
            exact ⟨by omega, by omega, by omega, trivial, by omega, h2, by omega, by omega, trivial, trivial⟩

/-- all messages that are whole, what is left, whether a first one is next, and what is wrong -/
def feedL (l : List UInt8) (f : Bool) : List Msg × List UInt8 × Bool × Int :=
  if h : (aheadL l f).2.1 = 0 then ([], l, f, (aheadL l f).2.2)
  else ((aheadL l f).1 :: (feedL (l.drop (aheadL l f).2.1) false).1, (feedL (l.drop (aheadL l f).2.1) false).2)
termination_by l.length
decreasing_by all_goals (have := ahead_pos h; rw [List.length_drop]; omega)

theorem feedL_stop {l : List UInt8} {f : Bool} (h : (aheadL l f).2.1 = 0) : feedL l f = ([], l, f, (aheadL l f).2.2) := by rw [feedL, dif_pos h]
theorem feedL_step {l : List UInt8} {f : Bool} (h : (aheadL l f).2.1 ≠ 0) :
    feedL l f = ((aheadL l f).1 :: (feedL (l.drop (aheadL l f).2.1) false).1, (feedL (l.drop (aheadL l f).2.1) false).2) := by rw [feedL, dif_neg h]

/-- each message has at least four bytes, and what is left is no longer -/
theorem feedL_len (n : Nat) : ∀ (l : List UInt8) (f : Bool), l.length ≤ n → (feedL l f).1.length * 4 + (feedL l f).2.1.length ≤ l.length := by
  induction n with
  | zero =>
    intro l f hn
    have h : (aheadL l f).2.1 = 0 := by
      by_cases h : (aheadL l f).2.1 = 0
      · exact h
      · have := ahead_pos h; omega
    rw [feedL_stop h]; simp
  | succ n ih =>
    intro l f hn
    by_cases h : (aheadL l f).2.1 = 0
    · rw [feedL_stop h]; simp
    · have hp := ahead_pos h
      rw [feedL_step h]
      have := ih (l.drop (aheadL l f).2.1) false (by rw [List.length_drop]; omega)
      rw [List.length_drop] at this
      simp only [List.length_cons]
      omega
theorem feedL_le (l : List UInt8) (f : Bool) : (feedL l f).1.length * 4 + (feedL l f).2.1.length ≤ l.length := feedL_len _ l f (Nat.le_refl _)

theorem numL_append (a b : List UInt8) (f : Bool) (h : bodyN f ≤ a.length) : numL (a ++ b) f = numL a f := by
  have hb := bodyN_pos f
  unfold numL
  rw [List.drop_append_of_le_length (by omega), List.take_append_of_le_length (by rw [List.length_drop]; omega)]
theorem kindL_append (a b : List UInt8) (f : Bool) (h : bodyN f ≤ a.length) : kindL (a ++ b) f = kindL a f := by
  have hb := bodyN_pos f
  unfold kindL
  cases f
  · cases a with
    | nil => simp at h; omega
    | cons x a => simp
  · rfl

/-- what is known of the bytes that are there stays so, whatever comes behind -/
theorem ahead_more {a b : List UInt8} {f : Bool} (h : (aheadL a f).2.1 ≠ 0 ∨ (aheadL a f).2.2 ≠ 0) : aheadL (a ++ b) f = aheadL a f := by
  have hb := bodyN_pos f
  by_cases h1 : a.length < bodyN f
  · have e : aheadL a f = ((0, []), 0, 0) := by unfold aheadL; rw [if_pos h1]
    rw [e] at h; simp at h
  · have hn := numL_append a b f (by omega)
    have hk := kindL_append a b f (by omega)
    have hl : (a ++ b).length = a.length + b.length := List.length_append
    by_cases h2 : f = false ∧ namedB (kindL a f) = false
    · unfold aheadL; rw [hn, hk, hl, if_neg (by omega), if_pos h2, if_neg h1, if_pos h2]
    · by_cases h3 : numL a f < 4
      · unfold aheadL; rw [hn, hk, hl, if_neg (by omega), if_neg h2, if_pos h3, if_neg h1, if_neg h2, if_pos h3]
      · by_cases h4 : 4096 < numL a f
        · unfold aheadL; rw [hn, hk, hl, if_neg (by omega), if_neg h2, if_neg h3, if_pos h4, if_neg h1, if_neg h2, if_neg h3, if_pos h4]
        · by_cases h5 : a.length < bodyN f - 4 + (numL a f).toNat
          · have e : aheadL a f = ((0, []), 0, 0) := by unfold aheadL; rw [if_neg h1, if_neg h2, if_neg h3, if_neg h4, if_pos h5]
            rw [e] at h; simp at h
          · unfold aheadL
            rw [hn, hk, hl, if_neg (by omega), if_neg h2, if_neg h3, if_neg h4, if_neg (by omega), if_neg h1, if_neg h2, if_neg h3, if_neg h4, if_neg h5]
            rw [List.drop_append_of_le_length (by omega), List.take_append_of_le_length (by rw [List.length_drop]; omega)]

/-- two pieces, one behind the other -/
theorem feed_join (n : Nat) : ∀ (a b : List UInt8) (f : Bool), a.length ≤ n →
    ((feedL a f).2.2.2 = 0 → feedL (a ++ b) f = ((feedL a f).1 ++ (feedL ((feedL a f).2.1 ++ b) (feedL a f).2.2.1).1, (feedL ((feedL a f).2.1 ++ b) (feedL a f).2.2.1).2)) ∧
    ((feedL a f).2.2.2 ≠ 0 → feedL (a ++ b) f = ((feedL a f).1, (feedL a f).2.1 ++ b, (feedL a f).2.2)) := by
  induction n with
  | zero =>
    intro a b f hn
    have h : (aheadL a f).2.1 = 0 := by
      by_cases h : (aheadL a f).2.1 = 0
      · exact h
      · have := ahead_pos h; omega
    rw [feedL_stop h]
    refine ⟨fun _ => by simp, fun he => ?_⟩
    rw [feedL_stop (by rw [ahead_more (.inr he)]; exact h), ahead_more (.inr he)]
  | succ n ih =>
    intro a b f hn
    by_cases h : (aheadL a f).2.1 = 0
    · rw [feedL_stop h]
      refine ⟨fun _ => by simp, fun he => ?_⟩
      rw [feedL_stop (by rw [ahead_more (.inr he)]; exact h), ahead_more (.inr he)]
    · have hp := ahead_pos h
      have hm := ahead_more (b := b) (.inl h)
      have := ih (a.drop (aheadL a f).2.1) b false (by rw [List.length_drop]; omega)
      rw [feedL_step h, feedL_step (l := a ++ b) (by rw [hm]; exact h), hm, List.drop_append_of_le_length (by omega)]
      refine ⟨fun he => ?_, fun he => ?_⟩
      · rw [this.1 he]; rfl
      · rw [this.2 he]

/-- whether a message can be; its bytes -/
def rightL (m : Msg) : Bool := (decide (m.1 = 0) || namedB m.1) && decide (m.2.length ≤ 4092)
def putL (m : Msg) : List UInt8 := if rightL m then (if m.1 = 0 then [] else [m.1]) ++ ((put32 ⟨#[]⟩ (m.2.length + 4)).data.toList ++ m.2) else []
def allL : List Msg → List UInt8
  | [] => []
  | m :: r => putL m ++ allL r

theorem beN_put (n : Nat) (h : n < 65536) : beN (put32 ⟨#[]⟩ (n : Int)).data.toList = n := by
  have e : (put32 ⟨#[]⟩ (n : Int)).data.toList = [byt ((n : Int) / 16777216), byt ((n : Int) / 65536), byt ((n : Int) / 256), byt n] := by simp [put32]
  rw [e]
  have b0 := byt_toNat ((n : Int) / 16777216)
  have b1 := byt_toNat ((n : Int) / 65536)
  have b2 := byt_toNat ((n : Int) / 256)
  have b3 := byt_toNat (n : Int)
  simp only [beN, List.foldl_cons, List.foldl_nil]
  omega

theorem put_len (n : Int) : (put32 ⟨#[]⟩ n).data.toList.length = 4 := by simp [put32]

/-- a right message's bytes, and what comes behind: the message stands ahead -/
theorem ahead_put (m : Msg) (b : List UInt8) (h : rightL m = true) :
    aheadL (putL m ++ b) (decide (m.1 = 0)) = (m, (putL m).length, 0) := by
  obtain ⟨k, l⟩ := m
  have hl : l.length ≤ 4092 := by simp [rightL] at h; exact h.2
  have hk : k = 0 ∨ namedB k = true := by simp [rightL] at h; exact h.1
  have hsg : sgn32 (l.length + 4) = ((l.length + 4 : Nat) : Int) := by unfold sgn32; rw [if_pos (by omega)]
  have hbe : beN (put32 ⟨#[]⟩ ((l.length : Int) + 4)).data.toList = l.length + 4 := by
    have := beN_put (l.length + 4) (by omega)
    simpa using this
  have hP := put_len ((l.length : Int) + 4)
  by_cases h0 : k = 0
  · subst h0
    have e : putL (0, l) = (put32 ⟨#[]⟩ ((l.length : Int) + 4)).data.toList ++ l := by unfold putL; rw [if_pos h]; rfl
    rw [e]
    generalize (put32 ⟨#[]⟩ ((l.length : Int) + 4)).data.toList = p at *
    have hd : decide ((0 : UInt8) = 0) = true := rfl
    have hn : numL (p ++ l ++ b) true = ((l.length + 4 : Nat) : Int) := by
      unfold numL bodyN
      have ht : ∀ x : List UInt8, (p ++ x).take 4 = p := fun x => by rw [← hP, List.take_left]
      rw [if_pos rfl, List.append_assoc, List.drop_zero, ht, hbe, hsg]
    have hlen : (p ++ l ++ b).length = 4 + l.length + b.length := by simp [hP]; omega
    have hdr : (p ++ l ++ b).drop 4 = l ++ b := by rw [List.append_assoc, ← hP, List.drop_left]
    show aheadL (p ++ l ++ b) (decide ((0 : UInt8) = 0)) = _
    rw [hd]
    unfold aheadL
    rw [hn, hlen, show bodyN true = 4 from rfl, if_neg (by omega), if_neg (by simp), if_neg (by omega), if_neg (by omega), if_neg (by omega), hdr]
    have e1 : (((l.length + 4 : Nat) : Int)).toNat - 4 = l.length := by omega
    rw [e1, List.take_left]
    simp only [kindL, if_true, Prod.mk.injEq, true_and, and_true]
    simp [hP]; omega
  · have hk : namedB k = true := hk.resolve_left h0
    have e : putL (k, l) = k :: ((put32 ⟨#[]⟩ ((l.length : Int) + 4)).data.toList ++ l) := by unfold putL; rw [if_pos h, if_neg h0]; rfl
    rw [e]
    generalize (put32 ⟨#[]⟩ ((l.length : Int) + 4)).data.toList = p at *
    have hd : decide (k = 0) = false := by simpa using h0
    have hn : numL (k :: (p ++ l) ++ b) false = ((l.length + 4 : Nat) : Int) := by
      unfold numL bodyN
      rw [if_neg (by simp), List.cons_append, List.append_assoc]
      show sgn32 (beN (List.take 4 (p ++ (l ++ b)))) = _
      have ht : ∀ x : List UInt8, (p ++ x).take 4 = p := fun x => by rw [← hP, List.take_left]
      rw [ht, hbe, hsg]
    have hlen : (k :: (p ++ l) ++ b).length = 5 + l.length + b.length := by simp [hP]; omega
    have hdr : (k :: (p ++ l) ++ b).drop 5 = l ++ b := by
      rw [List.cons_append, List.append_assoc]
      show List.drop 4 (p ++ (l ++ b)) = _
      rw [← hP, List.drop_left]
    have hkk : kindL (k :: (p ++ l) ++ b) false = k := rfl
    show aheadL (k :: (p ++ l) ++ b) (decide (k = 0)) = _
    rw [hd]
    unfold aheadL
    rw [hn, hlen, hkk, show bodyN false = 5 from rfl, if_neg (by omega), if_neg (by simp [hk]), if_neg (by omega), if_neg (by omega), if_neg (by omega), hdr]
    have e1 : (((l.length + 4 : Nat) : Int)).toNat - 4 = l.length := by omega
    rw [e1, List.take_left]
    simp only [Prod.mk.injEq, true_and, and_true]
    simp [hP]; omega

theorem put_pos (m : Msg) (h : rightL m = true) : 4 ≤ (putL m).length := by
  unfold putL; rw [if_pos h]
  simp only [List.length_append, put_len]; omega

/-- right messages, none of them a first one, one behind the other, are read as these -/
theorem feed_all (ms : List Msg) : (∀ m ∈ ms, rightL m = true ∧ m.1 ≠ 0) → ∃ f, feedL (allL ms) false = (ms, [], f, 0) := by
  induction ms with
  | nil => intro _; exact ⟨false, by rw [feedL_stop]; rfl; rfl⟩
  | cons m r ih =>
    intro h
    obtain ⟨f, hf⟩ := ih (fun x hx => h x (List.mem_cons_of_mem _ hx))
    obtain ⟨h1, h2⟩ := h m (by simp)
    have ha := ahead_put m (allL r) h1
    rw [show decide (m.1 = 0) = false by simpa using h2] at ha
    have hp := put_pos m h1
    refine ⟨f, ?_⟩
    show feedL (putL m ++ allL r) false = _
    rw [feedL_step (by rw [ha]; show (putL m).length ≠ 0; omega), ha]
    simp only [List.drop_left]
    rw [hf]
theorem feed_all_first (m : Msg) (ms : List Msg) (h : rightL m = true) (h2 : ∀ m ∈ ms, rightL m = true ∧ m.1 ≠ 0) : ∃ f, feedL (allL (m :: ms)) (decide (m.1 = 0)) = (m :: ms, [], f, 0) := by
  obtain ⟨f, hf⟩ := feed_all ms h2
  have ha := ahead_put m (allL ms) h
  have hp := put_pos m h
  refine ⟨f, ?_⟩
  show feedL (putL m ++ allL ms) _ = _
  rw [feedL_step (by rw [ha]; show (putL m).length ≠ 0; omega), ha]
  simp only [List.drop_left]
  rw [hf]
end Go.Proofs.Ytnjifbgjglniaaa
