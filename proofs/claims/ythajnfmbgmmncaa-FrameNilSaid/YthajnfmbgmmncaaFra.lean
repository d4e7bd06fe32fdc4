/- What package frame's 'ahead' does, for every list of bytes: the message that stands ahead, its size, or what is wrong. Condition: at most 2^40 bytes. -/
import Derived.Test.YthajnfmbgmmncaaFrm
namespace Go.Proofs.Ythajnfmbgmmncaa
open Go.ChangeShapes Go.WideShapes Go.ChangeAt Go.RowKit
set_option linter.unusedVariables false

def retA (r : Msg × Nat × Int) : Ending := .returned (.tuple #[.agg #[u8 r.1.1, .string (ba r.1.2)], .int .i64 (r.2.1 : Nat), .int .i64 r.2.2])

theorem bel {w w1 : World} {X : Obj} (h : Below (w.alloc X).heap.size (w.alloc X) w1) : Below w.heap.size w w1 :=
  ((Below.refl _ _).alloc (Nat.le_refl _) X).trans (h.mono (by simp))

theorem ahead_short (v : Value) (l : List UInt8) (f : Bool) (w : World) (hv : RB w v l) (hl : l.length ≤ 1099511627776) (hs : l.length < bodyN f) :
    Calls Try.prog 21 #[v, .bool f] w fun e w' => e = .returned (.tuple #[.agg #[.int .u8 0, .string ⟨#[]⟩], .int .i64 0, .int .i64 0]) ∧ Below w.heap.size w w' := by
  obtain ⟨a, cap, rfl⟩ : ∃ a cap, v = .slice a l.length cap := by
    rcases hv with ⟨rfl, rfl⟩ | ⟨h, off, cap, rfl, _⟩
    · exact ⟨_, _, rfl⟩
    · exact ⟨_, _, rfl⟩
  clear hv
  cases f
  · have h5 : l.length < 5 := hs
    go_enter Try.func21, Try.ntmps21
    go_wp2
    exact bodyPost_ret (v := .tuple #[.agg #[.int .u8 0, .string ⟨#[]⟩], .int .i64 0, .int .i64 0]) (by simp [results, Try.results21, go_sem]) rfl ⟨rfl, (Below.refl _ _).alloc (Nat.le_refl _) _⟩
  · have h5 : l.length < 4 := hs
    go_enter Try.func21, Try.ntmps21
    go_wp2
    exact bodyPost_ret (v := .tuple #[.agg #[.int .u8 0, .string ⟨#[]⟩], .int .i64 0, .int .i64 0]) (by simp [results, Try.results21, go_sem]) rfl ⟨rfl, (Below.refl _ _).alloc (Nat.le_refl _) _⟩

theorem ahead_kind (h off cap : Nat) (l : List UInt8) (w : World) (hr : Row w h off l) (hc : l.length ≤ cap) (hm : cap ≤ maxLen) (hl : l.length ≤ 1099511627776) (hs : 5 ≤ l.length) (hk : namedB (kindL l false) = false) :
    Calls Try.prog 21 #[.slice (some ⟨h, off, none⟩) l.length cap, .bool false] w fun e w' => e = .returned (.tuple #[.agg #[.int .u8 0, .string ⟨#[]⟩], .int .i64 0, .int .i64 5]) ∧ Below w.heap.size w w' := by
  have hlt := hr.lt
  have c0 : w.cell? ⟨h, off, none⟩ = some (.int .u8 ((kindL l false).toNat : Int)) := by
    have := hr.cell 0 (by omega)
    rw [Nat.add_zero] at this
    rw [this]
    cases l with
    | nil => simp at hs
    | cons x l => rfl
  have d := fun w => named_any (kindL l false) w
  rw [hk] at d
  clear hk
  generalize kindL l false = k at *
  unfold maxLen at hm
  go_enter Try.func21, Try.ntmps21
  go_wp2_with (go_at_call 23; refine (d _).mono ?_; rintro e w1 ⟨rfl, rfl⟩)
  exact bodyPost_ret (v := .tuple #[.agg #[.int .u8 0, .string ⟨#[]⟩], .int .i64 0, .int .i64 5]) (by simp [results, Try.results21, go_sem]) rfl ⟨rfl, (Below.refl _ _).alloc (Nat.le_refl _) _⟩

theorem num_get (l : List UInt8) (f : Bool) (w : World) (h : bodyN f ≤ l.length) :
    Calls Try.prog 26 #[.string (ba ((l.drop (bodyN f - 4)).take 4)), .int .i64 0] w fun e w' => e = .returned (.tuple #[.int .i64 (numL l f), .int .i64 4, .int .i64 0]) ∧ Below w.heap.size w w' := by
  have hb := bodyN_pos f
  have hlen : ((l.drop (bodyN f - 4)).take 4).length = 4 := by simp; omega
  have hg := get32_any (ba ((l.drop (bodyN f - 4)).take 4)) 0 w (by rw [ba_size, hlen]; decide)
  have e : g32 (ba ((l.drop (bodyN f - 4)).take 4)) 0 = (numL l f, 4, 0) := by
    unfold g32 numL
    rw [if_neg (by rw [ba_size, hlen]; decide), if_neg (by rw [ba_size, hlen]; decide)]
    have e2 : ((ba ((l.drop (bodyN f - 4)).take 4)).extract (0 : Int).toNat ((0 : Int) + 4).toNat).data.toList = (l.drop (bodyN f - 4)).take 4 := by
      rw [show ((0 : Int) + 4).toNat = 4 from rfl, show (0 : Int).toNat = 0 from rfl, ba_extract, ba_list, List.drop_zero, List.take_take]
      rfl
    rw [e2]; rfl
  rw [e] at hg
  exact hg

theorem conv_full4 (w : World) (h off cap : Nat) (l : List UInt8) (z : Int) (r : Row w h off l) (hs : 4 ≤ l.length) (hc : l.length ≤ cap) (h4 : 4 ≤ z) (h5 : z ≤ (l.length : Int)) :
    cap = 4 → (convert 45 9 (.slice (some ⟨h, off, none⟩) (z.toNat - 4) 0)).run Try.prog w = .ok (.string (ba ((l.drop 4).take (z.toNat - 4)))) w := by
  intro e
  have hn : z.toNat - 4 = 0 := by omega
  rw [hn, List.take_zero]
  exact conv_part w h off 0 0 [] (by simpa using r.take 0) rfl
theorem conv_full5 (w : World) (h off cap : Nat) (l : List UInt8) (z : Int) (r : Row w h off l) (hs : 5 ≤ l.length) (hc : l.length ≤ cap) (h4 : 4 ≤ z) (h5 : 1 + z ≤ (l.length : Int)) :
    cap = 5 → (convert 45 9 (.slice (some ⟨h, off, none⟩) ((1 + z).toNat - 5) 0)).run Try.prog w = .ok (.string (ba ((l.drop 5).take (z.toNat - 4)))) w := by
  intro e
  have hn : z.toNat - 4 = 0 := by omega
  have hn2 : (1 + z).toNat - 5 = 0 := by omega
  rw [hn, hn2, List.take_zero]
  exact conv_part w h off 0 0 [] (by simpa using r.take 0) rfl

set_option maxHeartbeats 1000000 in
theorem ahead_num_true (h off cap : Nat) (l : List UInt8) (w : World) (hr : Row w h off l) (hc : l.length ≤ cap) (hm : cap ≤ maxLen) (hl : l.length ≤ 1099511627776) (hs : 4 ≤ l.length) :
    Calls Try.prog 21 #[.slice (some ⟨h, off, none⟩) l.length cap, .bool true] w fun e w' => e = retA (aheadL l true) ∧ Below w.heap.size w w' := by
  have hlt := hr.lt
  have hc4 := fun o => conv_part (w.alloc o) h off cap 4 ((l.drop 0).take 4) (((hr.stay (Stay.alloc w o)).cut 0).take 4) (by simp; omega)
  have d := fun w => num_get l true w hs
  rw [show bodyN true = 4 from rfl] at d
  have e1 : bodyN true = 4 := rfl
  unfold maxLen at hm
  by_cases h1 : numL l true < 4
  · have e : aheadL l true = ((0, []), 0, 4) := by
      unfold aheadL; rw [e1, if_neg (by omega), if_neg (by simp), if_pos h1]
    rw [e]; clear e e1 hr
    generalize numL l true = z at *
    generalize (l.drop 0).take 4 = t at *
    go_enter Try.func21, Try.ntmps21
    go_wp2_with (first | (go_at_call 26; refine (d _).mono ?_; rintro e w1 ⟨rfl, hb1⟩; have hz1 : w.heap.size + 1 ≤ w1.heap.size := (by have := hb1.size; simpa using this); obtain ⟨hcc, hff⟩ := bcell hb1))
    exact bodyPost_ret (v := .tuple #[.agg #[.int .u8 0, .string ⟨#[]⟩], .int .i64 0, .int .i64 4]) (by simp [results, Try.results21, hcc, go_sem]) rfl ⟨rfl, by first | exact bel hb1 | exact (bel hb1).setCell (Nat.le_refl _) _ | exact ((bel hb1).setCell (Nat.le_refl _) _).setCell (Nat.le_refl _) _⟩
  · by_cases h2 : 4096 < numL l true
    · have e : aheadL l true = ((0, []), 0, 2) := by
        unfold aheadL; rw [e1, if_neg (by omega), if_neg (by simp), if_neg h1, if_pos h2]
      rw [e]; clear e e1 hr
      generalize numL l true = z at *
      generalize (l.drop 0).take 4 = t at *
      go_enter Try.func21, Try.ntmps21
      go_wp2_with (first | (go_at_call 26; refine (d _).mono ?_; rintro e w1 ⟨rfl, hb1⟩; have hz1 : w.heap.size + 1 ≤ w1.heap.size := (by have := hb1.size; simpa using this); obtain ⟨hcc, hff⟩ := bcell hb1))
      exact bodyPost_ret (v := .tuple #[.agg #[.int .u8 0, .string ⟨#[]⟩], .int .i64 0, .int .i64 2]) (by simp [results, Try.results21, hcc, go_sem]) rfl ⟨rfl, by first | exact bel hb1 | exact (bel hb1).setCell (Nat.le_refl _) _ | exact ((bel hb1).setCell (Nat.le_refl _) _).setCell (Nat.le_refl _) _⟩
    · by_cases h3 : l.length < bodyN true - 4 + (numL l true).toNat
      · have e : aheadL l true = ((0, []), 0, 0) := by
          unfold aheadL; rw [if_neg (by rw [e1]; omega), if_neg (by simp), if_neg h1, if_neg h2, if_pos h3]
        rw [e]; rw [e1] at h3; clear e e1 hr
        generalize numL l true = z at *
        have h4 : 4 ≤ z := by omega
        have h5 : (l.length : Int) < z := by omega
        have h6 : z ≤ 4096 := by omega
        clear h1 h2 h3
        generalize (l.drop 0).take 4 = t at *
        go_enter Try.func21, Try.ntmps21
        go_wp2_with (first | (go_at_call 26; refine (d _).mono ?_; rintro e w1 ⟨rfl, hb1⟩; have hz1 : w.heap.size + 1 ≤ w1.heap.size := (by have := hb1.size; simpa using this); obtain ⟨hcc, hff⟩ := bcell hb1))
        exact bodyPost_ret (v := .tuple #[.agg #[.int .u8 0, .string ⟨#[]⟩], .int .i64 0, .int .i64 0]) (by simp [results, Try.results21, hcc, go_sem]) rfl ⟨rfl, by first | exact bel hb1 | exact (bel hb1).setCell (Nat.le_refl _) _ | exact ((bel hb1).setCell (Nat.le_refl _) _).setCell (Nat.le_refl _) _⟩
      · have e : aheadL l true = ((0, (l.drop 4).take ((numL l true).toNat - 4)), 4 - 4 + (numL l true).toNat, 0) := by
          unfold aheadL; rw [if_neg (by rw [e1]; omega), if_neg (by simp), if_neg h1, if_neg h2, if_neg h3]; rfl
        rw [e]; rw [e1] at h3; clear e e1
        generalize numL l true = z at *
        have h4 : 4 ≤ z := by omega
        have h5 : z ≤ (l.length : Int) := by omega
        have h6 : z ≤ 4096 := by omega
        clear h1 h2 h3
        generalize (l.drop 0).take 4 = t at *
        go_enter Try.func21, Try.ntmps21
        go_wp2_with (first | (go_at_call 26; refine (d _).mono ?_; rintro e w1 ⟨rfl, hb1⟩; have hz1 : w.heap.size + 1 ≤ w1.heap.size := (by have := hb1.size; simpa using this); obtain ⟨hcc, hff⟩ := bcell hb1; have hc5 := conv_part w1 h (off + 4) (cap - 4) (z.toNat - 4) ((l.drop 4).take (z.toNat - 4)) ((((hr.stay (Stay.alloc w _)).stay (Stay.below hb1 (Nat.le_refl _))).cut 4).take (z.toNat - 4)) (by simp; omega); have hc6 := conv_full4 w1 h off cap l z ((hr.stay (Stay.alloc w _)).stay (Stay.below hb1 (Nat.le_refl _))) hs hc h4 h5))
        all_goals
          refine bodyPost_ret (v := .tuple #[.agg #[.int .u8 0, .string (ba ((l.drop 4).take (z.toNat - 4)))], .int .i64 (z), .int .i64 0]) (by simp [results, Try.results21, hcc, go_sem]) rfl ⟨?_, by first | exact bel hb1 | exact (bel hb1).setCell (Nat.le_refl _) _ | exact ((bel hb1).setCell (Nat.le_refl _) _).setCell (Nat.le_refl _) _⟩
          unfold retA u8
          rw [show ((4 - 4 + z.toNat : Nat) : Int) = z by omega]
          rfl

set_option maxHeartbeats 1000000 in
theorem ahead_num_false (h off cap : Nat) (l : List UInt8) (w : World) (hr : Row w h off l) (hc : l.length ≤ cap) (hm : cap ≤ maxLen) (hl : l.length ≤ 1099511627776) (hs : 5 ≤ l.length) (hk : namedB (kindL l false) = true) :
    Calls Try.prog 21 #[.slice (some ⟨h, off, none⟩) l.length cap, .bool false] w fun e w' => e = retA (aheadL l false) ∧ Below w.heap.size w w' := by
  have hlt := hr.lt
  have c0 : w.cell? ⟨h, off, none⟩ = some (.int .u8 ((kindL l false).toNat : Int)) := by
    have := hr.cell 0 (by omega)
    rw [Nat.add_zero] at this
    rw [this]
    cases l with
    | nil => simp at hs
    | cons x l => rfl
  have dk := fun w => named_any (kindL l false) w
  rw [hk] at dk
  have hc4 := fun o => conv_part (w.alloc o) h (off + 1) (cap - 1) 4 ((l.drop 1).take 4) (((hr.stay (Stay.alloc w o)).cut 1).take 4) (by simp; omega)
  have d := fun w => num_get l false w hs
  rw [show bodyN false = 5 from rfl] at d
  have e1 : bodyN false = 5 := rfl
  unfold maxLen at hm
  by_cases h1 : numL l false < 4
  · have e : aheadL l false = ((0, []), 0, 4) := by
      unfold aheadL; rw [e1, if_neg (by omega), if_neg (by simp [hk]), if_pos h1]
    rw [e]; clear e e1 hr
    clear hk
    generalize kindL l false = k at *
    generalize numL l false = z at *
    generalize (l.drop 1).take 4 = t at *
    go_enter Try.func21, Try.ntmps21
    go_wp2_with (first | (go_at_call 23; refine (dk _).mono ?_; rintro e w0 ⟨rfl, rfl⟩) | (go_at_call 26; refine (d _).mono ?_; rintro e w1 ⟨rfl, hb1⟩; have hz1 : w.heap.size + 1 ≤ w1.heap.size := (by have := hb1.size; simpa using this); obtain ⟨hcc, hff⟩ := bcell hb1))
    exact bodyPost_ret (v := .tuple #[.agg #[.int .u8 0, .string ⟨#[]⟩], .int .i64 0, .int .i64 4]) (by simp [results, Try.results21, hcc, go_sem]) rfl ⟨rfl, by first | exact bel hb1 | exact (bel hb1).setCell (Nat.le_refl _) _ | exact ((bel hb1).setCell (Nat.le_refl _) _).setCell (Nat.le_refl _) _⟩
  · by_cases h2 : 4096 < numL l false
    · have e : aheadL l false = ((0, []), 0, 2) := by
        unfold aheadL; rw [e1, if_neg (by omega), if_neg (by simp [hk]), if_neg h1, if_pos h2]
      rw [e]; clear e e1 hr
      clear hk
      generalize kindL l false = k at *
      generalize numL l false = z at *
      generalize (l.drop 1).take 4 = t at *
      go_enter Try.func21, Try.ntmps21
      go_wp2_with (first | (go_at_call 23; refine (dk _).mono ?_; rintro e w0 ⟨rfl, rfl⟩) | (go_at_call 26; refine (d _).mono ?_; rintro e w1 ⟨rfl, hb1⟩; have hz1 : w.heap.size + 1 ≤ w1.heap.size := (by have := hb1.size; simpa using this); obtain ⟨hcc, hff⟩ := bcell hb1))
      exact bodyPost_ret (v := .tuple #[.agg #[.int .u8 0, .string ⟨#[]⟩], .int .i64 0, .int .i64 2]) (by simp [results, Try.results21, hcc, go_sem]) rfl ⟨rfl, by first | exact bel hb1 | exact (bel hb1).setCell (Nat.le_refl _) _ | exact ((bel hb1).setCell (Nat.le_refl _) _).setCell (Nat.le_refl _) _⟩
    · by_cases h3 : l.length < bodyN false - 4 + (numL l false).toNat
      · have e : aheadL l false = ((0, []), 0, 0) := by
          unfold aheadL; rw [if_neg (by rw [e1]; omega), if_neg (by simp [hk]), if_neg h1, if_neg h2, if_pos h3]
        rw [e]; rw [e1] at h3; clear e e1 hr
        clear hk
        generalize kindL l false = k at *
        generalize numL l false = z at *
        have h4 : 4 ≤ z := by omega
        have h5 : (l.length : Int) < 1 + z := by omega
        have h6 : z ≤ 4096 := by omega
        clear h1 h2 h3
        generalize (l.drop 1).take 4 = t at *
        go_enter Try.func21, Try.ntmps21
        go_wp2_with (first | (go_at_call 23; refine (dk _).mono ?_; rintro e w0 ⟨rfl, rfl⟩) | (go_at_call 26; refine (d _).mono ?_; rintro e w1 ⟨rfl, hb1⟩; have hz1 : w.heap.size + 1 ≤ w1.heap.size := (by have := hb1.size; simpa using this); obtain ⟨hcc, hff⟩ := bcell hb1))
        exact bodyPost_ret (v := .tuple #[.agg #[.int .u8 0, .string ⟨#[]⟩], .int .i64 0, .int .i64 0]) (by simp [results, Try.results21, hcc, go_sem]) rfl ⟨rfl, by first | exact bel hb1 | exact (bel hb1).setCell (Nat.le_refl _) _ | exact ((bel hb1).setCell (Nat.le_refl _) _).setCell (Nat.le_refl _) _⟩
      · have e : aheadL l false = (((kindL l false), (l.drop 5).take ((numL l false).toNat - 4)), 5 - 4 + (numL l false).toNat, 0) := by
          unfold aheadL; rw [if_neg (by rw [e1]; omega), if_neg (by simp [hk]), if_neg h1, if_neg h2, if_neg h3]; rfl
        rw [e]; rw [e1] at h3; clear e e1
        clear hk
        generalize kindL l false = k at *
        generalize numL l false = z at *
        have h4 : 4 ≤ z := by omega
        have h5 : 1 + z ≤ (l.length : Int) := by omega
        have h6 : z ≤ 4096 := by omega
        clear h1 h2 h3
        generalize (l.drop 1).take 4 = t at *
        go_enter Try.func21, Try.ntmps21
        go_wp2_with (first | (go_at_call 23; refine (dk _).mono ?_; rintro e w0 ⟨rfl, rfl⟩) | (go_at_call 26; refine (d _).mono ?_; rintro e w1 ⟨rfl, hb1⟩; have hz1 : w.heap.size + 1 ≤ w1.heap.size := (by have := hb1.size; simpa using this); obtain ⟨hcc, hff⟩ := bcell hb1; have hc5 := conv_part w1 h (off + 5) (cap - 5) ((1 + z).toNat - 5) ((l.drop 5).take (z.toNat - 4)) ((((hr.stay (Stay.alloc w _)).stay (Stay.below hb1 (Nat.le_refl _))).cut 5).take (z.toNat - 4)) (by simp; omega); have hc6 := conv_full5 w1 h off cap l z ((hr.stay (Stay.alloc w _)).stay (Stay.below hb1 (Nat.le_refl _))) hs hc h4 h5))
        all_goals
          refine bodyPost_ret (v := .tuple #[.agg #[.int .u8 (k.toNat : Int), .string (ba ((l.drop 5).take (z.toNat - 4)))], .int .i64 (1 + z), .int .i64 0]) (by simp [results, Try.results21, hcc, go_sem]) rfl ⟨?_, by first | exact bel hb1 | exact (bel hb1).setCell (Nat.le_refl _) _ | exact ((bel hb1).setCell (Nat.le_refl _) _).setCell (Nat.le_refl _) _⟩
          unfold retA u8
          rw [show ((5 - 4 + z.toNat : Nat) : Int) = 1 + z by omega]

theorem ahead_any (v : Value) (l : List UInt8) (f : Bool) (w : World) (hv : RB w v l) (hl : l.length ≤ 1099511627776) :
    Calls Try.prog 21 #[v, .bool f] w fun e w' => e = retA (aheadL l f) ∧ Below w.heap.size w w' := by
  by_cases hs : l.length < bodyN f
  · have e : aheadL l f = ((0, []), 0, 0) := by unfold aheadL; rw [if_pos hs]
    rw [e]
    exact ahead_short v l f w hv hl hs
  · have hb := bodyN_pos f
    rcases hv with ⟨rfl, rfl⟩ | ⟨h, off, cap, rfl, hr, hc, hm⟩
    · simp at hs; omega
    · cases f
      · cases hk : namedB (kindL l false)
        · have e : aheadL l false = ((0, []), 0, 5) := by unfold aheadL; rw [if_neg hs, if_pos ⟨rfl, hk⟩]
          rw [e]
          exact ahead_kind h off cap l w hr hc hm hl (by simp [bodyN] at hs; omega) hk
        · exact ahead_num_false h off cap l w hr hc hm hl (by simp [bodyN] at hs; omega) hk
      · exact ahead_num_true h off cap l w hr hc hm hl (by simp [bodyN] at hs; omega)
end Go.Proofs.Ythajnfmbgmmncaa
