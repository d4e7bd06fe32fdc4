/- What package back's writers write that need no builder: nothing, status, done, login, secret, setting. Condition: what is told is of at most so many and so long texts (Few). -/
import Derived.Test.YtnjifbgjglniaaaBke
import Derived.WalkLawsBesides
namespace Go.Proofs.Ytnjifbgjglniaaa.BK
open Go.Proofs.Ytnjifbgjglniaaa
open Go.ChangeShapes Go.WideShapes Go.ChangeAt Go.RowKit
set_option linter.unusedVariables false
set_option maxRecDepth 100000
attribute [local go_sem ↓] Go.wp_at_zero Go.wp_at_succ

/-- so many and so long texts -/
structure Few (a : Tell) : Prop where
  text : a.text.length ≤ 10000
  keys : a.keys.length ≤ 200
  vals : a.vals.length ≤ 200
  null : a.null.length ≤ 200
  keysT : ∀ t ∈ a.keys, t.length ≤ 10000
  valsT : ∀ t ∈ a.vals, t.length ≤ 10000
/-- what a writer answers -/
def WrP (b : Tx) (w : World) (e : Ending) (w' : World) : Prop := e = .returned (.string (ba b)) ∧ Below w.heap.size w w'
theorem sumT_few (l : List Tx) (h : ∀ t ∈ l, t.length ≤ 10000) : sumT l ≤ l.length * 10000 := by
  induction l with
  | nil => simp [sumT]
  | cons t l ih =>
    have h1 := h t (by simp)
    have h2 := ih (fun t ht => h t (by simp [ht]))
    rw [sumT_cons]; simp only [List.length_cons]; omega
theorem putTwo_any (n : Int) (w : World) :
    Calls Try.prog 73 #[.slice (some ⟨w.heap.size, 0, none⟩) 1 1] (w.alloc (.cells #[.int .i64 n, .int .i64 2] 92)) fun e w' => e = .returned (.string (ba (n16 n))) ∧ Below w.heap.size w w' := by
  have d := put_new [(n, 2)] #[.int .i64 n, .int .i64 2] 92 w (by simp) (by
    intro k p hp
    match k, hp with
    | 0, hp => injection hp with hp; subst hp; exact ⟨rfl, rfl⟩
    | n + 1, hp => simp at hp)
  have e : numsW [(n, 2)] = n16 n := by simp [numsW, numW]
  rw [e] at d; exact d
theorem putFour_any (n : Int) (w : World) :
    Calls Try.prog 73 #[.slice (some ⟨w.heap.size, 0, none⟩) 1 1] (w.alloc (.cells #[.int .i64 n, .int .i64 4] 92)) fun e w' => e = .returned (.string (ba (n32 n))) ∧ Below w.heap.size w w' := by
  have d := put_new [(n, 4)] #[.int .i64 n, .int .i64 4] 92 w (by simp) (by
    intro k p hp
    match k, hp with
    | 0, hp => injection hp with hp; subst hp; exact ⟨rfl, rfl⟩
    | n + 1, hp => simp at hp)
  have e : numsW [(n, 4)] = n32 n := by simp [numsW, numW]
  rw [e] at d; exact d
theorem putFours_any (n m : Int) (w : World) :
    Calls Try.prog 73 #[.slice (some ⟨w.heap.size, 0, none⟩) 2 2] (w.alloc (.cells #[.int .i64 n, .int .i64 4, .int .i64 m, .int .i64 4] 92)) fun e w' => e = .returned (.string (ba (n32 n ++ n32 m))) ∧ Below w.heap.size w w' := by
  have d := put_new [(n, 4), (m, 4)] #[.int .i64 n, .int .i64 4, .int .i64 m, .int .i64 4] 92 w (by simp) (by
    intro k p hp
    match k, hp with
    | 0, hp => injection hp with hp; subst hp; exact ⟨rfl, rfl⟩
    | 1, hp => injection hp with hp; subst hp; exact ⟨rfl, rfl⟩
    | n + 2, hp => simp at hp)
  have e : numsW [(n, 4), (m, 4)] = n32 n ++ n32 m := by simp [numsW, numW]
  rw [e] at d; exact d
section
variable (a : Tell) (kv vv nv : Value) (w : World)
theorem wnothing_any : Calls Try.prog 54 #[.agg (tellV a kv vv nv)] w (WrP (bodyD .nothing a) w) := by
  unfold tellV u8
  go_enter Try.func54, Try.ntmps54
  go_wp2
  go_ret
  exact ⟨rfl, by first | exact Below.refl _ _ | exact (Below.refl _ _).alloc (Nat.le_refl _) _⟩
theorem wdone_any (f : Few a) : Calls Try.prog 44 #[.agg (tellV a kv vv nv)] w (WrP (bodyD .done a) w) := by
  have d := fun w => putText_any (ba []) (ba a.text) w (by rw [ba_size]; simp) (by rw [ba_size]; have := f.text; omega)
  rw [putText_ba, List.nil_append, show ba [] = ⟨#[]⟩ from rfl] at d
  unfold tellV u8
  go_enter Try.func44, Try.ntmps44
  go_wp2_with (go_at_call 78; refine (d _).mono ?_; rintro e w1 ⟨rfl, hb1⟩)
  go_ret
  exact ⟨rfl, bel hb1⟩
theorem conv1 (w : World) (k : UInt8) : (convert 63 9 (.slice (some ⟨w.heap.size, 0, none⟩) 1 1)).run Try.prog (w.alloc (.cells #[.int .u8 (k.toNat : Int)] 5)) = .ok (.string (ba [k])) (w.alloc (.cells #[.int .u8 (k.toNat : Int)] 5)) := conv_one w k
theorem wstatus_any : Calls Try.prog 42 #[.agg (tellV a kv vv nv)] w (WrP (bodyD .status a) w) := by
  have hcv : ∀ cs : Array Value, (convert 63 9 (.slice (some ⟨w.heap.size + 1, 0, none⟩) 1 1)).run Try.prog ((w.alloc (.cells cs 28)).alloc (.cells #[.int .u8 (a.status.toNat : Int)] 5)) = .ok (.string (ba [a.status])) ((w.alloc (.cells cs 28)).alloc (.cells #[.int .u8 (a.status.toNat : Int)] 5)) := fun cs => by
    have h := conv1 (w.alloc (.cells cs 28)) a.status
    rw [show (w.alloc (.cells cs 28)).heap.size = w.heap.size + 1 by simp] at h
    exact h
  unfold tellV u8
  go_enter Try.func42, Try.ntmps42
  go_wp2
  go_ret
  exact ⟨rfl, ((Below.refl _ _).alloc (Nat.le_refl _) _).alloc (by simp) _⟩
theorem wlogin_any : Calls Try.prog 38 #[.agg (tellV a kv vv nv)] w (WrP (bodyD .login a) w) := by
  unfold tellV u8
  go_enter Try.func38, Try.ntmps38
  go_wp2_with fail
  refine (four_any _ _).mono ?_; rintro e w1 ⟨rfl, hb1⟩
  go_wp2_with fail
  refine (putFour_any _ _).mono ?_; rintro e w2 ⟨rfl, hb2⟩
  go_wp2
  go_ret
  exact ⟨rfl, (bel hb1).trans (hb2.mono (bel hb1).size)⟩
end
end Go.Proofs.Ytnjifbgjglniaaa.BK
