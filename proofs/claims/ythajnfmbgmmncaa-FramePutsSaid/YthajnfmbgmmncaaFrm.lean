/- What each call of package frame does, for every input: what Right, Put, New, Feed, Rest, Bad and Copy answer; which memory they turn. Condition: the bytes that wait, and the text that is fed, are together of at most 2^40 bytes. -/
import Derived.Test.YthajnfmbgmmncaaFrw
import Derived.Deep.Cut
import Derived.Deep.Draws
import Derived.Laws.Rows
import Derived.WalkSpells
import Derived.LaidEqlPtr
namespace Go.Proofs.Ythajnfmbgmmncaa
open Go.ChangeShapes Go.WideShapes Go.ChangeAt Go.RowKit
set_option linter.unusedVariables false

/-- block g is just these cells -/
def Blk (w : World) (g : Nat) (t : TypeId) (cs : Array Value) : Prop := w.heap[g]? = some (.cells cs t (0, 0))
section
variable {w w' : World} {g : Nat} {t : TypeId} {cs : Array Value}
theorem Blk.lt (h : Blk w g t cs) : g < w.heap.size := (Array.getElem?_eq_some_iff.1 h).1
theorem Blk.cell (h : Blk w g t cs) (i : Nat) : w.cell? ⟨g, i, none⟩ = cs[i]? := cell_of_row w g i cs t (0, 0) h
theorem Blk.frozen (h : Blk w g t cs) (i : Nat) : w.frozen? ⟨g, i, none⟩ = false := by
  unfold Blk at h
  simp [World.frozen?, h]
theorem Blk.new (w : World) (t : TypeId) (cs : Array Value) : Blk (w.alloc (.cells cs t)) w.heap.size t cs := heap_alloc_new w _
theorem Blk.drewN (h : Blk w g t cs) (n : Nat) : Blk (w.drewN n) g t cs := h
theorem Blk.alloc (h : Blk w g t cs) (o : Obj) : Blk (w.alloc o) g t cs := (Below.heap_alloc w o g h.lt).trans h
theorem Blk.set_ (h : Blk w g t cs) (i : Nat) (u : Value) : Blk (w.setCell ⟨g, i, none⟩ u) g t (cs.setIfInBounds i u) := by
  unfold Blk at h ⊢
  simp [World.setCell, Array.getElem?_modify, h]
theorem Blk.far (h : Blk w g t cs) {p : Addr} (hp : g ≠ p.block) (u : Value) : Blk (w.setCell p u) g t cs := (Below.heap_setCell w p u g hp).trans h
theorem Blk.below {B : Nat} (h : Blk w g t cs) (hb : Below B w w') (hg : g < B) : Blk w' g t cs := (hb.block g hg).trans h
theorem Blk.grown {row : Option Nat} (h : Blk w g t cs) (hb : w.grownBy w' row) (hg : some g ≠ row) : Blk w' g t cs := (hb.block g h.lt hg).trans h
theorem Blk.ne_ {g' : Nat} {t' : TypeId} {cs' : Array Value} (h : Blk w g t cs) (h' : Blk w g' t' cs') (hne : t ≠ t') : g ≠ g' := by
  rintro rfl
  unfold Blk at h h'
  rw [h] at h'
  injection h' with h'
  injection h' with _ ht
  exact hne ht
end

/-- a reader of package frame at block g: what waits, whether a first message is next, what was wrong -/
def Rd (w : World) (g : Nat) (l : List UInt8) (f : Bool) (e : Int) : Prop :=
  ∃ v, Blk w g 47 #[.pointer (some ⟨g, 0, none⟩), .bool f, v, .int .i64 e] ∧ TB w v l

theorem named_any (k : UInt8) (w : World) :
    Calls Try.prog 23 #[.int .u8 (k.toNat : Int)] w fun e w' => e = .returned (.bool (namedB k)) ∧ w' = w := by
  have hk := k.toNat_lt
  have e : namedB k = decide (33 ≤ k.toNat ∧ k.toNat ≤ 126) := rfl
  rw [e]; clear e
  generalize k.toNat = n at *
  by_cases h0 : 33 ≤ n
  · by_cases h1 : n ≤ 126
    · have a1 : decide ((33 : Int) ≤ n) = true := by simp; omega
      have a2 : decide ((n : Int) ≤ 126) = true := by simp; omega
      go_enter Try.func23, Try.ntmps23
      go_wp2
      go_ret
      exact ⟨by simp [h0, h1], rfl⟩
    · have a1 : decide ((33 : Int) ≤ n) = true := by simp; omega
      have a2 : decide ((n : Int) ≤ 126) = false := by simp; omega
      go_enter Try.func23, Try.ntmps23
      go_wp2
      go_ret
      exact ⟨by simp [h1], rfl⟩
  · have a1 : decide ((33 : Int) ≤ n) = false := by simp; omega
    go_enter Try.func23, Try.ntmps23
    go_wp2
    go_ret
    exact ⟨by simp [h0], rfl⟩

theorem rinfo : ∃ j, Try.prog.info? 47 = some j := Option.isSome_iff_exists.1 (by kernel_rfl)
theorem eql_same (w : World) (a : Addr) : (binOp .eql 24 (.pointer (some a)) (.pointer (some a))).run Try.prog w = .ok (.bool true) w := by
  obtain ⟨j, hj⟩ := rinfo
  exact run_eql_ptr_same (P := Try.prog) w a Try.underlying24 hj
theorem eql_none (w : World) (a : Addr) : (binOp .eql 24 (.pointer none) (.pointer (some a))).run Try.prog w = .ok (.bool false) w := by
  have h : ∀ d : Nat, (Op.equalIn (d + 1) 24 (.pointer none) (.pointer (some a))).run Try.prog w = .ok false w := fun d => by
    simp [Op.equalIn, run_underlying Try.underlying24]
  simp only [binOp]
  simp [Op.equal, Op.maxDepth, h 9999]

theorem given_yes (w : World) (g : Nat) (a b c : Value) (h : Blk w g 47 #[.pointer (some ⟨g, 0, none⟩), a, b, c]) :
    Calls Try.prog 20 #[.pointer (some ⟨g, 0, none⟩)] w fun e w' => e = .returned (.bool true) ∧ w' = w := by
  have c0 : w.cell? ⟨g, 0, none⟩ = some (.pointer (some ⟨g, 0, none⟩)) := h.cell 0
  have he := fun w => eql_same w ⟨g, 0, none⟩
  go_enter Try.func20, Try.ntmps20
  go_wp2
  go_ret
  exact ⟨rfl, rfl⟩
theorem given_nil (w : World) :
    Calls Try.prog 20 #[.pointer none] w fun e w' => e = .returned (.bool false) ∧ w' = w := by
  go_enter Try.func20, Try.ntmps20
  go_wp2
  go_ret
  exact ⟨rfl, rfl⟩
theorem given_zero (w : World) (g : Nat) (h : w.cell? ⟨g, 0, none⟩ = some (.pointer none)) :
    Calls Try.prog 20 #[.pointer (some ⟨g, 0, none⟩)] w fun e w' => e = .returned (.bool false) ∧ w' = w := by
  have he := fun w => eql_none w ⟨g, 0, none⟩
  go_enter Try.func20, Try.ntmps20
  go_wp2
  go_ret
  exact ⟨rfl, rfl⟩

theorem bad_yes (w : World) (g : Nat) (l : List UInt8) (f : Bool) (x : Int) (h : Rd w g l f x) :
    Calls Try.prog 15 #[.pointer (some ⟨g, 0, none⟩)] w fun e w' => e = .returned (.int .i64 x) ∧ w' = w := by
  obtain ⟨v, hb, _⟩ := h
  have c3 : w.cell? ⟨g, 3, none⟩ = some (.int .i64 x) := hb.cell 3
  go_enter Try.func15, Try.ntmps15
  go_wp2_with (go_at_call 20; refine (given_yes _ _ _ _ _ hb).mono ?_; rintro e w' ⟨rfl, rfl⟩)
  go_ret
  exact ⟨rfl, rfl⟩
theorem bad_nil (w : World) :
    Calls Try.prog 15 #[.pointer none] w fun e w' => e = .returned (.int .i64 12) ∧ w' = w := by
  go_enter Try.func15, Try.ntmps15
  go_wp2_with (go_at_call 20; refine (given_nil _).mono ?_; rintro e w' ⟨rfl, rfl⟩)
  go_ret
  exact ⟨rfl, rfl⟩
theorem bad_zero (w : World) (g : Nat) (h : w.cell? ⟨g, 0, none⟩ = some (.pointer none)) :
    Calls Try.prog 15 #[.pointer (some ⟨g, 0, none⟩)] w fun e w' => e = .returned (.int .i64 12) ∧ w' = w := by
  go_enter Try.func15, Try.ntmps15
  go_wp2_with (go_at_call 20; refine (given_zero _ _ h).mono ?_; rintro e w' ⟨rfl, rfl⟩)
  go_ret
  exact ⟨rfl, rfl⟩

/-- the text of a slice of bytes -/
theorem conv_row (w : World) (h off cap : Nat) (l : List UInt8) (r : Row w h off l) : (convert 45 9 (.slice (some ⟨h, off, none⟩) l.length cap)).run Try.prog w = .ok (.string (ba l)) w := by
  refine run_convert_bytes_back (P := Try.prog) w 45 9 5 ⟨h, off, none⟩ cap l Try.underlying45 Try.underlying5 Try.underlying9 ?_
  intro j hj
  rw [Addr.add_lit]
  exact r.cell j hj

theorem conv_part (w : World) (h off cap n : Nat) (l : List UInt8) (r : Row w h off l) (hn : l.length = n) : (convert 45 9 (.slice (some ⟨h, off, none⟩) n cap)).run Try.prog w = .ok (.string (ba l)) w := by
  subst hn; exact conv_row w h off cap l r
theorem conv_nil (w : World) : (convert 45 9 (.slice none 0 0)).run Try.prog w = .ok (.string ⟨#[]⟩) w := by
  rw [run_convert_bytes_string w 45 9 5 none 0 0 Try.underlying45 Try.underlying5 Try.underlying9]
  rfl
theorem rest_yes (w : World) (g : Nat) (l : List UInt8) (f : Bool) (x : Int) (h : Rd w g l f x) :
    Calls Try.prog 14 #[.pointer (some ⟨g, 0, none⟩)] w fun e w' => e = .returned (.string (ba l)) ∧ w' = w := by
  obtain ⟨v, hb, hv⟩ := h
  have c2 : w.cell? ⟨g, 2, none⟩ = some v := hb.cell 2
  rcases hv with ⟨rfl, rfl⟩ | ⟨h, off, rfl, hr, hm⟩
  · have hc := conv_nil w
    go_enter Try.func14, Try.ntmps14
    go_wp2_with (go_at_call 20; refine (given_yes _ _ _ _ _ hb).mono ?_; rintro e w' ⟨rfl, rfl⟩)
    go_ret
    exact ⟨rfl, rfl⟩
  · have hc := conv_row w h off l.length l hr
    go_enter Try.func14, Try.ntmps14
    go_wp2_with (go_at_call 20; refine (given_yes _ _ _ _ _ hb).mono ?_; rintro e w' ⟨rfl, rfl⟩)
    go_ret
    exact ⟨rfl, rfl⟩
theorem rest_nil (w : World) :
    Calls Try.prog 14 #[.pointer none] w fun e w' => e = .returned (.string ⟨#[]⟩) ∧ w' = w := by
  go_enter Try.func14, Try.ntmps14
  go_wp2_with (go_at_call 20; refine (given_nil _).mono ?_; rintro e w' ⟨rfl, rfl⟩)
  go_ret
  exact ⟨rfl, rfl⟩
theorem rest_zero (w : World) (g : Nat) (h : w.cell? ⟨g, 0, none⟩ = some (.pointer none)) :
    Calls Try.prog 14 #[.pointer (some ⟨g, 0, none⟩)] w fun e w' => e = .returned (.string ⟨#[]⟩) ∧ w' = w := by
  go_enter Try.func14, Try.ntmps14
  go_wp2_with (go_at_call 20; refine (given_zero _ _ h).mono ?_; rintro e w' ⟨rfl, rfl⟩)
  go_ret
  exact ⟨rfl, rfl⟩

theorem copy_nil (w : World) :
    Calls Try.prog 10 #[.pointer none] w fun e w' => e = .returned (.pointer none) ∧ w' = w := by
  go_enter Try.func10, Try.ntmps10
  go_wp2_with (go_at_call 20; refine (given_nil _).mono ?_; rintro e w' ⟨rfl, rfl⟩)
  go_ret
  exact ⟨rfl, rfl⟩
theorem copy_zero (w : World) (g : Nat) (h : w.cell? ⟨g, 0, none⟩ = some (.pointer none)) :
    Calls Try.prog 10 #[.pointer (some ⟨g, 0, none⟩)] w fun e w' => e = .returned (.pointer none) ∧ w' = w := by
  go_enter Try.func10, Try.ntmps10
  go_wp2_with (go_at_call 20; refine (given_zero _ _ h).mono ?_; rintro e w' ⟨rfl, rfl⟩)
  go_ret
  exact ⟨rfl, rfl⟩
/-- a new reader, in new memory -/
def NewPost (l : List UInt8) (f : Bool) (x : Int) (w : World) (e : Ending) (w' : World) : Prop :=
  ∃ g, e = .returned (.pointer (some ⟨g, 0, none⟩)) ∧ w.heap.size ≤ g ∧ Rd w' g l f x ∧ Below w.heap.size w w'

theorem new_any (f : Bool) (w : World) : Calls Try.prog 9 #[.bool f] w (NewPost [] f 0 w) := by
  go_enter Try.func9, Try.ntmps9
  go_wp2
  go_ret
  exact ⟨w.heap.size, rfl, Nat.le_refl _, ⟨_, Blk.new w _ _, .inl ⟨rfl, rfl⟩⟩, (Below.refl _ _).alloc (Nat.le_refl _) _⟩

theorem copy_yes (w : World) (g : Nat) (l : List UInt8) (f : Bool) (x : Int) (h : Rd w g l f x) :
    Calls Try.prog 10 #[.pointer (some ⟨g, 0, none⟩)] w (NewPost l f x w) := by
  obtain ⟨v, hb, hv⟩ := h
  have c0 : w.cell? ⟨g, 0, none⟩ = some (.pointer (some ⟨g, 0, none⟩)) := hb.cell 0
  have c1 : w.cell? ⟨g, 1, none⟩ = some (.bool f) := hb.cell 1
  have c2 : w.cell? ⟨g, 2, none⟩ = some v := hb.cell 2
  have c3 : w.cell? ⟨g, 3, none⟩ = some (.int .i64 x) := hb.cell 3
  have hlt := hb.lt
  have ht : TB (w.alloc (.cells #[.pointer (some ⟨w.heap.size, 0, none⟩), .bool f, v, .int .i64 x] 47)) v l := hv.stay (Stay.alloc _ _)
  rcases hv with ⟨rfl, rfl⟩ | ⟨h, off, rfl, hr, hm⟩
  all_goals
    go_enter Try.func10, Try.ntmps10
    go_wp2_with (go_at_call 20; refine (given_yes _ _ _ _ _ hb).mono ?_; rintro e w' ⟨rfl, rfl⟩)
    go_ret
    exact ⟨w'.heap.size, rfl, Nat.le_refl _, ⟨_, Blk.new w' _ _, ht⟩, (Below.refl _ _).alloc (Nat.le_refl _) _⟩
end Go.Proofs.Ythajnfmbgmmncaa
