/- What each call of package frame does, for every input: what Right, Put, New, Feed, Rest, Bad and Copy answer; which memory they turn. Condition: the bytes that wait, and the text that is fed, are together of at most 2^40 bytes. -/
import Derived.Test.YtnjifbgjglniaaaFrw
import Derived.Deep.Cut
import Derived.Deep.Draws
import Derived.Laws.Rows
import Derived.WalkSpells
import Derived.LaidEqlPtr
namespace Go.Proofs.Ytnjifbgjglniaaa
open Go.ChangeShapes Go.WideShapes Go.ChangeAt Go.RowKit
set_option linter.unusedVariables false

/-- block g is just these cells -/
def Blk (w : World) (g : Nat) (t : TypeId) (cs : Array Value) : Prop := w.heap[g]? = some (.cells cs t (0, 0))
section
variable {w w' : World} {g : Nat} {t : TypeId} {cs : Array Value}
theorem Blk.lt (h : Blk w g t cs) : g < w.heap.size := (Array.getElem?_eq_some_iff.1 h).1
theorem Blk.cell (h : Blk w g t cs) (i : Nat) : w.cell? ⟨g, i, none⟩ = cs[i]? := cell_of_row w g i cs t (0, 0) h
theorem Blk.frozen (h : Blk w g t cs) (i : Nat) : w.frozen? ⟨g, i, none⟩ = false := by
  unfold Blk at h
  simp [World.frozen?, h]
theorem Blk.new (w : World) (t : TypeId) (cs : Array Value) : Blk (w.alloc (.cells cs t)) w.heap.size t cs := heap_alloc_new w _
theorem Blk.drewN (h : Blk w g t cs) (n : Nat) : Blk (w.drewN n) g t cs := h
theorem Blk.alloc (h : Blk w g t cs) (o : Obj) : Blk (w.alloc o) g t cs := (Below.heap_alloc w o g h.lt).trans h
theorem Blk.set_ (h : Blk w g t cs) (i : Nat) (u : Value) : Blk (w.setCell ⟨g, i, none⟩ u) g t (cs.setIfInBounds i u) := by
  unfold Blk at h ⊢
  simp [World.setCell, Array.getElem?_modify, h]
theorem Blk.far (h : Blk w g t cs) {p : Addr} (hp : g ≠ p.block) (u : Value) : Blk (w.setCell p u) g t cs := (Below.heap_setCell w p u g hp).trans h
theorem Blk.below {B : Nat} (h : Blk w g t cs) (hb : Below B w w') (hg : g < B) : Blk w' g t cs := (hb.block g hg).trans h
theorem Blk.grown {row : Option Nat} (h : Blk w g t cs) (hb : w.grownBy w' row) (hg : some g ≠ row) : Blk w' g t cs := (hb.block g h.lt hg).trans h
theorem Blk.ne_ {g' : Nat} {t' : TypeId} {cs' : Array Value} (h : Blk w g t cs) (h' : Blk w g' t' cs') (hne : t ≠ t') : g ≠ g' := by
  rintro rfl
  unfold Blk at h h'
  rw [h] at h'
  injection h' with h'
  injection h' with _ ht
  exact hne ht
end

theorem named_any (k : UInt8) (w : World) :
    Calls Try.prog 55 #[.int .u8 (k.toNat : Int)] w fun e w' => e = .returned (.bool (namedB k)) ∧ w' = w := by
  have hk := k.toNat_lt
  have e : namedB k = decide (33 ≤ k.toNat ∧ k.toNat ≤ 126) := rfl
  rw [e]; clear e
  generalize k.toNat = n at *
  by_cases h0 : 33 ≤ n
  · by_cases h1 : n ≤ 126
    · have a1 : decide ((33 : Int) ≤ n) = true := by simp; omega
      have a2 : decide ((n : Int) ≤ 126) = true := by simp; omega
      go_enter Try.func55, Try.ntmps55
      go_wp2
      go_ret
      exact ⟨by simp [h0, h1], rfl⟩
    · have a1 : decide ((33 : Int) ≤ n) = true := by simp; omega
      have a2 : decide ((n : Int) ≤ 126) = false := by simp; omega
      go_enter Try.func55, Try.ntmps55
      go_wp2
      go_ret
      exact ⟨by simp [h1], rfl⟩
  · have a1 : decide ((33 : Int) ≤ n) = false := by simp; omega
    go_enter Try.func55, Try.ntmps55
    go_wp2
    go_ret
    exact ⟨by simp [h0], rfl⟩

/-- the text of a slice of bytes -/
theorem conv_row (w : World) (h off cap : Nat) (l : List UInt8) (r : Row w h off l) : (convert 63 9 (.slice (some ⟨h, off, none⟩) l.length cap)).run Try.prog w = .ok (.string (ba l)) w := by
  refine run_convert_bytes_back (P := Try.prog) w 63 9 5 ⟨h, off, none⟩ cap l Try.underlying63 Try.underlying5 Try.underlying9 ?_
  intro j hj
  rw [Addr.add_lit]
  exact r.cell j hj

theorem conv_part (w : World) (h off cap n : Nat) (l : List UInt8) (r : Row w h off l) (hn : l.length = n) : (convert 63 9 (.slice (some ⟨h, off, none⟩) n cap)).run Try.prog w = .ok (.string (ba l)) w := by
  subst hn; exact conv_row w h off cap l r
theorem conv_nil (w : World) : (convert 63 9 (.slice none 0 0)).run Try.prog w = .ok (.string ⟨#[]⟩) w := by
  rw [run_convert_bytes_string w 63 9 5 none 0 0 Try.underlying63 Try.underlying5 Try.underlying9]
  rfl
end Go.Proofs.Ytnjifbgjglniaaa
