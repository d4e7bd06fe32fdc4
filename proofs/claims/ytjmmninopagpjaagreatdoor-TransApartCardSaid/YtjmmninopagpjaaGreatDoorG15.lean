/- Lyc Lzq -/
import Derived.Test.YtjmmninopagpjaaGreatDoorG14
import Derived.Test.YtjmmninopagpjaaGreatDoorG1
set_option linter.unusedSimpArgs false
set_option linter.unusedVariables false
namespace Go.Proofs.YtjmmninopagpjaaGreatDoor
open Go.ChangeShapes Go.WideShapes Go.ChangeAt Go.RowKit
set_option maxRecDepth 100000
set_option linter.unusedVariables false
set_option linter.unusedSimpArgs false

theorem TR.block {w : World} {h : Nat} {l : List Tok} {T : TypeId} (hb : w.heap[h]? = some (.cells (tokRow l).toArray T (0,0))) : TR w (.slice (some ⟨h,0,none⟩) l.length l.length) l := by
 refine .inr ⟨h,0,l.length,rfl,Nat.le_refl _,fun i t hi => ?_⟩
 obtain ⟨a,b,c⟩ := tokRow_get l i t hi
 simp only [Nat.zero_add]
 refine ⟨?_,?_,?_⟩ <;> rw [Lib.cell_of_heap hb] <;> simpa using (by assumption)
theorem TR.inv {w : World} {v : Value} {l : List Tok} (h : TR w v l) (n : Nat) (hn : l.length = n) (hp : 0 < n) : ∃ g off cap,v = .slice (some ⟨g,off,none⟩) n cap ∧ n ≤ cap ∧ ∀ (i : Nat) (t : Tok),l[i]? = some t →
  w.cell? ⟨g,off + i * 3,none⟩ = some (.int .i64 t.1) ∧ w.cell? ⟨g,off + i * 3 + 1,none⟩ = some (.string t.2.1) ∧ w.cell? ⟨g,off + i * 3 + 2,none⟩ = some (.int .i64 t.2.2) := by
 subst hn
 rcases h with ⟨A,cap,_,rfl⟩ | ⟨g,off,cap,e,hc,hx⟩
 ·simp at hp
 ·exact ⟨g,off,cap,e,hc,hx⟩
def ScanQ (w : World) (v : Value) (r : List Tok) (w' : World) : Prop := TR w' v r ∧ Below w.heap.size w w'
theorem scan_out (s : ByteArray) (r : List Tok × Int × Int) (e : scanA s = r) (m : Int) (w : World) (hm : Wd m w) :
  Calls Tryz.prog 76 #[.string s] w fun e w' => ∃ v,e = .returned (.tuple #[v,.int .i64 r.2.1,.int .i64 r.2.2]) ∧ ScanQ w v r.1 w' := by
 subst e
 exact (scan_any s m w hm).mono fun e w' ⟨v,h1,h2,h3⟩ => ⟨v,h1,TR.own h2,h3⟩

theorem scanA_F (s : ByteArray) (h : s.size ≤ 2000) : scanA s = scanF s 0 [] := if_neg (by omega)
end Go.Proofs.YtjmmninopagpjaaGreatDoor
