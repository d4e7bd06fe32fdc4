/- Seo Sep Seq -/
import Derived.Test.YtjmmninopagpjaaGreatDoorG29
import Derived.Deep.RegionWith
import Derived.Deep.RegionHeld3
import Derived.Test.YtjmmninopagpjaaGreatDoorG31
import Derived.Test.YtjmmninopagpjaaGreatDoorG1
set_option linter.unusedSimpArgs false
set_option linter.unusedVariables false
namespace Go.Proofs.YtjmmninopagpjaaGreatDoor
open Go.ChangeShapes Go.WideShapes Go.ChangeAt Go.RowKit
set_option maxRecDepth 100000
set_option linter.unusedVariables false
set_option linter.unusedSimpArgs false

def SRT (w : World) (v : Value) (d : List Tx) : Prop :=
 (∃ A cap,v = .slice A 0 cap ∧ d = []) ∨
 ∃ h off cap,v = .slice (some ⟨h,off,none⟩) d.length cap ∧ d.length ≤ cap ∧ ∀ (i : Nat) (x : Tx),d[i]? = some x → w.cell? ⟨h,off + i,none⟩ = some (sV x)
theorem SRT.at_ {w : World} {v : Value} {d : List Tx} (h : SRT w v d) : ∃ a cap,v = .slice a d.length cap ∧ (d.length = 0 ∨ ∃ g off,a = some ⟨g,off,none⟩ ∧ d.length ≤ cap ∧ ∀ k (hk : k < d.length),w.cell? ⟨g,off + k,none⟩ = some (sV d[k])) := by
 rcases h with ⟨A,cap,rfl,rfl⟩ | ⟨g,off,cap,rfl,hc,hx⟩
 ·exact ⟨_,_,rfl,.inl rfl⟩
 ·exact ⟨_,_,rfl,.inr ⟨g,off,rfl,hc,fun k hk => hx k d[k] (List.getElem?_eq_getElem hk)⟩⟩


end Go.Proofs.YtjmmninopagpjaaGreatDoor
