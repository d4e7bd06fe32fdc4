/- Scan of every text; what the law's known calls tell. Condition: the word of bytealg. -/
import Derived.Test.YtlmgggipkdmdfaaDoorLxt
import Derived.Test.YtlmgggipkdmdfaaDoorLxz
import Derived.Test.YtlmgggipkdmdfaaDoorLya
import Derived.KernelRfl
namespace Go.Proofs.YtlmgggipkdmdfaaDoor
open Go.ChangeShapes Go.WideShapes Go.ChangeAt Go.RowKit
set_option linter.unusedVariables false
set_option linter.unusedSimpArgs false

/-- what Scan answers -/
def scanA (s : ByteArray) : List Tok × Int × Int := if 2000 < s.size then ([], 2, 2000) else scanN (s.size + 1) s 0 []
theorem scan_any (s : ByteArray) (m : Int) (w : World) (hm : Wd m w) :
    Calls Tryd.prog 9 #[.string s] w (ScanP w (scanA s)) := by
  by_cases h : 2000 < s.size
  · have e : scanA s = ([], 2, 2000) := if_pos h
    rw [e]
    have hl : (2000 : Int) < (s.size : Int) := by omega
    clear e
    go_enter Tryd.func9, Tryd.ntmps9
    go_wp2
    go_step3
    go_wp2
    try rw [Exit.noGoto_ret]
    go_ret3
    exact ⟨_, rfl, World.ownsRow_nil _ _ _ _, Below.refl _ _⟩
  · exact scan_small s m w (by omega) hm _ (if_neg h)
abbrev kn1 : ByteArray := ⟨#[83, 69, 76, 69, 67, 84, 32, 97, 36, 49, 32, 70, 82, 79, 77, 32, 34, 84, 34, 34, 120, 34, 32, 45, 45, 32, 120, 10, 44, 32, 36, 120, 36, 105, 116, 39, 115, 36, 120, 36, 32, 47, 42, 32, 97, 32, 47, 42, 32, 98, 32, 42, 47, 32, 99, 32, 42, 47, 32, 36, 49]⟩
abbrev kn2 : ByteArray := ⟨#[97, 32, 39, 98, 39, 39]⟩
abbrev kn3 : ByteArray := ⟨#[97, 32, 92]⟩
def knL : List Tok := [(1, ⟨#[115, 101, 108, 101, 99, 116]⟩, 0), (1, ⟨#[97, 36, 49]⟩, 7), (1, ⟨#[102, 114, 111, 109]⟩, 11), (2, ⟨#[84, 34, 120]⟩, 16), (5, ⟨#[44]⟩, 28), (3, ⟨#[105, 116, 39, 115]⟩, 30), (5, ⟨#[36, 49]⟩, 59)]
def knW : List Tok := [(1, ⟨#[115, 101, 108, 101, 99, 116]⟩, 0), (1, ⟨#[97, 36, 49]⟩, 0), (1, ⟨#[102, 114, 111, 109]⟩, 0), (2, ⟨#[84, 34, 120]⟩, 0), (5, ⟨#[44]⟩, 0), (3, ⟨#[105, 116, 39, 115]⟩, 0), (5, ⟨#[36, 49]⟩, 0)]
theorem kn1_eq : scanA kn1 = (knL, 0, 0) := by kernel_rfl
theorem kn2_eq : scanA kn2 = ([], 6, 2) := by kernel_rfl
theorem kn3_eq : scanA kn3 = ([], 7, 2) := by kernel_rfl
theorem kns_eq : bb (showL knL) = ⟨#[115, 101, 108, 101, 99, 116, 32, 97, 36, 49, 32, 102, 114, 111, 109, 32, 34, 84, 34, 34, 120, 34, 32, 44, 32, 39, 105, 116, 39, 39, 115, 39, 32, 36, 49]⟩ := by kernel_rfl
theorem kn_split : splitL [(5, ⟨#[59]⟩, 0), (1, ⟨#[97]⟩, 0)] = [[(1, ⟨#[97]⟩, 0)]] := by kernel_rfl
theorem kn_alike : Alike false knL knW := by
  refine ⟨rfl, ?_⟩
  have h : ((List.range 7).all fun i => decide ((knL[i]?).map (fun x => (x.1, x.2.1.data.toList)) = (knW[i]?).map (fun x => (x.1, x.2.1.data.toList)))) = true := by kernel_rfl
  intro i x y hx hy
  have hlt : i < 7 := (List.getElem?_eq_some_iff.1 hx).1
  have := of_decide_eq_true (List.all_eq_true.1 h i (List.mem_range.2 hlt))
  rw [hx, hy] at this
  simp only [Option.map_some, Option.some.injEq, Prod.mk.injEq] at this
  refine ⟨this.1, ?_, fun h => by cases h⟩
  apply ByteArray.ext
  exact Array.ext' this.2
theorem kn_at : ∃ t, knL[3]? = some t ∧ t.2.2 = 16 := ⟨_, rfl, rfl⟩
theorem kn_small : ∀ t ∈ knL, t.2.1.size ≤ 65536 := by
  have h : (knL.all fun t => decide (t.2.1.size ≤ 65536)) = true := by kernel_rfl
  exact fun t ht => of_decide_eq_true (List.all_eq_true.1 h t ht)
end Go.Proofs.YtlmgggipkdmdfaaDoor
