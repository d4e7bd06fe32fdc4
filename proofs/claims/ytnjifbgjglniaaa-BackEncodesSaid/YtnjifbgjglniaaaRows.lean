/-
  No cell of these rows narrows 'for every input' (looked for: loops, veiled, ifaces, maps, wideKeys, modest, calm, conditions, laid).
  DERIVED. THE GIVEN ROWS OF THIS SEAT. 5 by the template 'for every input the law returns true; each argument reads behind the call as it read before'; 0 by the template 'total and deterministic' (their statements: YtnjifbgjglniaaaTotals.lean).
  GIVEN WITH THE SEED: the statements are not yours to turn. If you find one false, say at which input.
  Laid BY PROGRAM, IN A SANDBOX (cutbox-rows.mjs): the forced cells as the released guide's own fill.sh prints them over the translation 40eb3b6b23f439f4… (all of the seat's roots in one cut). By AI agents, Wed Nov 11 2026. No macro, syntax, notation, axiom, sorry.
-/
import Derived.Test.YtnjifbgjglniaaaChecked
import GoSem.Claim
import GoSem.ClaimJoined
import GoSem.ClaimMapViews
import Derived.JoinedTies
import Derived.KernelRfl
namespace Go.Proofs.Ytnjifbgjglniaaa
/- THE CELL 'sum', in the pinned program and in every row, IS THE sha256 OF THE DUMP (.gsa) THAT YtnjifbgjglniaaaProg.lean LOADS. Nothing in Lean hashes anything: it is a label: what it is worth is what the hold of that sum in a sandbox is worth. -/
noncomputable def Try.pinned : Pinned := { name := "ytnjifbgjglniaaa", sum := "40eb3b6b23f439f40490b9e434641be3f6b2ee97e2f86d4741a8fdb3d42e255b", checked := Try.checked }
namespace Rows
def none {H : Type} : Left H := { results := [], args := [] }

/-- 'pontoonlaw20.BackDecodes': WHATEVER THE INPUT: true; the input reads as it did. -/
def backDecodesSpec : ChangeSpec := { name := "backDecodes", fn := fun _ => fun
  | [d] => { results := [.lit (.bool true)], args := [d] }
  | _ => none }
def backDecodesRow : OpenClaim := { program := "ytnjifbgjglniaaa", sum := "40eb3b6b23f439f40490b9e434641be3f6b2ee97e2f86d4741a8fdb3d42e255b", func := "pontoon/pontoonlaw20.BackDecodes", spec := "backDecodes", inPlace := ["internal/bytealg.IndexByteString", "internal/bytealg.IndexString", "internal/abi.NoEscape"], unfollowed := true, recurses := true, named := ["internal/bytealg.MaxLen"], apart := false }
def BackDecodesSaid : Prop := backDecodesRow.holds Try.pinned (OpenSpec.ofChange backDecodesSpec)

/-- ITS FALSE NEIGHBOUR: 'it returns false'. Refute it at one input. -/
def backDecodesWrong : ChangeSpec := { name := "backDecodes", fn := fun _ => fun
  | [d] => { results := [.lit (.bool false)], args := [d] }
  | _ => none }
def BackDecodesWrongFalsely : Prop := backDecodesRow.holds Try.pinned (OpenSpec.ofChange backDecodesWrong)

/-- 'pontoonlaw20.BackEncodes': WHATEVER THE INPUT: true; the input reads as it did. -/
def backEncodesSpec : ChangeSpec := { name := "backEncodes", fn := fun _ => fun
  | [d] => { results := [.lit (.bool true)], args := [d] }
  | _ => none }
def backEncodesRow : OpenClaim := { program := "ytnjifbgjglniaaa", sum := "40eb3b6b23f439f40490b9e434641be3f6b2ee97e2f86d4741a8fdb3d42e255b", func := "pontoon/pontoonlaw20.BackEncodes", spec := "backEncodes", inPlace := ["internal/bytealg.IndexByteString", "internal/bytealg.IndexString", "internal/abi.NoEscape"], unfollowed := true, recurses := true, named := ["internal/bytealg.MaxLen"], apart := false }
def BackEncodesSaid : Prop := backEncodesRow.holds Try.pinned (OpenSpec.ofChange backEncodesSpec)

/-- ITS FALSE NEIGHBOUR: 'it returns false'. Refute it at one input. -/
def backEncodesWrong : ChangeSpec := { name := "backEncodes", fn := fun _ => fun
  | [d] => { results := [.lit (.bool false)], args := [d] }
  | _ => none }
def BackEncodesWrongFalsely : Prop := backEncodesRow.holds Try.pinned (OpenSpec.ofChange backEncodesWrong)

/-- 'pontoonlaw20.BackReads': WHATEVER THE INPUT: true; the input reads as it did. -/
def backReadsSpec : ChangeSpec := { name := "backReads", fn := fun _ => fun
  | [d1, d2] => { results := [.lit (.bool true)], args := [d1, d2] }
  | _ => none }
def backReadsRow : OpenClaim := { program := "ytnjifbgjglniaaa", sum := "40eb3b6b23f439f40490b9e434641be3f6b2ee97e2f86d4741a8fdb3d42e255b", func := "pontoon/pontoonlaw20.BackReads", spec := "backReads", inPlace := ["internal/bytealg.IndexByteString", "internal/bytealg.IndexString", "internal/abi.NoEscape"], unfollowed := true, recurses := true, named := ["internal/bytealg.MaxLen"], apart := false }
def BackReadsSaid : Prop := backReadsRow.holds Try.pinned (OpenSpec.ofChange backReadsSpec)

/-- ITS FALSE NEIGHBOUR: 'it returns false'. Refute it at one input. -/
def backReadsWrong : ChangeSpec := { name := "backReads", fn := fun _ => fun
  | [d1, d2] => { results := [.lit (.bool false)], args := [d1, d2] }
  | _ => none }
def BackReadsWrongFalsely : Prop := backReadsRow.holds Try.pinned (OpenSpec.ofChange backReadsWrong)

/-- 'pontoonlaw20.BackFrames': WHATEVER THE INPUT: true; the input reads as it did. -/
def backFramesSpec : ChangeSpec := { name := "backFrames", fn := fun _ => fun
  | [d] => { results := [.lit (.bool true)], args := [d] }
  | _ => none }
def backFramesRow : OpenClaim := { program := "ytnjifbgjglniaaa", sum := "40eb3b6b23f439f40490b9e434641be3f6b2ee97e2f86d4741a8fdb3d42e255b", func := "pontoon/pontoonlaw20.BackFrames", spec := "backFrames", inPlace := ["internal/bytealg.IndexByteString", "internal/bytealg.IndexString", "internal/abi.NoEscape"], unfollowed := true, recurses := true, named := ["internal/bytealg.MaxLen"], apart := false }
def BackFramesSaid : Prop := backFramesRow.holds Try.pinned (OpenSpec.ofChange backFramesSpec)

/-- ITS FALSE NEIGHBOUR: 'it returns false'. Refute it at one input. -/
def backFramesWrong : ChangeSpec := { name := "backFrames", fn := fun _ => fun
  | [d] => { results := [.lit (.bool false)], args := [d] }
  | _ => none }
def BackFramesWrongFalsely : Prop := backFramesRow.holds Try.pinned (OpenSpec.ofChange backFramesWrong)

/-- 'pontoonlaw20.BackJoins': WHATEVER THE INPUT: true; the input reads as it did. -/
def backJoinsSpec : ChangeSpec := { name := "backJoins", fn := fun _ => fun
  | [d] => { results := [.lit (.bool true)], args := [d] }
  | _ => none }
def backJoinsRow : OpenClaim := { program := "ytnjifbgjglniaaa", sum := "40eb3b6b23f439f40490b9e434641be3f6b2ee97e2f86d4741a8fdb3d42e255b", func := "pontoon/pontoonlaw20.BackJoins", spec := "backJoins", inPlace := ["internal/bytealg.IndexByteString", "internal/bytealg.IndexString", "internal/abi.NoEscape"], unfollowed := true, recurses := true, named := ["internal/bytealg.MaxLen"], apart := false }
def BackJoinsSaid : Prop := backJoinsRow.holds Try.pinned (OpenSpec.ofChange backJoinsSpec)

/-- ITS FALSE NEIGHBOUR: 'it returns false'. Refute it at one input. -/
def backJoinsWrong : ChangeSpec := { name := "backJoins", fn := fun _ => fun
  | [d] => { results := [.lit (.bool false)], args := [d] }
  | _ => none }
def BackJoinsWrongFalsely : Prop := backJoinsRow.holds Try.pinned (OpenSpec.ofChange backJoinsWrong)

/- THE SECOND FORM. 'bulk': how many values and letters a reading holds, each counted each time it is reached (what is shared counts as often as it is met; a slice's spare places count too). A statement '..UptoSaid' is the law's where the arguments, and the package variables that the reading takes, are together of bulk at most 1048576: NARROWER than '..Said'. Prove '..Said' where nothing that the law and all that it calls make is longer than what came in: it says more and counts as full. Else prove '..UptoSaid'. A law counts once. -/
mutual
def uptoBulk {H : Type} : DataW H → Nat
  | .lit (.string bytes) => bytes.length + 1
  | .lit _ => 1
  | .nil => 1
  | .ptr d => uptoBulk d + 1
  | .slice elems spare => uptoBulkAll elems + uptoBulkAll spare + 1
  | .agg parts => uptoBulkAll parts + 1
  | .iface _ d => uptoBulk d + 1
  | .map entries => uptoBulkEntries entries + 1
  | .held _ => 1
def uptoBulkAll {H : Type} : List (DataW H) → Nat
  | [] => 0
  | d :: r => uptoBulk d + uptoBulkAll r
def uptoBulkEntries {H : Type} : List (Lit × DataW H) → Nat
  | [] => 0
  | x :: r => uptoBulkEntry x + uptoBulkEntries r
def uptoBulkEntry {H : Type} : Lit × DataW H → Nat
  | (.string bytes, d) => bytes.length + uptoBulk d + 1
  | (_, d) => uptoBulk d + 1
 end
def uptoSmall : (H : Type) → List (DataW H) → Bool := fun _ ds => decide (uptoBulkAll ds ≤ 1048576)
def OpenSpec.upto (s : _root_.Go.ChangeSpec) : _root_.Go.OpenSpec := { _root_.Go.OpenSpec.ofChange s with cond := some uptoSmall }

/-- 'pontoonlaw20.BackDecodes', WHERE WHAT IT READS IS OF BULK AT MOST 1048576: true; the input reads as it did. -/
def backDecodesUptoRow : OpenClaim := { program := "ytnjifbgjglniaaa", sum := "40eb3b6b23f439f40490b9e434641be3f6b2ee97e2f86d4741a8fdb3d42e255b", func := "pontoon/pontoonlaw20.BackDecodes", spec := "backDecodes", inPlace := ["internal/bytealg.IndexByteString", "internal/bytealg.IndexString", "internal/abi.NoEscape"], unfollowed := true, recurses := true, named := ["internal/bytealg.MaxLen"], apart := false, narrowed := true }
def BackDecodesUptoSaid : Prop := backDecodesUptoRow.holds Try.pinned (OpenSpec.upto backDecodesSpec)

/-- 'pontoonlaw20.BackEncodes', WHERE WHAT IT READS IS OF BULK AT MOST 1048576: true; the input reads as it did. -/
def backEncodesUptoRow : OpenClaim := { program := "ytnjifbgjglniaaa", sum := "40eb3b6b23f439f40490b9e434641be3f6b2ee97e2f86d4741a8fdb3d42e255b", func := "pontoon/pontoonlaw20.BackEncodes", spec := "backEncodes", inPlace := ["internal/bytealg.IndexByteString", "internal/bytealg.IndexString", "internal/abi.NoEscape"], unfollowed := true, recurses := true, named := ["internal/bytealg.MaxLen"], apart := false, narrowed := true }
def BackEncodesUptoSaid : Prop := backEncodesUptoRow.holds Try.pinned (OpenSpec.upto backEncodesSpec)

/-- 'pontoonlaw20.BackReads', WHERE WHAT IT READS IS OF BULK AT MOST 1048576: true; the input reads as it did. -/
def backReadsUptoRow : OpenClaim := { program := "ytnjifbgjglniaaa", sum := "40eb3b6b23f439f40490b9e434641be3f6b2ee97e2f86d4741a8fdb3d42e255b", func := "pontoon/pontoonlaw20.BackReads", spec := "backReads", inPlace := ["internal/bytealg.IndexByteString", "internal/bytealg.IndexString", "internal/abi.NoEscape"], unfollowed := true, recurses := true, named := ["internal/bytealg.MaxLen"], apart := false, narrowed := true }
def BackReadsUptoSaid : Prop := backReadsUptoRow.holds Try.pinned (OpenSpec.upto backReadsSpec)

/-- 'pontoonlaw20.BackFrames', WHERE WHAT IT READS IS OF BULK AT MOST 1048576: true; the input reads as it did. -/
def backFramesUptoRow : OpenClaim := { program := "ytnjifbgjglniaaa", sum := "40eb3b6b23f439f40490b9e434641be3f6b2ee97e2f86d4741a8fdb3d42e255b", func := "pontoon/pontoonlaw20.BackFrames", spec := "backFrames", inPlace := ["internal/bytealg.IndexByteString", "internal/bytealg.IndexString", "internal/abi.NoEscape"], unfollowed := true, recurses := true, named := ["internal/bytealg.MaxLen"], apart := false, narrowed := true }
def BackFramesUptoSaid : Prop := backFramesUptoRow.holds Try.pinned (OpenSpec.upto backFramesSpec)

/-- 'pontoonlaw20.BackJoins', WHERE WHAT IT READS IS OF BULK AT MOST 1048576: true; the input reads as it did. -/
def backJoinsUptoRow : OpenClaim := { program := "ytnjifbgjglniaaa", sum := "40eb3b6b23f439f40490b9e434641be3f6b2ee97e2f86d4741a8fdb3d42e255b", func := "pontoon/pontoonlaw20.BackJoins", spec := "backJoins", inPlace := ["internal/bytealg.IndexByteString", "internal/bytealg.IndexString", "internal/abi.NoEscape"], unfollowed := true, recurses := true, named := ["internal/bytealg.MaxLen"], apart := false, narrowed := true }
def BackJoinsUptoSaid : Prop := backJoinsUptoRow.holds Try.pinned (OpenSpec.upto backJoinsSpec)

end Rows
end Go.Proofs.Ytnjifbgjglniaaa
