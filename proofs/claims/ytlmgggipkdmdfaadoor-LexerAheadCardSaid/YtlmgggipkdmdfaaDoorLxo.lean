/- What package lexer's list of readers holds, and what each of them answers, as one plain function. Condition: the word of bytealg; a text's length, not empty. -/
import Derived.Test.YtlmgggipkdmdfaaDoorLxn
namespace Go.Proofs.YtlmgggipkdmdfaaDoor
open Go.ChangeShapes Go.WideShapes Go.ChangeAt Go.RowKit
set_option linter.unusedVariables false
set_option linter.unusedSimpArgs false

abbrev Pc : Type := Int × ByteArray × Int
def pc0 : Pc := (0, ⟨#[]⟩, 0)
def pcW (p : Pc) : Value := pcV p.1 p.2.1 p.2.2
def lineP (s : ByteArray) : Pc := (0, ⟨#[]⟩, if hpB s dashT = true then ((lineA s).size : Int) else 0)
def remP (s : ByteArray) : Pc := if hpB s opnT = true then (0, ⟨#[]⟩, remI ((remL 1 (s.data.toList.drop 2)).map (· + 2))) else pc0
def wordP (s : ByteArray) : Pc := if rowL letB s.data.toList = 0 then pc0 else (1, smallA (s.extract 0 (rowL wordB s.data.toList)), (rowL wordB s.data.toList : Nat))
def betP (k : Int) (o : Option (Tx × Nat)) : Pc := match o with
  | some p => (k, ⟨p.1.toArray⟩, (p.2 : Int))
  | none => (0, ⟨#[]⟩, -1)
def quoP (q : UInt8) (k : Int) (s : ByteArray) : Pc := match s.data.toList with
  | [] => pc0
  | c :: r => if c = q then betP k ((betL q r).map (fun p => (p.1, p.2 + 1))) else pc0
def dolP (s : ByteArray) : Pc := if (markA s).toList.isEmpty = true then pc0 else if (cutM s).2.2 = false then (0, ⟨#[]⟩, -1) else (3, ⟨(cutM s).1.toArray⟩, ((markA s).size : Int) + (⟨(cutM s).1.toArray⟩ : ByteArray).size + (markA s).size)
def numP (s : ByteArray) : Pc := if rowL digB s.data.toList = 0 then pc0 else (4, s.extract 0 (rowL numB s.data.toList), (rowL numB s.data.toList : Nat))
def parP (s : ByteArray) : Pc := if hpB s dolT = false ∨ parN s = 0 then pc0 else (5, s.extract 0 (parN s + 1), ((parN s + 1 : Nat) : Int))
def signP (s : ByteArray) : Pc := match s.data.toList with
  | [] => pc0
  | c :: _ => if signI c < 0 then pc0 else (5, s.extract 0 1, 1)
/-- what the reader of each place answers -/
def rdP (i : Nat) (s : ByteArray) : Pc := match i with
  | 0 => (0, ⟨#[]⟩, (rowL fiveQ s.data.toList : Nat))
  | 1 => lineP s
  | 2 => remP s
  | 3 => wordP s
  | 4 => quoP 34 2 s
  | 5 => quoP 39 3 s
  | 6 => dolP s
  | 7 => numP s
  | 8 => parP s
  | _ => signP s
def rdF (i : Nat) : FuncId := match i with
  | 0 => 26 | 1 => 27 | 2 => 28 | 3 => 29 | 4 => 30 | 5 => 31 | 6 => 32 | 7 => 33 | 8 => 34 | _ => 35
theorem rd_call (i : Nat) (hi : i < 10) (s : ByteArray) (h : 0 < s.size) (hs : s.size < 4294967281) (m : Int) (w : World) (hm : Wd m w) :
    Calls Tryd.prog (rdF i) #[.string s] w fun e w' => e = .returned (pcW (rdP i s)) ∧ Below w.heap.size w w' := by
  have hs2 : s.size ≤ 281474976710656 := Nat.le_trans (Nat.le_of_lt hs) (by decide)
  have hs3 : s.size ≤ 4294967296 := Nat.le_trans (Nat.le_of_lt hs) (by decide)
  match i, hi with
  | 0, _ => exact gap_any s w
  | 1, _ => exact line_any s m w hs hm
  | 2, _ =>
    show Calls Tryd.prog 28 #[.string s] w fun e w' => e = .returned (pcW (remP s)) ∧ Below w.heap.size w w'
    unfold remP
    cases hb : hpB s opnT with
    | true => rw [if_pos rfl]; exact remark_yes s w hs2 hb _ rfl
    | false => rw [if_neg (by simp)]; exact remark_no s w hb
  | 3, _ =>
    show Calls Tryd.prog 29 #[.string s] w fun e w' => e = .returned (pcW (wordP s)) ∧ Below w.heap.size w w'
    unfold wordP
    by_cases hb : rowL letB s.data.toList = 0
    · rw [if_pos hb]; exact word_no s w hb
    · rw [if_neg hb]; exact word_yes s w hs2 hb
  | 4, _ =>
    have e : pcW (rdP 4 s) = quoS 34 2 s := by
      show pcW (quoP 34 2 s) = _
      unfold quoP quoS
      cases s.data.toList with
      | nil => rfl
      | cons c r =>
        simp only
        split
        · cases betL 34 r <;> rfl
        · rfl
    rw [e]; exact quoted_any s w hs3 h
  | 5, _ =>
    have e : pcW (rdP 5 s) = quoS 39 3 s := by
      show pcW (quoP 39 3 s) = _
      unfold quoP quoS
      cases s.data.toList with
      | nil => rfl
      | cons c r =>
        simp only
        split
        · cases betL 39 r <;> rfl
        · rfl
    rw [e]; exact str_any s w hs3 h
  | 6, _ =>
    have e : pcW (rdP 6 s) = dolS s := by
      show pcW (dolP s) = _
      unfold dolP dolS
      split
      · rfl
      · split <;> rfl
    rw [e]; exact dol_any s m w hs hm
  | 7, _ =>
    show Calls Tryd.prog 33 #[.string s] w fun e w' => e = .returned (pcW (numP s)) ∧ Below w.heap.size w w'
    unfold numP
    by_cases hb : rowL digB s.data.toList = 0
    · rw [if_pos hb]; exact num_no s w hb
    · rw [if_neg hb]; exact num_yes s w hs2 hb
  | 8, _ =>
    have p := param_any s w hs2
    have e : pcW (rdP 8 s) = if hpB s dolT = false ∨ parN s = 0 then pcV 0 ⟨#[]⟩ 0 else pcV 5 (s.extract 0 (parN s + 1)) ((parN s + 1 : Nat) : Int) := by
      show pcW (parP s) = _
      unfold parP
      split <;> rfl
    rw [e]; exact p
  | 9, _ =>
    have p := sign_any s h w
    have hd := List.drop_eq_getElem_cons (show 0 < s.data.toList.length by rw [← Lib.size_eq]; exact h)
    rw [List.drop_zero] at hd
    have hda : s.data.toList[0]'(by rw [← Lib.size_eq]; exact h) = s[0]'h := rfl
    rw [hda] at hd
    have e : pcW (rdP 9 s) = if signI (s[0]'h) < 0 then pcV 0 ⟨#[]⟩ 0 else pcV 5 (s.extract 0 1) 1 := by
      show pcW (signP s) = _
      unfold signP
      rw [hd]
      simp only
      split <;> rfl
    rw [e]; exact p
theorem rd_enter (i : Nat) (hi : i < 10) (args : Array Value) (w : World) : Sem.run Tryd.prog (callFunc (rdF i) args) w = .ok (.enter (rdF i) args) w := by
  match i, hi with
  | 0, _ => show Sem.run Tryd.prog (callFunc 26 args) w = _; go_simp; rfl
  | 1, _ => show Sem.run Tryd.prog (callFunc 27 args) w = _; go_simp; rfl
  | 2, _ => show Sem.run Tryd.prog (callFunc 28 args) w = _; go_simp; rfl
  | 3, _ => show Sem.run Tryd.prog (callFunc 29 args) w = _; go_simp; rfl
  | 4, _ => show Sem.run Tryd.prog (callFunc 30 args) w = _; go_simp; rfl
  | 5, _ => show Sem.run Tryd.prog (callFunc 31 args) w = _; go_simp; rfl
  | 6, _ => show Sem.run Tryd.prog (callFunc 32 args) w = _; go_simp; rfl
  | 7, _ => show Sem.run Tryd.prog (callFunc 33 args) w = _; go_simp; rfl
  | 8, _ => show Sem.run Tryd.prog (callFunc 34 args) w = _; go_simp; rfl
  | 9, _ => show Sem.run Tryd.prog (callFunc 35 args) w = _; go_simp; rfl
def rdRow : Array Value := ((List.range 10).map (fun i => Value.func (.func (rdF i)) #[] #[])).toArray
theorem readers_any (w : World) : Calls Tryd.prog 16 #[] w fun e w' => e = .returned (.slice (some ⟨w.heap.size, 0, none⟩) 10 10) ∧ w' = w.alloc (.cells rdRow 37) := by
  go_enter Tryd.func16, Tryd.ntmps16
  go_wp2
  go_ret
  exact ⟨rfl, rfl⟩
end Go.Proofs.YtlmgggipkdmdfaaDoor
