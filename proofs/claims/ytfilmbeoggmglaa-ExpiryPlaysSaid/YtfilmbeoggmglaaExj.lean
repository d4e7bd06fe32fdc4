/- Package expiry's order: a row of entries copied; an order copied. Conditions: how many. -/
import Derived.Test.YtfilmbeoggmglaaExi
namespace Go.Proofs.Ytfilmbeoggmglaa.EX
open Go.ChangeShapes Go.WideShapes Go.ChangeAt Go.RowKit
open Go.Proofs.Ytfilmbeoggmglaa.SL Go.Proofs.Ytfilmbeoggmglaa.RW
set_option maxRecDepth 100000
set_option linter.unusedVariables false
set_option linter.unusedSimpArgs false

theorem wpList_app_non {P : Program} {w : World} {ops : Array Oper} {rest : List Oper} {o : Oper} {a : Act} {Q : Exit → Act → World → Prop} (hgd : o.guard = none) (s x : Operand) (t : TypeId)
    (ho : o.op = .call { callee := .builtin .append, args := #[s, x], argTypes := #[t, t] })
    (base : Nat) (e : TypeId) (i : TypeInfo) (size : Nat) (ht : P.underlying t = some (.slice e)) (hi : P.info? e = some i)
    (v : Value) (n : Nat) (xs : List Value) (hs : a.eval s = v) (hown : w.ownsRow base e size v n xs) (p : Option Addr) (c : Nat) (hx : a.eval x = .slice p 0 c)
    (h : wpList P ops Q rest (a.put o.dst v) w) : wpList P ops Q (o :: rest) a w := by
  refine wpList_plain hgd fun K hK => ?_
  have hrun := run_app_non (P := P) (w := w) base t o.type e i size ht hi v n xs hown p c
  unfold Oper.wp
  simp [execOp, ho, resolve, invoke, builtin, hs, hx, hrun, Result.andThen]
  exact hK _ _ h
theorem iSli : ∃ i, Try.prog.info? 108 = some i ∧ i.zero = some (.slice none 0 0) ∧ i.size = 1 ∧ i.bytes = 24 := by
  have h : (Try.prog.info? 108).bind (fun i => if i.size = 1 ∧ i.bytes = 24 then i.zero else none) = some (.slice none 0 0) := by kernel_rfl
  cases hi : Try.prog.info? 108 with
  | none => rw [hi] at h; cases h
  | some j =>
    rw [hi] at h
    by_cases hc : j.size = 1 ∧ j.bytes = 24
    · simp [hc] at h
      exact ⟨j, rfl, h, hc.1, hc.2⟩
    · simp [hc] at h
def CloP (l : List Et) (w : World) (e : Ending) (w' : World) : Prop := ∃ a c, e = .returned (.slice a l.length c) ∧ EQ w.heap.size w' (.slice a l.length c) l ∧ Below w.heap.size w w'
set_option maxHeartbeats 4000000 in
theorem eclone_any (w : World) (B : Nat) (v : Value) (l : List Et) (h : EQ B w v l) (hl : l.length ≤ 1000000) :
    Calls Try.prog 73 #[v] w (CloP l w) := by
  obtain ⟨i30, hi30, hz30, hs30, hb30⟩ := iEnt
  have und30 := undE
  have q22 : ∀ (w : World) (a : Option Addr) (n c n' c' : Nat), (binOp .eql 108 (.slice a n c) (.slice none n' c')).run Try.prog w = .ok (.bool a.isNone) w := fun w a n c n' c' => Lib.run_eql_slice_nil w _ _ a n c n' c' undE
  rcases h.inv with ⟨rfl, rfl⟩ | ⟨g, cap, rfl, hcap, hmx, hBg, hgl⟩
  · clear h
    go_enter Try.func73, Try.ntmps73
    go_wp2
    go_ret
    exact ⟨none, 0, rfl, EQ.nil _ _, Below.refl _ _⟩
  · have hw0 : EQ w.heap.size (w.alloc (.cells #[] 101)) (.slice (some ⟨w.heap.size, 0, none⟩) 0 0) [] :=
      ⟨rfl, .inr ⟨w.heap.size, 0, #[], rfl, Nat.le_refl _, heap_alloc_new w _, Nat.le_refl _, Nat.zero_le _, rfl, rfl⟩⟩
    have hb0 : Below w.heap.size w (w.alloc (.cells #[] 101)) := (Below.refl _ _).alloc (Nat.le_refl _) _
    have HW0 := Lib.hid hw0
    have HB0 := Lib.hid hb0
    by_cases hz : l = []
    · subst hz
      clear h hw0 hb0
      go_enter Try.func73, Try.ntmps73
      go_wp2_with (at_builtin; refine wpList_app_non rfl _ _ 108 rfl w.heap.size 101 i30 3 und30 hi30 _ _ _ rfl HW0.out _ _ rfl ?_)
      go_wp2
      go_ret
      exact ⟨some ⟨w.heap.size, 0, none⟩, 0, rfl, HW0.out, HB0.out⟩
    · have hp : 0 < l.length := List.length_pos_iff.2 hz
      have hsrc : ∀ q u, (eC l)[q]? = some u → (w.alloc (.cells #[] 101)).cell? ((⟨g, 0, none⟩ : Addr).add q) = some u := by
        intro q u hq
        have h1 := World.ownsRow.cells h (g := g) rfl q u hq
        rw [Addr.add_lit, Nat.zero_add] at h1 ⊢
        exact (hb0.cell (p := ⟨g, q, none⟩) hgl).trans h1
      have HSRC := Lib.hid hsrc
      have HP := Lib.hid hp
      have HL := Lib.hid hl
      clear h hw0 hb0 hsrc hp hl hcap hmx hBg hgl
      go_enter Try.func73, Try.ntmps73
      go_wp2_with (at_builtin; refine wpList_append_lies _ rfl _ _ 108 rfl w.heap.size 101 i30 (.agg #[.string ByteArray.empty, .int .i64 0, .int .i64 0]) 3 32 und30 hi30 hz30 hs30 hb30 rfl (by decide) _ 0 [] rfl HW0.out ⟨g, 0, none⟩ l.length cap (eC l) rfl (eC_len l) ?_ (eC_one l) HP.out ?_ ?_ ?_ _ rfl ?_)
      any_goals first
        | exact HSRC.out
        | (have := HL.out; unfold maxLen; omega)
        | (have := HL.out; omega)
        | exact HB0.out.size
        | (simp; done)
      all_goals
        intro g9 cap9 w9 hown9 hgr9 hat9 hlt9
        have he9 : EQ w.heap.size w9 (.slice (some ⟨g9, 0, none⟩) l.length cap9) l := EQ.of (by first | exact hown9 | (rw [Nat.zero_add, List.nil_append] at hown9; exact hown9)) rfl rfl
        have hbl9 : Below w.heap.size w w9 := HB0.out.grown hgr9 (by simp) (fun k hk => by have hk2 : w.heap.size = k := (by injection hk); omega)
        have HE9 := Lib.hid he9
        have HB9 := Lib.hid hbl9
        have z0 : 0 + l.length = l.length := Nat.zero_add _
        clear hown9 hgr9 hat9 he9 hbl9
        try rw [z0]
        go_wp2
        go_ret
        exact ⟨some ⟨g9, 0, none⟩, cap9, rfl, HE9.out, HB9.out⟩
set_option maxHeartbeats 4000000 in
theorem oclone_any (w : World) (ob : Nat) :
    Calls Try.prog 78 #[.slice (some ⟨ob, 0, none⟩) 0 1] w fun e w' => e = .returned (.slice (some ⟨w.heap.size, 0, none⟩) 0 0) ∧ w' = w.alloc (.cells #[] 108) := by
  have q22 : ∀ (w : World) (a : Option Addr) (n c n' c' : Nat), (binOp .eql 71 (.slice a n c) (.slice none n' c')).run Try.prog w = .ok (.bool a.isNone) w := fun w a n c n' c' => Lib.run_eql_slice_nil w _ _ a n c n' c' Try.underlying71
  obtain ⟨j, hj, hjz, hjs, hjb⟩ := iSli
  have hx : (w.alloc (.cells #[] 108)).ownsRow w.heap.size 108 1 (.slice (some ⟨w.heap.size, 0, none⟩) 0 0) 0 [] :=
    ⟨rfl, .inr ⟨w.heap.size, 0, #[], rfl, Nat.le_refl _, heap_alloc_new w _, Nat.le_refl _, Nat.zero_le _, rfl, rfl⟩⟩
  have HX := Lib.hid hx
  clear hx
  go_enter Try.func78, Try.ntmps78
  go_wp2_with (at_builtin; refine wpList_app_non rfl _ _ 71 rfl w.heap.size 108 j 1 Try.underlying71 hj _ _ _ rfl HX.out _ _ rfl ?_)
  go_wp2
  go_ret
  exact ⟨rfl, rfl⟩
theorem mk1 (w : World) : (Instr.makeSlice 71 (.int .i64 1) (.int .i64 1)).run Try.prog w = .ok (.slice (some ⟨w.heap.size, 0, none⟩) 1 1) (w.alloc (.cells #[.slice none 0 0] 108)) := by kernel_rfl
def CopP (l : List Et) (w : World) (e : Ending) (w' : World) : Prop :=
  ∃ nb a c, e = .returned (.slice (some ⟨nb, 0, none⟩) 1 1) ∧ Bk w' nb 108 #[.slice a l.length c] ∧ EQ w.heap.size w' (.slice a l.length c) l ∧ w.heap.size ≤ nb ∧ Below w.heap.size w w'
set_option maxHeartbeats 4000000 in
theorem copied_any (w : World) (B ob : Nat) (v : Value) (l : List Et) (h : Bk w ob 108 #[v]) (hv : EQ B w v l) (hl : l.length ≤ 1000000) :
    Calls Try.prog 64 #[.slice (some ⟨ob, 0, none⟩) 1 1] w (CopP l w) := by
  have HH := Lib.hid h
  have HV := Lib.hid hv
  have HL := Lib.hid hl
  have hmk := mk1
  obtain ⟨nb, hnb⟩ : ∃ b, w.heap.size = b := ⟨_, rfl⟩
  obtain ⟨W1, hW1⟩ : ∃ W, w.alloc (.cells #[.slice none 0 0] 108) = W := ⟨_, rfl⟩
  have hb1 : Below w.heap.size w W1 := by rw [← hW1]; exact (Below.refl _ _).alloc (Nat.le_refl _) _
  have kn : Bk W1 nb 108 #[.slice none 0 0] := by rw [← hW1, ← hnb]; exact Bk.new _ _ _
  have HB1 := Lib.hid hb1
  have KN := Lib.hid kn
  have HNB : Hid (w.heap.size = nb) := Lib.hid hnb
  clear h hv hl hb1 kn
  go_enter Try.func64, Try.ntmps64
  go_wp2_with fail
  clear hW1 hnb hmk
  go_loopg [11] 1 (fun gk u11 wx => ∃ i : Nat, u11 = .int .i64 (i : Int) ∧ i + gk = 1 ∧ Below w.heap.size w wx ∧ ∃ v', Bk wx nb 108 #[v'] ∧ (i = 1 → ∃ a c, v' = .slice a l.length c ∧ EQ w.heap.size wx (.slice a l.length c) l))
  case atStart => exact ⟨0, rfl, rfl, HB1.out, _, KN.out, fun h => by omega⟩
  case round =>
    obtain ⟨i, rfl, hi, hbel, v', hk, hv'⟩ := hrel
    have HBE := Lib.hid hbel
    cases gk with
    | zero =>
      have hi1 : i = 1 := by omega
      subst hi1
      obtain ⟨a, c, rfl, he⟩ := hv' rfl
      have HFIN : Hid (CopP l w (.returned (.slice (some ⟨nb, 0, none⟩) 1 1)) wr) := Lib.hid ⟨nb, a, c, rfl, hk, he, by have := HNB.out; omega, hbel⟩
      clear hbel hi hk hv' he
      go_wp2
      go_ret
      exact HFIN.out
    | succ gk1 =>
      have hi0 : i = 0 := by omega
      subst hi0
      have hg1 : gk1 = 0 := by omega
      subst hg1
      have HK := Lib.hid hk
      have c0 : wr.cell? ⟨ob, 0, none⟩ = some v := (HH.out.below hbel).cell 0
      clear hbel hi hk hv'
      go_wp2_with fail
      refine (eclone_any wr B v l (HV.out.below HBE.out) HL.out).mono ?_
      rintro e w2 ⟨a, c, rfl, he2, hb2⟩
      have hk2 := HK.out.below hb2
      have s0 : w2.cell? ⟨nb, 0, none⟩ = some v' := hk2.cell 0
      have f0 := hk2.frozen 0
      have HK2 := Lib.hid hk2
      have HE2 := Lib.hid he2
      have HB2 := Lib.hid (HBE.out.trans (hb2.mono HBE.out.size))
      have HWS : Hid (w.heap.size ≤ wr.heap.size) := Lib.hid HBE.out.size
      clear hk2 he2 hb2 c0
      go_wp2
      go_roundg 0
      case measure => exact Nat.lt_succ_self _
      case rel =>
        refine ⟨1, rfl, rfl, HB2.out.setCell (p := ⟨nb, 0, none⟩) (by have := HNB.out; show w.heap.size ≤ nb; omega) _, _, HK2.out.set_ 0 _, fun _ => ⟨a, c, rfl, ?_⟩⟩
        exact (HE2.out.mono HWS.out).keep fun q hq => Below.heap_setCell _ _ _ _ (fun e => (HE2.out.off HK2.out ty_oe q hq) e.symm)
end Go.Proofs.Ytfilmbeoggmglaa.EX
