/- Package expiry's queue: what it tells. Conditions: how long keys are, how many. -/
import Derived.Test.YtfilmbeoggmglaaExl
namespace Go.Proofs.Ytfilmbeoggmglaa.EX
open Go.ChangeShapes Go.WideShapes Go.ChangeAt Go.RowKit Go.Maps Go.ChangeMaps
open Go.Proofs.Ytfilmbeoggmglaa.SL Go.Proofs.Ytfilmbeoggmglaa.RW
set_option maxRecDepth 100000
set_option linter.unusedVariables false
set_option linter.unusedSimpArgs false

theorem qinfo : ∃ j, Try.prog.info? 73 = some j := Option.isSome_iff_exists.1 (by kernel_rfl)
theorem eql_same (w : World) (a : Addr) : (binOp .eql 53 (.pointer (some a)) (.pointer (some a))).run Try.prog w = .ok (.bool true) w := by
  obtain ⟨j, hj⟩ := qinfo
  exact run_eql_ptr_same (P := Try.prog) w a Try.underlying53 hj
theorem eql_none (w : World) (a : Addr) : (binOp .eql 53 (.pointer none) (.pointer (some a))).run Try.prog w = .ok (.bool false) w := by
  have h : ∀ d : Nat, (Op.equalIn (d + 1) 53 (.pointer none) (.pointer (some a))).run Try.prog w = .ok false w := fun d => by
    simp [Op.equalIn, run_underlying Try.underlying53]
  simp only [binOp]
  simp [Op.equal, Op.maxDepth, h 9999]
theorem given_yes (w : World) (g : Nat) (h : w.cell? ⟨g, 0, none⟩ = some (ptr g)) :
    Calls Try.prog 58 #[ptr g] w fun e w' => e = .returned (.bool true) ∧ w = w' := by
  have he := fun w => eql_same w ⟨g, 0, none⟩
  go_enter Try.func58, Try.ntmps58
  go_wp2
  go_ret
  exact ⟨rfl, rfl⟩
theorem given_nil (w : World) :
    Calls Try.prog 58 #[.pointer none] w fun e w' => e = .returned (.bool false) ∧ w = w' := by
  go_enter Try.func58, Try.ntmps58
  go_wp2
  go_ret
  exact ⟨rfl, rfl⟩
theorem given_zero (w : World) (g : Nat) (h : w.cell? ⟨g, 0, none⟩ = some (.pointer none)) :
    Calls Try.prog 58 #[ptr g] w fun e w' => e = .returned (.bool false) ∧ w = w' := by
  have he := fun w => eql_none w ⟨g, 0, none⟩
  go_enter Try.func58, Try.ntmps58
  go_wp2
  go_ret
  exact ⟨rfl, rfl⟩
def FinP (o : Option Et) (w : World) (e : Ending) (w' : World) : Prop := e = .returned (.tuple #[eV (o.getD zE), .bool o.isSome]) ∧ Below w.heap.size w w'
set_option maxHeartbeats 2000000 in
theorem find_any (w : World) (B g n : Nat) (x : Qx) (h : QT B w g n x) (k : ByteArray) (hk : k.size ≤ 281474976710656) :
    Calls Try.prog 60 #[ptr g, .string k] w (FinP (fnd k x.L) w) := by
  obtain ⟨E, hE⟩ : ∃ E, (fnd k x.L).getD zE = E := ⟨_, rfl⟩
  obtain ⟨b, hb⟩ : ∃ b, (fnd k x.L).isSome = b := ⟨_, rfl⟩
  unfold FinP
  rw [hE, hb]
  obtain ⟨ek, ea, es⟩ := E
  obtain ⟨W1, hW1⟩ : ∃ W, w.alloc (.cells #[.string ⟨#[]⟩, .int .i64 0, .int .i64 0] 101) = W := ⟨_, rfl⟩
  obtain ⟨rb, hrb⟩ : ∃ b, w.heap.size = b := ⟨_, rfl⟩
  have hb1 : Below w.heap.size w W1 := by rw [← hW1]; exact (Below.refl _ _).alloc (Nat.le_refl _) _
  have kr : Bk W1 rb 101 #[.string ByteArray.empty, .int .i64 0, .int .i64 0] := by rw [← hW1, ← hrb]; exact Bk.new _ _ _
  obtain ⟨c0, c1, c2, c3, c4⟩ := (h.below hb1).cells
  have hlk := (h.below hb1).mp.look k hk
  rw [hE, hb] at hlk
  have HB1 := Lib.hid hb1
  have KR := Lib.hid kr
  have HRB : Hid (w.heap.size = rb) := Lib.hid hrb
  clear h hk hE hb hb1 kr c1 c3 c4
  go_enter Try.func60, Try.ntmps60
  go_wp2_with fail
  refine (given_yes _ g c0).mono ?_
  rintro e w' ⟨rfl, rfl⟩
  have hkW : Bk (W1.alloc (.cells #[.string ek, .int .i64 ea, .int .i64 es] 101)) rb 101 #[.string ⟨#[]⟩, .int .i64 0, .int .i64 0] := KR.out.alloc _
  have HKW := Lib.hid hkW
  have r0 := hkW.cell 0
  have r1 := hkW.cell 1
  have r2 := hkW.cell 2
  have f0 := hkW.frozen 0
  have f1 := hkW.frozen 1
  have f2 := hkW.frozen 2
  clear hkW
  go_wp2_with fail
  have k0 := ((HKW.out.set_ 0 (.string ek)).set_ 1 (.int .i64 ea)).set_ 2 (.int .i64 es)
  have hb3 := (((HB1.out.alloc HB1.out.size (.cells #[.string ek, .int .i64 ea, .int .i64 es] 101)).setCell (p := ⟨rb, 0, none⟩) (by have := HRB.out; show w.heap.size ≤ rb; omega) (.string ek)).setCell (p := ⟨rb, 1, none⟩) (by have := HRB.out; show w.heap.size ≤ rb; omega) (.int .i64 ea)).setCell (p := ⟨rb, 2, none⟩) (by have := HRB.out; show w.heap.size ≤ rb; omega) (.int .i64 es)
  obtain ⟨W3, hW3⟩ : ∃ W, (((W1.alloc (.cells #[.string ek, .int .i64 ea, .int .i64 es] 101)).setCell ⟨rb, 0, none⟩ (.string ek)).setCell ⟨rb, 1, none⟩ (.int .i64 ea)).setCell ⟨rb, 2, none⟩ (.int .i64 es) = W := ⟨_, rfl⟩
  rw [hW3] at k0 hb3 ⊢
  have e0 : W3.cell? ⟨rb, 0, none⟩ = some (.string ek) := k0.cell 0
  have e1 : W3.cell? ⟨rb, 1, none⟩ = some (.int .i64 ea) := k0.cell 1
  have e2 : W3.cell? ⟨rb, 2, none⟩ = some (.int .i64 es) := k0.cell 2
  exact bodyPost_ret (v := .tuple #[eV (ek, ea, es), .bool b]) (by simp [results, Try.results60, go_sem, e0, e1, e2]) rfl ⟨rfl, hb3⟩
def AtV (o : Option Et) : Value := .tuple #[.int .i64 (o.getD zE).2.1, .bool o.isSome]
set_option maxHeartbeats 2000000 in
theorem at_any (w : World) (B g n : Nat) (x : Qx) (h : QT B w g n x) (k : ByteArray) (hk : k.size ≤ 281474976710656) (v : Value) (hv : AtV (fnd k x.L) = v) :
    Calls Try.prog 34 #[ptr g, .string k] w fun e w' => e = .returned v ∧ Below w.heap.size w w' := by
  subst hv
  have HF := Lib.hid (find_any w B g n x h k hk)
  unfold FinP AtV at *
  obtain ⟨E, hE⟩ : ∃ E, (fnd k x.L).getD zE = E := ⟨_, rfl⟩
  obtain ⟨b, hb⟩ : ∃ b, (fnd k x.L).isSome = b := ⟨_, rfl⟩
  rw [hE, hb] at HF ⊢
  obtain ⟨ek, ea, es⟩ := E
  clear h hk hE hb
  go_enter Try.func34, Try.ntmps34
  go_wp2_with fail
  refine HF.out.mono ?_
  rintro e w2 ⟨rfl, hb2⟩
  have HB2 := Lib.hid hb2
  clear hb2
  go_wp2
  go_ret2
  exact ⟨rfl, HB2.out.alloc HB2.out.size _⟩
set_option maxHeartbeats 2000000 in
theorem keys_any (w : World) (B g n : Nat) (x : Qx) (h : QT B w g n x) (hn : n ≤ 1000000) :
    Calls Try.prog 38 #[ptr g] w (KeyP (keysT x.L) w) := by
  obtain ⟨c0, c1, c2, c3, c4⟩ := h.cells
  have HK := Lib.hid (okeys_any w x.ob 1 x.v x.L c4 h.eq.re (by have := h.le; omega))
  clear h hn c1 c2 c4
  go_enter Try.func38, Try.ntmps38
  go_wp2_with fail
  refine (given_yes _ g c0).mono ?_
  rintro e w' ⟨rfl, rfl⟩
  go_wp2_with fail
  refine HK.out.mono ?_
  rintro e w2 ⟨u, rfl, ou, hb2⟩
  have HO := Lib.hid ou
  have HB := Lib.hid hb2
  clear ou hb2
  go_wp2
  go_ret
  exact ⟨u, rfl, HO.out, HB.out⟩
def NexV (o : Option Et) : Value := .tuple #[.int .i64 (match o with | some e => e.2.1 | none => 0), .bool o.isSome]
set_option maxHeartbeats 2000000 in
theorem next_any (w : World) (B g n : Nat) (x : Qx) (h : QT B w g n x) (v : Value) (hv : NexV x.L.head? = v) :
    Calls Try.prog 36 #[ptr g] w fun e w' => e = .returned v ∧ w = w' := by
  subst hv
  obtain ⟨c0, c1, c2, c3, c4⟩ := h.cells
  have hlen := fun ty => h.mp.len ty
  cases hL : x.L with
  | nil =>
    rw [hL] at hlen
    have hz : ∀ ty, (Builtin.len_ #[69] ty #[.map (some x.m)]).run Try.prog w = .ok (.int .i64 0) w := hlen
    clear h hL hlen
    go_enter Try.func36, Try.ntmps36
    go_wp2_with fail
    refine (given_yes _ g c0).mono ?_
    rintro e w' ⟨rfl, rfl⟩
    go_wp2
    go_ret2
    exact ⟨rfl, rfl⟩
  | cons e L =>
    have he := h.eq
    unfold Qx.v at he c4
    rw [hL] at hlen he c4
    rcases he.inv with ⟨_, h0⟩ | ⟨gb, cap, hve, hcap, _⟩
    · cases h0
    · rw [hve] at he c4
      obtain ⟨_, y1, _⟩ := he.cells 0 e rfl
      have l1 : (0 : Int) < (((e :: L).length : Nat) : Int) := by rw [List.length_cons]; omega
      obtain ⟨N, hN⟩ : ∃ N, (e :: L).length = N := ⟨_, rfl⟩
      rw [hN] at hlen l1 c4
      have l2 : ¬ ((N : Int) = 0) := by omega
      have l3 : ((N : Int) == 0) = false := beq_eq_false_iff_ne.2 l2
      have y1 : w.cell? ⟨gb, 1, none⟩ = some (.int .i64 e.2.1) := y1
      clear h hL he hcap hve hN
      go_enter Try.func36, Try.ntmps36
      go_wp2_with fail
      refine (given_yes _ g c0).mono ?_
      rintro e w' ⟨rfl, rfl⟩
      go_wp2
      go_ret2
      exact ⟨rfl, rfl⟩
end Go.Proofs.Ytfilmbeoggmglaa.EX
