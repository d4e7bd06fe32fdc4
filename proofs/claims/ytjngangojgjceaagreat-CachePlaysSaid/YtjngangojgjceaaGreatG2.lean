/- What package slru's given, where, newest, last, leave and enter do. No condition but what lies in the blocks. -/
import Derived.Test.YtjngangojgjceaaGreatG1
import Derived.Deep.Cut
import Derived.WalkSpells
import Derived.WalkMore
import Derived.BigQuiet
import Derived.BigRegion
import Derived.Deep.QuietTactic
import Derived.Deep.RegionWith
import Derived.Deep.RegionHeld3
import Derived.StillTailTactics
set_option linter.unusedSimpArgs false
set_option linter.unusedVariables false
namespace Go.Proofs.YtjngangojgjceaaGreat.SL
open Go.ChangeShapes Go.WideShapes Go.ChangeAt Go.RowKit Go.Maps Go.ChangeMaps
set_option maxRecDepth 100000
set_option linter.unusedVariables false
set_option linter.unusedSimpArgs false

theorem sinfo : ∃ j, Tryz.prog.info? 124 = some j := Option.isSome_iff_exists.1 (by kernel_rfl)
theorem eql_same (w : World) (a : Addr) : (binOp .eql 58 (.pointer (some a)) (.pointer (some a))).run Tryz.prog w = .ok (.bool true) w := by
  obtain ⟨j, hj⟩ := sinfo
  exact run_eql_ptr_same (P := Tryz.prog) w a Tryz.underlying58 hj
theorem eql_none (w : World) (a : Addr) : (binOp .eql 58 (.pointer none) (.pointer (some a))).run Tryz.prog w = .ok (.bool false) w := by
  have h : ∀ d : Nat, (Op.equalIn (d + 1) 58 (.pointer none) (.pointer (some a))).run Tryz.prog w = .ok false w := fun d => by
    simp [Op.equalIn, run_underlying Tryz.underlying58]
  simp only [binOp]
  simp [Op.equal, Op.maxDepth, h 9999]
theorem given_yes (w : World) (g : Nat) (c0 : w.cell? ⟨g, 0, none⟩ = some (ptr g)) :
    Calls Tryz.prog 68 #[ptr g] w fun e w' => e = .returned (.bool true) ∧ w = w' := by
  have he := fun w => eql_same w ⟨g, 0, none⟩
  go_enter Tryz.func68, Tryz.ntmps68
  go_wp2
  go_ret
  exact ⟨rfl, rfl⟩
theorem given_nil (w : World) :
    Calls Tryz.prog 68 #[.pointer none] w fun e w' => e = .returned (.bool false) ∧ w = w' := by
  go_enter Tryz.func68, Tryz.ntmps68
  go_wp2
  go_ret
  exact ⟨rfl, rfl⟩
theorem given_zero (w : World) (g : Nat) (h : w.cell? ⟨g, 0, none⟩ = some (.pointer none)) :
    Calls Tryz.prog 68 #[ptr g] w fun e w' => e = .returned (.bool false) ∧ w = w' := by
  have he := fun w => eql_none w ⟨g, 0, none⟩
  go_enter Tryz.func68, Tryz.ntmps68
  go_wp2
  go_ret
  exact ⟨rfl, rfl⟩
theorem where_any (b : Bool) (w : World) :
    Calls Tryz.prog 99 #[.bool b] w fun e w' => e = .returned (.int .i64 (if b then 1 else 0)) ∧ w = w' := by
  cases b
  · go_enter Tryz.func99, Tryz.ntmps99
    go_wp2
    go_ret
    exact ⟨rfl, rfl⟩
  · go_enter Tryz.func99, Tryz.ntmps99
    go_wp2
    go_ret
    exact ⟨rfl, rfl⟩
theorem newest_any (w : World) (g o e a : Nat) (c0 : w.cell? ⟨g, o, none⟩ = some (ptr e)) (c1 : w.cell? ⟨e, 4, none⟩ = some (ptr a)) :
    Calls Tryz.prog 121 #[.pointer (some ⟨g, o, none⟩)] w fun e w' => e = .returned (ptr a) ∧ w = w' := by
  go_enter Tryz.func121, Tryz.ntmps121
  go_wp2
  go_ret
  exact ⟨rfl, rfl⟩
theorem last_any (w : World) (g o e a : Nat) (c0 : w.cell? ⟨g, o, none⟩ = some (ptr e)) (c1 : w.cell? ⟨e, 3, none⟩ = some (ptr a)) :
    Calls Tryz.prog 96 #[.pointer (some ⟨g, o, none⟩)] w fun e w' => e = .returned (ptr a) ∧ w = w' := by
  go_enter Tryz.func96, Tryz.ntmps96
  go_wp2
  go_ret
  exact ⟨rfl, rfl⟩
def LevP (g o b a c : Nat) (n z : Int) (N : Nat → Prop) (F : Nat → Nd) (cs : Array Value) (w : World) (e : Ending) (w' : World) : Prop :=
  e = .returned (.tuple #[]) ∧ NN w' N (levF F a c) ∧ Bk w' g 124 (cs.setIfInBounds (o + 1) (.int .i64 (n - z))) ∧ Chg (fun k => k = g ∨ N k) w w' ∧ w'.heap.size = w.heap.size
set_option maxHeartbeats 2000000 in
theorem leave_any (w : World) (g o b a c : Nat) (n : Int) (N : Nat → Prop) (F : Nat → Nd) (cs : Array Value) (hg : Bk w g 124 cs) (h1 : cs[o + 1]? = some (.int .i64 n)) (hN : NN w N F) (hng : ¬ N g) (hb : N b) (ha : N a) (hc : N c)
    (hnw : (F b).nw = some a) (hod : (F b).od = some c) (hab : a ≠ b) (hcb : c ≠ b) (hz : 0 ≤ (F b).z ∧ (F b).z ≤ n ∧ n ≤ 4294967296) :
    Calls Tryz.prog 90 #[.pointer (some ⟨g, o, none⟩), ptr b] w (LevP g o b a c n (F b).z N F cs w) := by
  have kb := hN b hb
  have x1 : w.cell? ⟨b, 1, none⟩ = some (.int .i64 (F b).z) := kb.cell 1
  have x3 : w.cell? ⟨b, 3, none⟩ = some (ptr a) := by have := kb.cell 3; unfold pc at this; simp [hnw, pV] at this; exact this
  have x4 : w.cell? ⟨b, 4, none⟩ = some (ptr c) := by have := kb.cell 4; unfold pc at this; simp [hod, pV] at this; exact this
  have y1 : w.cell? ⟨g, o + 1, none⟩ = some (.int .i64 n) := (hg.cell (o + 1)).trans h1
  have hgb : g ≠ b := fun e => hng (by rw [e]; exact hb)
  have hga : g ≠ a := fun e => hng (by rw [e]; exact ha)
  have hgc : g ≠ c := fun e => hng (by rw [e]; exact hc)
  have fa := (hN a ha).frozen 4
  have fc := (hN c hc).frozen 3
  have fg := hg.frozen (o + 1)
  have ca : ∃ v, w.cell? ⟨a, 4, none⟩ = some v := ⟨_, (hN a ha).cell 4⟩
  have cc : ∃ v, w.cell? ⟨c, 3, none⟩ = some v := ⟨_, (hN c hc).cell 3⟩
  obtain ⟨va, ca⟩ := ca
  obtain ⟨vc, cc⟩ := cc
  have hba : b ≠ a := fun e => hab e.symm
  have hbc : b ≠ c := fun e => hcb e.symm
  have wz : IntKind.i64.wrap (n - (F b).z) = n - (F b).z := IntWalk.i64_in _ (by omega)
  obtain ⟨z, hze⟩ : ∃ z, (F b).z = z := ⟨_, rfl⟩
  rw [hze] at x1 wz hz ⊢
  have HG := Lib.hid hg
  have HN := Lib.hid hN
  have HNG := Lib.hid hng
  have HA := Lib.hid ha
  have HC := Lib.hid hc
  obtain ⟨hz0, hz1, hz2⟩ := hz
  have l0 : 0 ≤ n - z := by omega
  have l1 : n - z ≤ 4294967296 := by omega
  clear hg h1 hN hng hb ha hc hnw hod hze kb hab hcb
  go_enter Tryz.func90, Tryz.ntmps90
  go_wp2
  go_region
  go_wp2
  go_region
  go_wp2
  refine bodyPost_ret (v := .tuple #[]) (by simp [results, Tryz.results90, go_sem]) rfl ⟨rfl, ?_, ?_, ?_, ?_⟩
  · exact ((HN.out.upO a (some c)).upN c (some a)).far HNG.out _
  · exact ((HG.out.far hga _).far hgc _).set_ (o + 1) _
  · repeat (with_reducible refine Chg.drew ?_)
    exact ((((Chg.refl (fun k => k = g ∨ N k) w).setCell (p := ⟨a, 4, none⟩) (Or.inr HA.out) _).setCell (p := ⟨c, 3, none⟩) (Or.inr HC.out) _).setCell (p := ⟨g, o + 1, none⟩) (Or.inl rfl) _)
  · simp [World.setCell]
def EntP (g o e a p : Nat) (n z : Int) (N : Nat → Prop) (F : Nat → Nd) (cs : Array Value) (w : World) (r : Ending) (w' : World) : Prop :=
  r = .returned (.tuple #[]) ∧ NN w' N (entF F e a p) ∧ Bk w' g 124 (cs.setIfInBounds (o + 1) (.int .i64 (n + z))) ∧ Chg (fun k => k = g ∨ N k) w w' ∧ w'.heap.size = w.heap.size
set_option maxHeartbeats 2000000 in
theorem enter_any (w : World) (g o e a p : Nat) (n : Int) (N : Nat → Prop) (F : Nat → Nd) (cs : Array Value) (hg : Bk w g 124 cs) (h0 : cs[o]? = some (ptr e)) (h1 : cs[o + 1]? = some (.int .i64 n)) (hN : NN w N F) (hng : ¬ N g) (he : N e) (ha : N a) (hp : N p)
    (hod : (F e).od = some a) (hep : e ≠ p) (hap : a ≠ p) (hz : 0 ≤ (F p).z ∧ 0 ≤ n ∧ n + (F p).z ≤ 4294967296) :
    Calls Tryz.prog 103 #[.pointer (some ⟨g, o, none⟩), ptr p] w (EntP g o e a p n (F p).z N F cs w) := by
  have kp := hN p hp
  have ke := hN e he
  have x1 : w.cell? ⟨p, 1, none⟩ = some (.int .i64 (F p).z) := kp.cell 1
  have x3 : ∃ v, w.cell? ⟨p, 3, none⟩ = some v := ⟨_, kp.cell 3⟩
  have x4 : ∃ v, w.cell? ⟨p, 4, none⟩ = some v := ⟨_, kp.cell 4⟩
  obtain ⟨v3, x3⟩ := x3
  obtain ⟨v4, x4⟩ := x4
  have z4 : w.cell? ⟨e, 4, none⟩ = some (ptr a) := by have := ke.cell 4; unfold pc at this; simp [hod, pV] at this; exact this
  have y0 : w.cell? ⟨g, o, none⟩ = some (ptr e) := (hg.cell o).trans h0
  have y1 : w.cell? ⟨g, o + 1, none⟩ = some (.int .i64 n) := (hg.cell (o + 1)).trans h1
  have hgp : g ≠ p := fun e => hng (by rw [e]; exact hp)
  have hga : g ≠ a := fun e => hng (by rw [e]; exact ha)
  have hge : g ≠ e := fun e => hng (by rw [e]; exact he)
  have hpe : p ≠ e := fun e => hep e.symm
  have hpa : p ≠ a := fun e => hap e.symm
  have f3 := kp.frozen 3
  have f4 := kp.frozen 4
  have fe := ke.frozen 4
  have fa := (hN a ha).frozen 3
  have fg := hg.frozen (o + 1)
  have ca : ∃ v, w.cell? ⟨a, 3, none⟩ = some v := ⟨_, (hN a ha).cell 3⟩
  obtain ⟨va, ca⟩ := ca
  have wz : IntKind.i64.wrap (n + (F p).z) = n + (F p).z := IntWalk.i64_in _ (by omega)
  obtain ⟨z, hze⟩ : ∃ z, (F p).z = z := ⟨_, rfl⟩
  rw [hze] at x1 wz hz ⊢
  have HG := Lib.hid hg
  have HN := Lib.hid hN
  have HNG := Lib.hid hng
  have HA := Lib.hid ha
  have HE := Lib.hid he
  have HP := Lib.hid hp
  obtain ⟨hz0, hz1, hz2⟩ := hz
  clear hg h1 h0 hN hng he ha hp hod hze kp ke hep hap
  go_enter Tryz.func103, Tryz.ntmps103
  go_wp2
  go_region_with (go_at_call 121; refine (newest_any _ g o e a (by first | exact y0 | simp [*]) (by first | exact z4 | simp [*])).mono ?_; rintro e w' ⟨rfl, rfl⟩)
  all_goals
    go_wp2
    go_region
    go_wp2
    go_region
    go_wp2
    refine bodyPost_ret (v := .tuple #[]) (by simp [results, Tryz.results103, go_sem]) rfl ⟨rfl, ?_, ?_, ?_, ?_⟩
    · repeat (with_reducible refine NN.drew ?_)
      exact ((((HN.out.upN p (some e)).upO p (some a)).upO e (some p)).upN a (some p)).far (p := ⟨g, o + 1, none⟩) HNG.out _
    · repeat (with_reducible refine Bk.drew ?_)
      exact ((((HG.out.far hgp _).far hgp _).far hge _).far hga _).set_ (o + 1) _
    · repeat (with_reducible refine Chg.drew ?_)
      exact ((((((Chg.refl (fun k => k = g ∨ N k) w).setCell (p := ⟨p, 3, none⟩) (Or.inr HP.out) _).setCell (p := ⟨p, 4, none⟩) (Or.inr HP.out) _).setCell (p := ⟨e, 4, none⟩) (Or.inr HE.out) _).setCell (p := ⟨a, 3, none⟩) (Or.inr HA.out) _).setCell (p := ⟨g, o + 1, none⟩) (Or.inl rfl) _)
    · simp [World.setCell]
end Go.Proofs.YtjngangojgjceaaGreat.SL
