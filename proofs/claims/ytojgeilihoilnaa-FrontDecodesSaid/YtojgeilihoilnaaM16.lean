/- Words for the laws of layer 3: a block that is an ask; how one is stored and loaded; slices that are written down.
   The law's own helper 'known' of layer 3 returns true: fixed calls of package front answer as they must; below the memory that was there nothing turns.
   The law's own helper 'known' of layer 3 returns true: fixed calls of package front answer as they must; below the memory that was there nothing turns.
   An argument that is an ask, or a message, opened: what the form hands in reads as an ask; its texts are within the form's reach. -/
import Derived.Test.YtojgeilihoilnaaM12
import Derived.Test.YtojgeilihoilnaaM13
import Derived.Test.YtojgeilihoilnaaM14
import Derived.Test.YtojgeilihoilnaaM18
import Derived.Deep.Fields
import Derived.Lib.SmallJoins
import Derived.SizedLaws
import Derived.ChangeOld
import Derived.Carry
set_option linter.unusedSimpArgs false
set_option linter.unusedVariables false
namespace Go.Proofs.Ytojgeilihoilnaa
open Go.ChangeShapes Go.WideShapes Go.ChangeAt Go.RowKit
set_option linter.unusedVariables false

/-- block g is an ask that reads as a -/
def Bx (w : World) (g : Nat) (a : Ask) : Prop := ∃ kv vv av nv fv, Blk w g 29 (askV a kv vv av nv fv) ∧ AR (fun b => b < w.heap.size) w (.agg (askV a kv vv av nv fv)) a
theorem AR.grow {w w' : World} {v : Value} {a : Ask} (h : AR (fun b => b < w.heap.size) w v a) (hb : Below w.heap.size w w') : AR (fun b => b < w'.heap.size) w' v a :=
  h.step (fun b hk => hb.block b hk) (fun b hk => Nat.lt_of_lt_of_le hk hb.size)
theorem LR.grow {w w' : World} {v : Value} {l : List Value} (h : LR (fun b => b < w.heap.size) w v l) (hb : Below w.heap.size w w') : LR (fun b => b < w'.heap.size) w' v l :=
  h.step (fun b hk => hb.block b hk) (fun b hk => Nat.lt_of_lt_of_le hk hb.size)
theorem Bx.below {w w' : World} {g : Nat} {a : Ask} (h : Bx w g a) (hb : Below w.heap.size w w') : Bx w' g a := by
  obtain ⟨kv, vv, av, nv, fv, h1, h2⟩ := h
  exact ⟨kv, vv, av, nv, fv, h1.below hb h1.lt, h2.grow hb⟩
theorem grow_ {w w1 w2 : World} (h : Below w.heap.size w w1) (k : Below w1.heap.size w1 w2) : Below w.heap.size w w2 := h.trans (k.mono h.size)
theorem bel_alloc (w : World) (o : Obj) : Below w.heap.size w (w.alloc o) := (Below.refl _ _).alloc (Nat.le_refl _) _
theorem bel_drew (w : World) : Below w.heap.size w w.drew := (Below.refl _ _).drew
theorem bel_drewN (w : World) (n : Nat) : Below w.heap.size w (w.drewN n) := below_drewN (Below.refl _ _) n
theorem AR.one {P : Nat → Prop} {w : World} {a b : Ask} {kv vv av nv fv : Value} (h : AR P w (.agg (askV a kv vv av nv fv)) b) : (askV a kv vv av nv fv).all (·.oneCell') = true := by
  obtain ⟨kv2, vv2, av2, nv2, fv2, e, h1, h2, h3, h4, h5⟩ := h.ex
  injection e with e
  rw [e]
  exact askOne _ _ _ _ _ _ h1.one h2.one h3.one h4.one h5.one
theorem bx_made (w : World) (cs : Array Value) (hz : cs.size = 14) (a : Ask) (v : Array Value) (h : AR (fun b => b < w.heap.size) w (.agg v) a) :
    Bx ((w.alloc (.cells cs 29)).setCells w.heap.size 0 v.toList) w.heap.size a ∧ Below w.heap.size w ((w.alloc (.cells cs 29)).setCells w.heap.size 0 v.toList) := by
  obtain ⟨kv, vv, av, nv, fv, e, _⟩ := h.ex
  injection e with e
  subst e
  have hq := (Blk.new w 29 cs).store (askV a kv vv av nv fv) (by rw [hz]; rfl)
  have hk := Keeps.sets w.heap.size (.inl (List.mem_singleton.2 rfl)) (askV a kv vv av nv fv).toList 0 _ (Keeps.refl [w.heap.size] (w.alloc (.cells cs 29)))
  have hb : Below w.heap.size w ((w.alloc (.cells cs 29)).setCells w.heap.size 0 (askV a kv vv av nv fv).toList) :=
    (bel_alloc w _).trans (hk.below (fun i hi => by rw [List.mem_singleton.1 hi]; exact Nat.le_refl _) (by simp))
  exact ⟨⟨kv, vv, av, nv, fv, hq, h.grow hb⟩, hb⟩
theorem bx_new (w : World) (a : Ask) (v : Array Value) (h : AR (fun b => b < w.heap.size) w (.agg v) a) : Bx (w.alloc (.cells v 29)) w.heap.size a := by
  obtain ⟨kv, vv, av, nv, fv, e, _⟩ := h.ex
  injection e with e
  subst e
  exact ⟨kv, vv, av, nv, fv, Blk.new w 29 _, h.grow (bel_alloc w _)⟩
theorem LR.lit (w : World) (t : TypeId) (cs : Array Value) (hz : cs.size ≤ maxLen) : LR (fun b => b < (w.alloc (.cells cs t)).heap.size) (w.alloc (.cells cs t)) (.slice (some ⟨w.heap.size, 0, none⟩) cs.toList.length cs.toList.length) cs.toList := by
  refine ⟨_, _, rfl, Nat.le_refl _, by simpa using hz, fun _ => ⟨w.heap.size, 0, rfl, by simp, fun j x hx => ?_⟩⟩
  rw [Nat.zero_add, (Blk.new w t cs).cell j]
  simpa using hx
section
variable {ops : Array Oper} {Q : Exit → Act → World → Prop} {a : Act} {w : World} {op : Oper} {rest : List Oper}
theorem store_box (d x : Nat) (r : Ask) (v cs : Array Value) (hz : cs.size = 14) (hgd : op.guard = none) (ho : op.op = .store 29 (.tmp d) (.tmp x)) (hx : a.eval (.tmp d) = .pointer (some ⟨w.heap.size, 0, none⟩)) (hy : a.eval (.tmp x) = .agg v)
    (har : AR (fun b => b < w.heap.size) w (.agg v) r) (h : ∀ W, Bx W w.heap.size r → Below w.heap.size w W → wpList Try.prog ops Q rest (a.put op.dst undef) W) : wpList Try.prog ops Q (op :: rest) a (w.alloc (.cells cs 29)) := by
  obtain ⟨h1, h2⟩ := bx_made w cs hz r v har
  obtain ⟨kv, vv, av, nv, fv, e, _⟩ := har.ex
  injection e with e
  subst e
  exact wpList_store_mid hgd 29 (.tmp d) (.tmp x) ho w.heap.size 0 _ hx hy ((Blk.new w 29 cs).there _ (by rw [hz]; exact Nat.le_refl _)) askInfo har.one (h _ h1 h2)
theorem load_box (x g : Nat) (r : Ask) (hw : Region.wanted op (yielded ops a.tmps) = true) (ho : op.op = .load 29 (.tmp x)) (hx : a.eval (.tmp x) = .pointer (some ⟨g, 0, none⟩)) (hb : Bx w g r)
    (h : ∀ kv vv av nv fv, AR (fun b => b < w.heap.size) w (.agg (askV r kv vv av nv fv)) r → wpList Try.prog ops Q rest (a.put op.dst (.agg (askV r kv vv av nv fv))) w) : wpList Try.prog ops Q (op :: rest) a w := by
  obtain ⟨kv, vv, av, nv, fv, h1, h2⟩ := hb
  exact s_load 29 (.tmp x) _ _ ho hx (st_load_ask w g _ h1 rfl) hw (h kv vv av nv fv h2)
end
end Go.Proofs.Ytojgeilihoilnaa
namespace Go.Proofs.Ytojgeilihoilnaa
open Go.ChangeShapes Go.WideShapes Go.ChangeAt Go.RowKit
set_option linter.unusedVariables false

def askB : Ask := { kind := 66, portal := [112], name := [115], args := [[120, 121], []], null := [false, true], formats := [1] }
def askD : Ask := { keys := [[117, 115, 101, 114]], vals := [[117]] }
def askS : Ask := { kind := 83, sql := [120] }
theorem k1 : decP 81 (⟨#[97, 0]⟩ : ByteArray).data.toList = ({ kind := 81, sql := [97] }, 0) := by decide +kernel
theorem k2 : decP 81 (⟨#[97]⟩ : ByteArray).data.toList = ({}, 4) := by decide +kernel
theorem k3 : decP 122 (⟨#[]⟩ : ByteArray).data.toList = ({}, 5) := by decide +kernel
theorem k4 : encW askB = ((66, [112, 0, 115, 0, 0, 0, 0, 2, 0, 0, 0, 2, 120, 121, 255, 255, 255, 255, 0, 1, 0, 1]), 0) := by decide +kernel
theorem k5 : decP 66 (⟨#[112, 0, 115, 0, 0, 0, 0, 2, 0, 0, 0, 2, 120, 121, 255, 255, 255, 255, 0, 1, 0, 1]⟩ : ByteArray).data.toList = (askB, 0) := by decide +kernel
theorem right_D : RightP askD := ⟨{ kept := by decide +kernel, vals := by decide, null := by decide, args100 := by decide, fmts100 := by decide, keys100 := by decide, name0 := by decide, portal0 := by decide, sql0 := by decide, keys0 := by decide, vals0 := by decide, pid4 := by decide, secret4 := by decide, most0 := by decide, most4 := by decide, keysN := by decide, nulls := by decide, fmts := by decide, what := by decide }, by decide +kernel⟩
theorem k6 : encW askD = ((0, [0, 3, 0, 0, 117, 115, 101, 114, 0, 117, 0, 0]), 0) := by
  rw [encW_eq]
  unfold encP
  rw [if_pos right_D]
  decide +kernel
theorem k7 : encW askS = ((0, []), 4) := by decide +kernel
theorem fewB : Few askB := ⟨by decide, by decide, by decide, by decide, by decide, by decide, by decide, by decide, by decide, by decide, by decide⟩
theorem fewD : Few askD := ⟨by decide, by decide, by decide, by decide, by decide, by decide, by decide, by decide, by decide, by decide, by decide⟩
theorem fewS : Few askS := ⟨by decide, by decide, by decide, by decide, by decide, by decide, by decide, by decide, by decide, by decide, by decide⟩
def askQ : Ask := { kind := 81, sql := [97] }
theorem fewQ : Few askQ := ⟨by decide, by decide, by decide, by decide, by decide, by decide, by decide, by decide, by decide, by decide, by decide⟩
end Go.Proofs.Ytojgeilihoilnaa
namespace Go.Proofs.Ytojgeilihoilnaa
open Go.ChangeShapes Go.WideShapes Go.ChangeAt Go.RowKit
set_option linter.unusedVariables false

theorem ar_own {b0 : Nat} {w : World} {v : Value} {a : Ask} (h : AR (fun b => b0 ≤ b ∧ b < w.heap.size) w v a) : AR (fun b => b < w.heap.size) w v a := h.step (fun _ _ => rfl) (fun _ h => h.2)
theorem ar_flat (w : World) (a : Ask) (h1 : a.keys = []) (h2 : a.vals = []) (h3 : a.args = []) (h4 : a.null = []) (h5 : a.formats = []) :
    AR (fun b => b < w.heap.size) w (.agg (askV a (.slice none 0 0) (.slice none 0 0) (.slice none 0 0) (.slice none 0 0) (.slice none 0 0))) a :=
  ⟨_, _, _, _, _, rfl, by rw [h1]; exact LR.nil _ _, by rw [h2]; exact LR.nil _ _, by rw [h3]; exact LR.nil _ _, by rw [h4]; exact LR.nil _ _, by rw [h5]; exact LR.nil _ _⟩
theorem ar_B (w : World) : AR (fun b => b < (((w.alloc (.cells #[.string ⟨#[120, 121]⟩, .string ⟨#[]⟩] 9)).alloc (.cells #[.bool false, .bool true] 4)).alloc (.cells #[.int .i64 1] 3)).heap.size) (((w.alloc (.cells #[.string ⟨#[120, 121]⟩, .string ⟨#[]⟩] 9)).alloc (.cells #[.bool false, .bool true] 4)).alloc (.cells #[.int .i64 1] 3))
    (.agg (askV askB (.slice none 0 0) (.slice none 0 0) (.slice (some ⟨w.heap.size, 0, none⟩) 2 2) (.slice (some ⟨w.heap.size + 1, 0, none⟩) 2 2) (.slice (some ⟨w.heap.size + 2, 0, none⟩) 1 1))) askB := by
  have z1 : (w.alloc (.cells #[.string ⟨#[120, 121]⟩, .string ⟨#[]⟩] 9)).heap.size = w.heap.size + 1 := by simp
  have z2 : ((w.alloc (.cells #[.string ⟨#[120, 121]⟩, .string ⟨#[]⟩] 9)).alloc (.cells #[.bool false, .bool true] 4)).heap.size = w.heap.size + 2 := by simp
  have h1 := ((LR.lit w 9 #[.string ⟨#[120, 121]⟩, .string ⟨#[]⟩] (by decide)).grow (bel_alloc _ (.cells #[.bool false, .bool true] 4))).grow (bel_alloc _ (.cells #[.int .i64 1] 3))
  have h2 := (LR.lit (w.alloc (.cells #[.string ⟨#[120, 121]⟩, .string ⟨#[]⟩] 9)) 4 #[.bool false, .bool true] (by decide)).grow (bel_alloc _ (.cells #[.int .i64 1] 3))
  have h3 := LR.lit ((w.alloc (.cells #[.string ⟨#[120, 121]⟩, .string ⟨#[]⟩] 9)).alloc (.cells #[.bool false, .bool true] 4)) 3 #[.int .i64 1] (by decide)
  rw [z1] at h2
  rw [z2] at h3
  exact ⟨_, _, _, _, _, rfl, LR.nil _ _, LR.nil _ _, h1, h2, h3⟩
theorem ar_D (w : World) : AR (fun b => b < ((w.alloc (.cells #[.string ⟨#[117, 115, 101, 114]⟩] 9)).alloc (.cells #[.string ⟨#[117]⟩] 9)).heap.size) ((w.alloc (.cells #[.string ⟨#[117, 115, 101, 114]⟩] 9)).alloc (.cells #[.string ⟨#[117]⟩] 9))
    (.agg (askV askD (.slice (some ⟨w.heap.size, 0, none⟩) 1 1) (.slice (some ⟨w.heap.size + 1, 0, none⟩) 1 1) (.slice none 0 0) (.slice none 0 0) (.slice none 0 0))) askD := by
  have z1 : (w.alloc (.cells #[.string ⟨#[117, 115, 101, 114]⟩] 9)).heap.size = w.heap.size + 1 := by simp
  have h1 := (LR.lit w 9 #[.string ⟨#[117, 115, 101, 114]⟩] (by decide)).grow (bel_alloc _ (.cells #[.string ⟨#[117]⟩] 9))
  have h2 := LR.lit (w.alloc (.cells #[.string ⟨#[117, 115, 101, 114]⟩] 9)) 9 #[.string ⟨#[117]⟩] (by decide)
  rw [z1] at h2
  exact ⟨_, _, _, _, _, rfl, h1, h2, LR.nil _ _, LR.nil _ _, LR.nil _ _⟩
theorem dec_lit (k : UInt8) (n : Int) (s : ByteArray) (r : Ask) (c : Int) (hk : (k.toNat : Int) = n) (e : decP k s.data.toList = (r, c)) (hs : s.size ≤ 1099511627776) (w : World) :
    Calls Try.prog 9 #[.agg #[.int .u8 n, .string s]] w fun e w' => ∃ v, e = .returned (.tuple #[.agg v, .int .i64 c]) ∧ AR (fun b => b < w'.heap.size) w' (.agg v) r ∧ Below w.heap.size w w' := by
  subst hk
  refine (dec_any k s w hs).mono ?_
  rintro e2 w2 ⟨v, h1, h2, h3⟩
  rw [e] at h1 h2
  obtain ⟨kv, vv, av, nv, fv, rfl, _⟩ := h2.ex
  exact ⟨_, h1, ar_own h2, h3⟩
theorem enc_lit (a : Ask) (v : Value) (w : World) (f : Few a) (har : AR (fun i => i < w.heap.size) w v a) (k : UInt8) (n : Int) (l : Tx) (s : ByteArray) (c : Int) (hk : (k.toNat : Int) = n) (hs : ba l = s) (e : encW a = ((k, l), c)) :
    Calls Try.prog 13 #[v] w fun e w' => e = .returned (.tuple #[.agg #[.int .u8 n, .string s], .int .i64 c]) ∧ Below w.heap.size w w' := by
  subst hk hs
  have := enc_any a v w f har
  rw [e] at this
  exact this

theorem alike_yes (w : World) (a : Ask) (v1 v2 : Value) (h1 : AR (fun i => i < w.heap.size) w v1 a) (h2 : AR (fun i => i < w.heap.size) w v2 a) (l1 : Lens a) :
    Calls Try.prog 11 #[v1, v2] w fun e w' => e = .returned (.bool true) ∧ Below w.heap.size w w' := by
  have := alike_any w a a v1 v2 h1 h2 l1 l1
  rw [decide_eq_true rfl] at this
  exact this
theorem right_B (w : World) (v : Value) (h : AR (fun i => i < w.heap.size) w v askB) : Calls Try.prog 15 #[v] w fun e w' => e = .returned (.bool true) ∧ Below w.heap.size w w' := by
  have := right3_any askB v w fewB h
  rw [k4] at this
  exact this

set_option maxHeartbeats 2000000 in
set_option maxRecDepth 100000 in
theorem known_any (w : World) : Calls Try.prog 8 #[] w fun e w' => e = .returned (.bool true) ∧ Below w.heap.size w w' := by
  have dQ := fun W => dec_lit 81 81 _ _ _ rfl k1 (by decide) W
  have dN := fun W => dec_lit 81 81 _ _ _ rfl k2 (by decide) W
  have dZ := fun W => dec_lit 122 122 _ _ _ rfl k3 (by decide) W
  have dB := fun W => dec_lit 66 66 _ _ _ rfl k5 (by decide) W
  go_enter Try.func8, Try.ntmps8
  go_wp2_with fail
  refine (dQ _).mono ?_; rintro e w1 ⟨v1, rfl, har1, hB⟩
  go_wp2_with ((with_reducible refine store_box (op := ⟨none, .store 29 (.tmp 1) (.tmp 19), _, _, _, _⟩) 1 19 _ _ _ ?_ rfl rfl ?_ ?_ har1 ?_); (· rfl); (· rfl); (· rfl); (intro W1 bx1 hbz; replace hB := grow_ hB hbz;  clear hbz har1; generalize w1.heap.size = g1 at *; clear w1))
  refine (dN _).mono ?_; rintro e w2 ⟨v2, rfl, har2, hb2⟩
  replace bx1 := bx1.below hb2
  replace hB := grow_ hB hb2
  clear hb2
  go_wp2_with ((with_reducible refine store_box (op := ⟨none, .store 29 (.tmp 3) (.tmp 24), _, _, _, _⟩) 3 24 _ _ _ ?_ rfl rfl ?_ ?_ har2 ?_); (· rfl); (· rfl); (· rfl); (intro W2 bx2 hbz; replace hB := grow_ hB hbz; replace bx1 := bx1.below hbz; clear hbz har2; generalize w2.heap.size = g2 at *; clear w2))
  clear bx2
  refine (dZ _).mono ?_; rintro e w3 ⟨v3, rfl, har3, hb3⟩
  replace bx1 := bx1.below hb3
  replace hB := grow_ hB hb3
  clear hb3
  go_wp2_with ((with_reducible refine store_box (op := ⟨none, .store 29 (.tmp 5) (.tmp 29), _, _, _, _⟩) 5 29 _ _ _ ?_ rfl rfl ?_ ?_ har3 ?_); (· rfl); (· rfl); (· rfl); (intro W3 bx3 hbz; replace hB := grow_ hB hbz; replace bx1 := bx1.below hbz; clear hbz har3; generalize w3.heap.size = g3 at *; clear w3))
  clear bx3 dQ dN dZ
  have harB := (ar_B W3).grow (bel_alloc _ (.cells (askV askB (.slice none 0 0) (.slice none 0 0) (.slice (some ⟨W3.heap.size, 0, none⟩) 2 2) (.slice (some ⟨W3.heap.size + 1, 0, none⟩) 2 2) (.slice (some ⟨W3.heap.size + 2, 0, none⟩) 1 1)) 29))
  have bx7 := bx_new _ askB _ (ar_B W3)
  have hb3 : Below W3.heap.size W3 ((((W3.alloc (.cells #[.string ⟨#[120, 121]⟩, .string ⟨#[]⟩] 9)).alloc (.cells #[.bool false, .bool true] 4)).alloc (.cells #[.int .i64 1] 3)).alloc (.cells (askV askB (.slice none 0 0) (.slice none 0 0) (.slice (some ⟨W3.heap.size, 0, none⟩) 2 2) (.slice (some ⟨W3.heap.size + 1, 0, none⟩) 2 2) (.slice (some ⟨W3.heap.size + 2, 0, none⟩) 1 1)) 29)) :=
    grow_ (grow_ (grow_ (bel_alloc _ _) (bel_alloc _ _)) (bel_alloc _ _)) (bel_alloc _ _)
  rw [show (((W3.alloc (.cells #[.string ⟨#[120, 121]⟩, .string ⟨#[]⟩] 9)).alloc (.cells #[.bool false, .bool true] 4)).alloc (.cells #[.int .i64 1] 3)).heap.size = W3.heap.size + 1 + 1 + 1 by simp] at bx7
  refine (enc_lit askB _ _ fewB harB 66 66 _ ⟨#[112, 0, 115, 0, 0, 0, 0, 2, 0, 0, 0, 2, 120, 121, 255, 255, 255, 255, 0, 1, 0, 1]⟩ 0 rfl rfl k4).mono ?_; rintro e w4 ⟨rfl, hb4⟩
  replace bx1 := (bx1.below hb3).below hb4
  replace bx7 := bx7.below hb4
  replace hB := grow_ (grow_ hB hb3) hb4
  clear hb3 hb4 harB
  generalize W3.heap.size + 1 + 1 + 1 = g7 at *
  go_wp2_with fail
  have b8 := Blk.new w4 23 #[.int .u8 66, .string ⟨#[112, 0, 115, 0, 0, 0, 0, 2, 0, 0, 0, 2, 120, 121, 255, 255, 255, 255, 0, 1, 0, 1]⟩]
  have hb4 := bel_alloc w4 (.cells #[.int .u8 66, .string ⟨#[112, 0, 115, 0, 0, 0, 0, 2, 0, 0, 0, 2, 120, 121, 255, 255, 255, 255, 0, 1, 0, 1]⟩] 23)
  refine (dB _).mono ?_; rintro e w5 ⟨v5, rfl, har5, hb5⟩
  replace bx1 := (bx1.below hb4).below hb5
  replace bx7 := (bx7.below hb4).below hb5
  replace b8 := b8.below hb5 b8.lt
  replace hB := grow_ (grow_ hB hb4) hb5
  clear hb4 hb5 dB
  generalize w4.heap.size = g8 at *
  go_wp2_with ((with_reducible refine store_box (op := ⟨none, .store 29 (.tmp 10) (.tmp 43), _, _, _, _⟩) 10 43 _ _ _ ?_ rfl rfl ?_ ?_ har5 ?_); (· rfl); (· rfl); (· rfl); (intro W5 bx10 hbz; replace hB := grow_ hB hbz; replace bx1 := bx1.below hbz; replace bx7 := bx7.below hbz; replace b8 := b8.below hbz b8.lt; clear hbz har5; generalize w5.heap.size = g10 at *; clear w5))
  refine (enc_lit askD _ _ fewD (ar_D W5) 0 0 _ ⟨#[0, 3, 0, 0, 117, 115, 101, 114, 0, 117, 0, 0]⟩ 0 rfl rfl k6).mono ?_; rintro e w6 ⟨rfl, hb6⟩
  have hb5 := grow_ (bel_alloc W5 (.cells #[.string ⟨#[117, 115, 101, 114]⟩] 9)) (bel_alloc _ (.cells #[.string ⟨#[117]⟩] 9))
  replace bx1 := (bx1.below hb5).below hb6
  replace bx7 := (bx7.below hb5).below hb6
  replace bx10 := (bx10.below hb5).below hb6
  replace b8 := (b8.below hb5 b8.lt); replace b8 := b8.below hb6 b8.lt
  replace hB := grow_ (grow_ hB hb5) hb6
  clear hb5 hb6
  go_wp2_with fail
  have b12 := Blk.new w6 23 #[.int .u8 0, .string ⟨#[0, 3, 0, 0, 117, 115, 101, 114, 0, 117, 0, 0]⟩]
  have hb6 := bel_alloc w6 (.cells #[.int .u8 0, .string ⟨#[0, 3, 0, 0, 117, 115, 101, 114, 0, 117, 0, 0]⟩] 23)
  refine (enc_lit askS _ _ fewS (ar_flat _ askS rfl rfl rfl rfl rfl) 0 0 _ ⟨#[]⟩ 4 rfl rfl k7).mono ?_; rintro e w7 ⟨rfl, hb7⟩
  replace bx1 := (bx1.below hb6).below hb7
  replace bx7 := (bx7.below hb6).below hb7
  replace bx10 := (bx10.below hb6).below hb7
  replace b8 := (b8.below hb6 b8.lt); replace b8 := b8.below hb7 b8.lt
  replace b12 := b12.below hb7 b12.lt
  replace hB := grow_ (grow_ hB hb6) hb7
  clear hb6 hb7
  generalize w6.heap.size = g12 at *
  go_upto_region 9 with fail
  have hbz := bel_alloc w7 (.cells #[.int .u8 0, .string ⟨#[]⟩] 23)
  replace bx1 := bx1.below hbz
  replace bx7 := bx7.below hbz
  replace bx10 := bx10.below hbz
  replace b8 := b8.below hbz b8.lt
  replace b12 := b12.below hbz b12.lt
  replace hB := grow_ hB hbz
  clear hbz
  generalize w7.alloc (.cells #[.int .u8 0, .string ⟨#[]⟩] 23) = W7 at *
  generalize w7.heap.size = g14 at *
  clear w7
  go_wp2_with (first
    | ((with_reducible refine load_box (op := ⟨some 57, .load 29 (.tmp 1), _, _, _, _⟩) 1 g1 _ ?_ rfl ?_ bx1 ?_); (· rfl); (· rfl); (intro kv57 vv57 av57 nv57 fv57 har57))
    | ((with_reducible refine load_box (op := ⟨some 82, .load 29 (.tmp 7), _, _, _, _⟩) 7 g7 _ ?_ rfl ?_ bx7 ?_); (· rfl); (· rfl); (intro kv82 vv82 av82 nv82 fv82 har82))
    | ((with_reducible refine load_box (op := ⟨some 83, .load 29 (.tmp 10), _, _, _, _⟩) 10 g10 _ ?_ rfl ?_ bx10 ?_); (· rfl); (· rfl); (intro kv83 vv83 av83 nv83 fv83 har83))
    | ((with_reducible refine load_box (op := ⟨some 104, .load 29 (.tmp 7), _, _, _, _⟩) 7 g7 _ ?_ rfl ?_ bx7 ?_); (· rfl); (· rfl); (intro kv104 vv104 av104 nv104 fv104 har104))
    | (go_at_call 11; refine (alike_yes _ askQ _ _ har57 (ar_flat _ askQ rfl rfl rfl rfl rfl) fewQ.lens).mono ?_; rintro e wa ⟨rfl, hbz⟩; replace bx7 := bx7.below hbz; replace bx10 := bx10.below hbz; replace b8 := b8.below hbz b8.lt; replace b12 := b12.below hbz b12.lt; replace hB := grow_ hB hbz; clear hbz; clear har57; have c8 : wa.cell? ⟨g8, 1, none⟩ = some (.string ⟨#[112, 0, 115, 0, 0, 0, 0, 2, 0, 0, 0, 2, 120, 121, 255, 255, 255, 255, 0, 1, 0, 1]⟩) := b8.cell 1)
    | (go_at_call 11; refine (alike_yes _ askB _ _ har82 har83 fewB.lens).mono ?_; rintro e wb ⟨rfl, hbz⟩; replace bx7 := bx7.below hbz; replace bx10 := bx10.below hbz; replace b8 := b8.below hbz b8.lt; replace b12 := b12.below hbz b12.lt; replace hB := grow_ hB hbz; clear hbz; clear har82 har83; have c12 : wb.cell? ⟨g12, 1, none⟩ = some (.string ⟨#[0, 3, 0, 0, 117, 115, 101, 114, 0, 117, 0, 0]⟩) := b12.cell 1)
    | (go_at_call 15; refine (right_B _ _ har104).mono ?_; rintro e wc ⟨rfl, hbz⟩; replace hB := grow_ hB hbz; clear hbz))
  go_ret
  exact ⟨rfl, hB⟩
end Go.Proofs.Ytojgeilihoilnaa
namespace Go.Proofs.Ytojgeilihoilnaa
open Go.ChangeShapes Go.WideShapes Go.ChangeAt Go.RowKit Go.Deep
set_option linter.unusedVariables false

theorem weightsAll_in {H : Type} {P : Program} {e : TypeId} : ∀ {l : List (DataW H)} {d : DataW H}, d ∈ l → ∀ n ∈ d.weights P e, n ∈ DataW.weightsAll P e l
  | [], _, h, _, _ => by cases h
  | x :: r, d, h, n, hn => by
    rcases List.mem_cons.1 h with rfl | h
    · simp [DataW.weightsAll, hn]
    · simp [DataW.weightsAll, weightsAll_in h n hn]
theorem u8_is (n : Int) (h : (Lit.int .u8 n).wf = true) : ∃ k : UInt8, Value.int .u8 n = u8 k := by
  have hb : 0 ≤ n ∧ n < 256 := by simp [Lit.wf, IntKind.min, IntKind.max, IntKind.signed, IntKind.bits] at h; omega
  refine ⟨UInt8.ofNat n.toNat, ?_⟩
  unfold u8
  have : (UInt8.ofNat n.toNat).toNat = n.toNat := by simp [UInt8.toNat_ofNat']; omega
  rw [this, Int.toNat_of_nonneg hb.1]
theorem cell_lt {w : World} {a : Addr} {v : Value} (h : w.cell? a = some v) : a.block < w.heap.size := by
  by_cases hl : a.block < w.heap.size
  · exact hl
  · have hn : w.heap[a.block]? = none := Array.getElem?_eq_none (by omega)
    unfold World.cell? at h
    rw [hn] at h
    revert h
    cases a.spot <;> simp
section
variable {H : Type} {enc : TypeId × Value → H} {W : World} {fuel : Nat}
theorem lr_of {ts te : TypeId} {c : Value} {x : DataW H × List MemPlace} (ht : Try.prog.underlying ts = some (.slice te)) (hc : Try.prog.cellsOf te = 1) (h : DataW.trod enc Try.prog W 0 (fun _ => true) true fuel ts [c] = some x) :
    ∃ (xs : List Value), LR (fun b => b < W.heap.size) W c xs ∧ ∀ v ∈ xs, ∃ (n : Nat) (D : DataW H) (p : List MemPlace), DataW.trod enc Try.prog W 0 (fun _ => true) true n te [v] = some (D, p) ∧ ∀ k ∈ D.weights Try.prog te, k ∈ x.1.weights Try.prog ts := by
  rcases open_slice1 ht hc h with ⟨e, _⟩ | ⟨ad, len, cap, m, n, V, D, Pl, e, hb, hl, hm, hmm, hx, hi⟩
  · injection e with e _
    subst e
    exact ⟨[], LR.nil _ _, fun v hv => by cases hv⟩
  · injection e with e _
    subst e
    have hmm' : m = cap := by rw [hmm]; simp
    refine ⟨(List.range len).map V, ?_, fun v hv => ?_⟩
    · by_cases h0 : len = 0
      · subst h0
        exact ⟨_, cap, rfl, by simp, hm, fun hn => absurd rfl hn⟩
      · have c0 := (hi 0 (by omega)).1
        have hsp : ad.spot = none := by
          have hcell : (W.cell? (ad.add 0)).isSome = true := by rw [c0]; rfl
          have e : ad.add 0 = ad := by simp [Addr.add]
          rw [e] at hcell
          unfold World.cell? at hcell
          cases hs : ad.spot with
          | none => rfl
          | some q => rw [hs] at hcell; revert hcell; split <;> simp
        obtain ⟨bl, of, sp⟩ := ad
        simp only at hsp
        subst hsp
        refine ⟨_, cap, by simp, by simpa using hl, hm, fun _ => ⟨bl, of, rfl, ?_, fun j y hy => ?_⟩⟩
        · have := cell_lt c0
          simpa [Addr.add] using this
        · have hj : j < len := by have := (List.getElem?_eq_some_iff.1 hy).1; simpa using this
          have := (hi j (by omega)).1
          rw [Addr.add_lit] at this
          rw [this]
          simp [hj] at hy
          rw [← hy]
    · obtain ⟨i, hi1, rfl⟩ := List.mem_map.1 hv
      have hi2 := List.mem_range.1 hi1
      refine ⟨n, D i, Pl i, (hi i (by omega)).2, fun k hk => ?_⟩
      rw [hx]
      simp only [DataW.weights, ht]
      exact List.mem_cons_of_mem _ (List.mem_append_left _ (weightsAll_in (List.mem_map.2 ⟨i, hi1, rfl⟩) _ hk))
theorem strs_of {Z : Tx → Prop} : ∀ (xs : List Value), (∀ v ∈ xs, ∃ t : Tx, v = .string (ba t) ∧ Z t) → ∃ l : List Tx, xs = strs l ∧ ∀ t ∈ l, Z t
  | [], _ => ⟨[], rfl, fun t ht => by cases ht⟩
  | v :: xs, h => by
    obtain ⟨l, e, hl⟩ := strs_of xs (fun v hv => h v (List.mem_cons_of_mem _ hv))
    obtain ⟨t, e2, hz⟩ := h v (by simp)
    refine ⟨t :: l, by rw [e, e2]; rfl, fun u hu => ?_⟩
    rcases List.mem_cons.1 hu with rfl | hu
    · exact hz
    · exact hl u hu
theorem bools_of : ∀ (xs : List Value), (∀ v ∈ xs, ∃ t : Bool, v = .bool t) → ∃ l : List Bool, xs = bools l
  | [], _ => ⟨[], rfl⟩
  | v :: xs, h => by
    obtain ⟨l, e⟩ := bools_of xs (fun v hv => h v (List.mem_cons_of_mem _ hv))
    obtain ⟨t, e2⟩ := h v (by simp)
    exact ⟨t :: l, by rw [e, e2]; rfl⟩
theorem ints_of : ∀ (xs : List Value), (∀ v ∈ xs, ∃ t : Int, v = .int .i64 t) → ∃ l : List Int, xs = ints l
  | [], _ => ⟨[], rfl⟩
  | v :: xs, h => by
    obtain ⟨l, e⟩ := ints_of xs (fun v hv => h v (List.mem_cons_of_mem _ hv))
    obtain ⟨t, e2⟩ := h v (by simp)
    exact ⟨t :: l, by rw [e, e2]; rfl⟩
theorem one9 : Try.prog.cellsOf 9 = 1 := by kernel_rfl
theorem one5 : Try.prog.cellsOf 5 = 1 := by kernel_rfl
theorem one4 : Try.prog.cellsOf 4 = 1 := by kernel_rfl
theorem one3 : Try.prog.cellsOf 3 = 1 := by kernel_rfl
theorem one25 : Try.prog.cellsOf 25 = 1 := by kernel_rfl
theorem one26 : Try.prog.cellsOf 26 = 1 := by kernel_rfl
theorem one27 : Try.prog.cellsOf 27 = 1 := by kernel_rfl
theorem text_of {c : Value} {x : DataW H × List MemPlace} (h : DataW.trod enc Try.prog W 0 (fun _ => true) true fuel 9 [c] = some x) : ∃ t : Tx, c = .string (ba t) ∧ t.length ∈ x.1.weights Try.prog 9 := by
  obtain ⟨b, e, d, _⟩ := DataW.trod_string Try.underlying9 h
  injection e with e _
  refine ⟨b.data.toList, by rw [ba_of]; exact e, ?_⟩
  rw [d]; simp [DataW.weights]
theorem texts_of {c : Value} {x : DataW H × List MemPlace} (h : DataW.trod enc Try.prog W 0 (fun _ => true) true fuel 25 [c] = some x) : ∃ l : List Tx, LR (fun b => b < W.heap.size) W c (strs l) ∧ ∀ t ∈ l, t.length ∈ x.1.weights Try.prog 25 := by
  obtain ⟨xs, h1, h2⟩ := lr_of Try.underlying25 one9 h
  obtain ⟨l, rfl, hl⟩ := strs_of (Z := fun t => t.length ∈ x.1.weights Try.prog 25) xs (fun v hv => by
    obtain ⟨n, D, p, h3, h4⟩ := h2 v hv
    obtain ⟨t, e, ht⟩ := text_of h3
    exact ⟨t, e, h4 _ ht⟩)
  exact ⟨l, h1, hl⟩
theorem truths_of {c : Value} {x : DataW H × List MemPlace} (h : DataW.trod enc Try.prog W 0 (fun _ => true) true fuel 26 [c] = some x) : ∃ l : List Bool, LR (fun b => b < W.heap.size) W c (bools l) := by
  obtain ⟨xs, h1, h2⟩ := lr_of Try.underlying26 one4 h
  obtain ⟨l, rfl⟩ := bools_of xs (fun v hv => by
    obtain ⟨n, D, p, h3, h4⟩ := h2 v hv
    obtain ⟨b, e, _⟩ := DataW.trod_bool Try.underlying4 h3
    injection e with e _
    exact ⟨b, e⟩)
  exact ⟨l, h1⟩
theorem numbers_of {c : Value} {x : DataW H × List MemPlace} (h : DataW.trod enc Try.prog W 0 (fun _ => true) true fuel 27 [c] = some x) : ∃ l : List Int, LR (fun b => b < W.heap.size) W c (ints l) := by
  obtain ⟨xs, h1, h2⟩ := lr_of Try.underlying27 one3 h
  obtain ⟨l, rfl⟩ := ints_of xs (fun v hv => by
    obtain ⟨n, D, p, h3, h4⟩ := h2 v hv
    obtain ⟨b, e, _⟩ := DataW.trod_int Try.underlying3 h3
    injection e with e _
    exact ⟨b, e⟩)
  exact ⟨l, h1⟩
end
theorem enc_yes (a : Ask) (v : Value) (w : World) (f : Few a) (har : AR (fun i => i < w.heap.size) w v a) (h : RightP a) :
    Calls Try.prog 13 #[v] w fun e w' => e = .returned (.tuple #[.agg #[.int .u8 (a.kind.toNat : Int), .string (ba (body a))], .int .i64 0]) ∧ Below w.heap.size w w' := by
  have := enc_any a v w f har
  rw [encW_eq] at this
  unfold encP at this
  rw [if_pos h] at this
  exact this
theorem enc_no (a : Ask) (v : Value) (w : World) (f : Few a) (har : AR (fun i => i < w.heap.size) w v a) (h : ¬ RightP a) :
    Calls Try.prog 13 #[v] w fun e w' => e = .returned (.tuple #[.agg #[.int .u8 0, .string ⟨#[]⟩], .int .i64 4]) ∧ Below w.heap.size w w' := by
  have := enc_any a v w f har
  rw [encW_eq] at this
  unfold encP at this
  rw [if_neg h] at this
  exact this
theorem enc_some (a : Ask) (v : Value) (w : World) (f : Few a) (har : AR (fun i => i < w.heap.size) w v a) :
    Calls Try.prog 13 #[v] w fun e w' => ∃ (n : Int) (s : ByteArray) (c : Int), e = .returned (.tuple #[.agg #[.int .u8 n, .string s], .int .i64 c]) ∧ Below w.heap.size w w' :=
  (enc_any a v w f har).mono fun e w' ⟨h1, h2⟩ => ⟨_, _, _, h1, h2⟩
theorem right_yes (a : Ask) (v : Value) (w : World) (f : Few a) (har : AR (fun i => i < w.heap.size) w v a) (h : RightP a) : Calls Try.prog 15 #[v] w fun e w' => e = .returned (.bool true) ∧ Below w.heap.size w w' := by
  have := right3_any a v w f har
  rw [encW_eq] at this
  unfold encP at this
  rw [if_pos h] at this
  exact this
theorem right_no (a : Ask) (v : Value) (w : World) (f : Few a) (har : AR (fun i => i < w.heap.size) w v a) (h : ¬ RightP a) : Calls Try.prog 15 #[v] w fun e w' => e = .returned (.bool false) ∧ Below w.heap.size w w' := by
  have := right3_any a v w f har
  rw [encW_eq] at this
  unfold encP at this
  rw [if_neg h] at this
  exact this
/-- v reads as an ask -/
def FitsA (W : World) (v : Value) : Prop := ∃ a : Ask, AR (fun b => b < W.heap.size) W v a ∧ Sz a
/-- v is a message -/
def FitsM (W : World) (v : Value) : Prop := ∃ (k : UInt8) (b : ByteArray), v = .agg #[u8 k, .string b] ∧ b.size ≤ 140737488351232
theorem openedM {H : Type} {enc : TypeId × Value → H} {W : World} {base : Nat} {v : Value} {d : DataW H} {p : List MemPlace} (hv : Value.okWide Try.prog W .any base 23 v)
    (h : DataW.Trod enc Try.prog W 0 (fun _ => true) true 23 v d p) (hz : (DataW.weights Try.prog 23 d).all (· ≤ reachBytes) = true) : FitsM W v := by
  obtain ⟨v0, v1, y0, y1, n, rfl, rfl, _, h0, h1⟩ := Go.Joins.open_agg2 Try.underlying23 (by kernel_rfl) (by kernel_rfl) hv h
  obtain ⟨x, e0, _, w0⟩ := DataW.trod_int Try.underlying5 h0
  obtain ⟨b, e1, e2, _⟩ := DataW.trod_string Try.underlying9 h1
  injection e0 with e0; injection e1 with e1
  subst e0 e1
  obtain ⟨k, hk⟩ := u8_is x w0
  refine ⟨k, b, by rw [hk], ?_⟩
  have := List.all_eq_true.1 hz b.data.toList.length (by
    simp only [DataW.weights, Try.underlying23]
    rw [e2]
    simp [DataW.weights, DataW.weightsEach])
  have := of_decide_eq_true this
  rw [← Lib.size_eq] at this
  exact this
set_option maxRecDepth 100000 in
theorem openedA {H : Type} {enc : TypeId × Value → H} {W : World} {base : Nat} {v : Value} {d : DataW H} {p : List MemPlace} (hv : Value.okWide Try.prog W .any base 29 v)
    (h : DataW.Trod enc Try.prog W 0 (fun _ => true) true 29 v d p) (hz : (DataW.weights Try.prog 29 d).all (· ≤ reachBytes) = true) : FitsA W v := by
  obtain ⟨cs, rfl, hsz⟩ := okWide_struct Try.underlying29 hv
  rw [show Try.prog.cellsOf 29 = 14 by kernel_rfl] at hsz
  obtain ⟨cs⟩ := cs
  obtain ⟨fuel, hf⟩ := h
  obtain ⟨xs, n, _, hx, _, hxl, hat⟩ := DataW.trod_struct Try.underlying29 hf
  match cs, hsz with
  | [c0, c1, c2, c3, c4, c5, c6, c7, c8, c9, c10, c11, c12, c13], _ =>
  match xs, hxl with
  | [y0, y1, y2, y3, y4, y5, y6, y7, y8, y9, y10, y11, y12, y13], _ =>
  simp only [Prod.mk.injEq] at hx
  have hW : ∀ (j : Nat) (t : TypeId) (D : DataW H), [5, 9, 9, 9, 25, 25, 25, 26, 27, 3, 5, 4, 3, 3][j]? = some t → [y0.1, y1.1, y2.1, y3.1, y4.1, y5.1, y6.1, y7.1, y8.1, y9.1, y10.1, y11.1, y12.1, y13.1][j]? = some D → ∀ k ∈ D.weights Try.prog t, k ≤ 140737488351232 := by
    intro j t D h1 h2 k hk
    refine of_decide_eq_true (List.all_eq_true.1 hz k ?_)
    rw [hx.1]
    simp only [DataW.weights, Try.underlying29]
    exact DataW.weights_mem_each h1 h2 k hk
  have h0 : DataW.trod enc Try.prog W 0 (fun _ => true) true n 5 (List.take (Try.prog.cellsOf 5) (List.drop 0 [c0, c1, c2, c3, c4, c5, c6, c7, c8, c9, c10, c11, c12, c13])) = some y0 := hat 0 _ rfl
  have h1 : DataW.trod enc Try.prog W 0 (fun _ => true) true n 9 (List.take (Try.prog.cellsOf 9) (List.drop 1 [c0, c1, c2, c3, c4, c5, c6, c7, c8, c9, c10, c11, c12, c13])) = some y1 := hat 1 _ rfl
  have h2 : DataW.trod enc Try.prog W 0 (fun _ => true) true n 9 (List.take (Try.prog.cellsOf 9) (List.drop 2 [c0, c1, c2, c3, c4, c5, c6, c7, c8, c9, c10, c11, c12, c13])) = some y2 := hat 2 _ rfl
  have h3 : DataW.trod enc Try.prog W 0 (fun _ => true) true n 9 (List.take (Try.prog.cellsOf 9) (List.drop 3 [c0, c1, c2, c3, c4, c5, c6, c7, c8, c9, c10, c11, c12, c13])) = some y3 := hat 3 _ rfl
  have h4 : DataW.trod enc Try.prog W 0 (fun _ => true) true n 25 (List.take (Try.prog.cellsOf 25) (List.drop 4 [c0, c1, c2, c3, c4, c5, c6, c7, c8, c9, c10, c11, c12, c13])) = some y4 := hat 4 _ rfl
  have h5 : DataW.trod enc Try.prog W 0 (fun _ => true) true n 25 (List.take (Try.prog.cellsOf 25) (List.drop 5 [c0, c1, c2, c3, c4, c5, c6, c7, c8, c9, c10, c11, c12, c13])) = some y5 := hat 5 _ rfl
  have h6 : DataW.trod enc Try.prog W 0 (fun _ => true) true n 25 (List.take (Try.prog.cellsOf 25) (List.drop 6 [c0, c1, c2, c3, c4, c5, c6, c7, c8, c9, c10, c11, c12, c13])) = some y6 := hat 6 _ rfl
  have h7 : DataW.trod enc Try.prog W 0 (fun _ => true) true n 26 (List.take (Try.prog.cellsOf 26) (List.drop 7 [c0, c1, c2, c3, c4, c5, c6, c7, c8, c9, c10, c11, c12, c13])) = some y7 := hat 7 _ rfl
  have h8 : DataW.trod enc Try.prog W 0 (fun _ => true) true n 27 (List.take (Try.prog.cellsOf 27) (List.drop 8 [c0, c1, c2, c3, c4, c5, c6, c7, c8, c9, c10, c11, c12, c13])) = some y8 := hat 8 _ rfl
  have h9 : DataW.trod enc Try.prog W 0 (fun _ => true) true n 3 (List.take (Try.prog.cellsOf 3) (List.drop 9 [c0, c1, c2, c3, c4, c5, c6, c7, c8, c9, c10, c11, c12, c13])) = some y9 := hat 9 _ rfl
  have h10 : DataW.trod enc Try.prog W 0 (fun _ => true) true n 5 (List.take (Try.prog.cellsOf 5) (List.drop 10 [c0, c1, c2, c3, c4, c5, c6, c7, c8, c9, c10, c11, c12, c13])) = some y10 := hat 10 _ rfl
  have h11 : DataW.trod enc Try.prog W 0 (fun _ => true) true n 4 (List.take (Try.prog.cellsOf 4) (List.drop 11 [c0, c1, c2, c3, c4, c5, c6, c7, c8, c9, c10, c11, c12, c13])) = some y11 := hat 11 _ rfl
  have h12 : DataW.trod enc Try.prog W 0 (fun _ => true) true n 3 (List.take (Try.prog.cellsOf 3) (List.drop 12 [c0, c1, c2, c3, c4, c5, c6, c7, c8, c9, c10, c11, c12, c13])) = some y12 := hat 12 _ rfl
  have h13 : DataW.trod enc Try.prog W 0 (fun _ => true) true n 3 (List.take (Try.prog.cellsOf 3) (List.drop 13 [c0, c1, c2, c3, c4, c5, c6, c7, c8, c9, c10, c11, c12, c13])) = some y13 := hat 13 _ rfl
  clear hat hf hv hz
  rw [one5] at h0 h10
  rw [one9] at h1 h2 h3
  rw [one25] at h4 h5 h6
  rw [one26] at h7
  rw [one27] at h8
  rw [one3] at h9 h12 h13
  rw [one4] at h11
  obtain ⟨x0, e0, _, w0⟩ := DataW.trod_int Try.underlying5 h0
  obtain ⟨t1, e1, z1⟩ := text_of (c := c1) h1
  obtain ⟨t2, e2, z2⟩ := text_of (c := c2) h2
  obtain ⟨t3, e3, z3⟩ := text_of (c := c3) h3
  obtain ⟨l4, k4, z4⟩ := texts_of (c := c4) h4
  obtain ⟨l5, k5, z5⟩ := texts_of (c := c5) h5
  obtain ⟨l6, k6, z6⟩ := texts_of (c := c6) h6
  obtain ⟨l7, k7⟩ := truths_of (c := c7) h7
  obtain ⟨l8, k8⟩ := numbers_of (c := c8) h8
  obtain ⟨x9, e9, _, _⟩ := DataW.trod_int Try.underlying3 h9
  obtain ⟨x10, e10, _, w10⟩ := DataW.trod_int Try.underlying5 h10
  obtain ⟨x11, e11, _⟩ := DataW.trod_bool Try.underlying4 h11
  obtain ⟨x12, e12, _, _⟩ := DataW.trod_int Try.underlying3 h12
  obtain ⟨x13, e13, _, _⟩ := DataW.trod_int Try.underlying3 h13
  obtain ⟨q0, hq0⟩ := u8_is x0 w0
  obtain ⟨q10, hq10⟩ := u8_is x10 w10
  have e0' : c0 = u8 q0 := by injection e0 with e _; rw [← hq0]; exact e
  have e9' : c9 = .int .i64 x9 := by injection e9 with e _
  have e10' : c10 = u8 q10 := by injection e10 with e _; rw [← hq10]; exact e
  have e11' : c11 = .bool x11 := by injection e11 with e _
  have e12' : c12 = .int .i64 x12 := by injection e12 with e _
  have e13' : c13 = .int .i64 x13 := by injection e13 with e _
  subst e0' e1 e2 e3 e9' e10' e11' e12' e13'
  refine ⟨{ kind := q0, name := t1, portal := t2, sql := t3, keys := l4, vals := l5, args := l6, null := l7, formats := l8, most := x9, what := q10, cancel := x11, pid := x12, secret := x13 }, ⟨c4, c5, c6, c7, c8, rfl, k4, k5, k6, k7, k8⟩, ?_⟩
  refine ⟨fun t ht => ?_, fun t ht => ?_, fun t ht => ?_⟩
  · have := hW 4 _ _ rfl rfl _ (z4 t ht); omega
  · have := hW 5 _ _ rfl rfl _ (z5 t ht); omega
  · have := hW 6 _ _ rfl rfl _ (z6 t ht); omega
end Go.Proofs.Ytojgeilihoilnaa
