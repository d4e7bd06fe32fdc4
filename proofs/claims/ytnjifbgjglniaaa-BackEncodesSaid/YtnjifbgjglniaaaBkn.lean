/- What package back's Decode answers, for every message: what is told, or why not; below the memory that was there nothing turns. Condition: the body is of at most 2^40 bytes. -/
import Derived.Test.YtnjifbgjglniaaaBkm
import Derived.Test.YtnjifbgjglniaaaBkr
import Derived.Test.YtnjifbgjglniaaaBkh
namespace Go.Proofs.Ytnjifbgjglniaaa.BK
open Go.Proofs.Ytnjifbgjglniaaa
open Go.ChangeShapes Go.WideShapes Go.ChangeAt Go.RowKit
set_option linter.unusedVariables false
set_option linter.unusedSimpArgs false
set_option maxRecDepth 100000
attribute [local go_sem ↓] Go.wp_at_zero Go.wp_at_succ

/-- what an answer of Decode is -/
def DecP (r : Tell × Int) (w : World) (e : Ending) (w' : World) : Prop :=
  ∃ v, e = .returned (.tuple #[v, .int .i64 r.2]) ∧ AR (fun b => w.heap.size ≤ b ∧ b < w'.heap.size) w' v r.1 ∧ Below w.heap.size w w'
theorem DecP.none (c : Int) (w w' : World) (h : Below w.heap.size w w') : DecP ({}, c) w (.returned (.tuple #[.agg (tellV {} (.slice none 0 0) (.slice none 0 0) (.slice none 0 0)), .int .i64 c])) w' :=
  ⟨_, rfl, AR.zero _ _, h⟩
theorem tellInfo : (Try.prog.info? 28).map (·.size) = some 8 := by kernel_rfl
theorem tellInfo' (a : Tell) (kv vv nv : Value) : (Try.prog.info? 28).map (·.size) = some (tellV a kv vv nv).size := tellInfo
theorem tellOne (a : Tell) (kv vv nv : Value) (h1 : kv.oneCell' = true) (h2 : vv.oneCell' = true) (h3 : nv.oneCell' = true) : (tellV a kv vv nv).all (·.oneCell') = true := by
  simp [tellV, u8, h1, h2, h3]
  simp [Value.oneCell']
theorem tellTy : ∃ fs, Try.prog.underlying 28 = some (.struct fs) := by
  have h : (Try.prog.underlying 28).map (fun d => match d with | .struct _ => true | _ => false) = some true := by kernel_rfl
  cases e : Try.prog.underlying 28 with
  | none => rw [e] at h; cases h
  | some d => rw [e] at h; cases d with
    | struct fs => exact ⟨fs, rfl⟩
    | _ => simp at h
theorem dec_out (g : Nat) (wf : World) (tmps : Array Value) (c : Int) (cs : Array Value) (h2 : tmps.getD 2 undef = .pointer (some ⟨g, 0, none⟩)) (h3 : tmps.getD 3 undef = .int .i64 c) (hb : Blk wf g 28 cs) (hz : cs.size = 8) :
    (results Try.f9 tmps).run Try.prog wf = .ok (.tuple #[.agg cs, .int .i64 c]) wf := by
  obtain ⟨fs, hu⟩ := tellTy
  have hl := run_loadVar_row (P := Try.prog) wf g 28 28 cs (0, 0) (.struct fs) hb hu rfl (by rw [tellInfo, hz])
  have h2' : tmps[2]?.getD undef = .pointer (some ⟨g, 0, none⟩) := by simpa using h2
  have h3' : tmps[3]?.getD undef = .int .i64 c := by simpa using h3
  simp [results, Try.f9, Try.results9, h2', h3', asAddr, hl]
/-- what Decode has made when b is made -/
structure Mid (w : World) (k : UInt8) (s : ByteArray) (X : Nat) (p q : Value) (wx : World) : Prop where
  b0 : Blk wx w.heap.size 23 #[u8 k, .string s]
  b1 : Blk wx (w.heap.size + 1) 28 (tellV {} (.slice none 0 0) (.slice none 0 0) (.slice none 0 0))
  bX : Blk wx X 51 #[p, q]
  hX : w.heap.size + 2 ≤ X
  bel : Below w.heap.size w wx
theorem Mid.below {w : World} {k : UInt8} {s : ByteArray} {X : Nat} {p q : Value} {wx wy : World} (h : Mid w k s X p q wx) (hb : Below wx.heap.size wx wy) : Mid w k s X p q wy :=
  ⟨h.b0.below hb h.b0.lt, h.b1.below hb h.b1.lt, h.bX.below hb h.bX.lt, h.hX, h.bel.trans (hb.mono h.bel.size)⟩
theorem Mid.kept {w : World} {k : UInt8} {s : ByteArray} {X : Nat} {p q : Value} {wx wy : World} {S : List Nat} (h : Mid w k s X p q wx) (hk : Keeps S wx wy) (h0 : w.heap.size ∉ S) (h1 : w.heap.size + 1 ∉ S) (h2 : X ∉ S) (h3 : ∀ i ∈ S, w.heap.size ≤ i) : Mid w k s X p q wy :=
  ⟨h.b0.keeps hk h0, h.b1.keeps hk h1, h.bX.keeps hk h2, h.hX, h.bel.trans (hk.below h3 h.bel.size)⟩
theorem mid_new {w w1 : World} {k : UInt8} {s : ByteArray} {p q : Value}
    (hB : Below ((w.alloc (.cells #[u8 k, .string s] 23)).alloc (.cells (tellV {} (.slice none 0 0) (.slice none 0 0) (.slice none 0 0)) 28)).heap.size
      ((w.alloc (.cells #[u8 k, .string s] 23)).alloc (.cells (tellV {} (.slice none 0 0) (.slice none 0 0) (.slice none 0 0)) 28)) w1) :
    Mid w k s w1.heap.size p q (w1.alloc (.cells #[p, q] 51)) := by
  have z : ((w.alloc (.cells #[u8 k, .string s] 23)).alloc (.cells (tellV {} (.slice none 0 0) (.slice none 0 0) (.slice none 0 0)) 28)).heap.size = w.heap.size + 2 := by simp
  have hz := hB.size
  rw [z] at hz
  have c0 : Blk w1 w.heap.size 23 #[u8 k, .string s] := ((Blk.new w _ _).alloc _).below hB (by rw [z]; omega)
  have c1 : Blk w1 (w.heap.size + 1) 28 (tellV {} (.slice none 0 0) (.slice none 0 0) (.slice none 0 0)) := by
    have := Blk.new (w.alloc (.cells #[u8 k, .string s] 23)) 28 (tellV {} (.slice none 0 0) (.slice none 0 0) (.slice none 0 0))
    rw [show (w.alloc (.cells #[u8 k, .string s] 23)).heap.size = w.heap.size + 1 by simp] at this
    exact this.below hB (by rw [z]; omega)
  refine ⟨c0.alloc _, c1.alloc _, Blk.new _ _ _, hz, ?_⟩
  have h1 : Below w.heap.size w w1 := (((Below.refl _ _).alloc (Nat.le_refl _) _).alloc (by simp) _).trans (hB.mono (by rw [z]; omega))
  exact h1.alloc h1.size _
/-- what Decode makes of what was read -/
def decR (F : Tell × Tx × Bool) : Tell × Int := if F.2.2 = true ∨ F.2.1 ≠ [] then ({}, 4) else (F.1, 0)
theorem decP_no (k : UInt8) (l : Tx) (d : Kd) (hd : kd k = some d) (hr : rightL (k, l) = false) : decP k l = ({}, 4) := by unfold decP; rw [hd]; simp only; rw [if_pos hr]
theorem decP_yes (k : UInt8) (l : Tx) (d : Kd) (hd : kd k = some d) (hr : rightL (k, l) = true) : decP k l = decR (readD d { kind := k } l false) := by
  unfold decP decR; rw [hd]; simp only; rw [if_neg (by rw [hr]; decide)]

set_option maxHeartbeats 800000 in
theorem dec_kind (k : UInt8) (s : ByteArray) (w : World) (hk : kd k = none) :
    Calls Try.prog 9 #[.agg #[u8 k, .string s]] w (DecP ({}, 5) w) := by
  have hst : ∀ (W : World) (p : Addr) (md), (store p .nilFunc md).run Try.prog W = stored Try.prog W p .nilFunc md := fun W p md => run_store Try.prog W p _ md rfl
  have hmn := fun w1 => @mid_new w w1 k s .nilFunc .nilFunc
  unfold u8 at *
  go_enter Try.func9, Try.ntmps9
  go_wp2_with fail
  refine (bodies_none k hk _).mono ?_; rintro e w1 ⟨rfl, hb1⟩
  have hM := hmn w1 hb1
  clear hmn hk hb1
  go_wp2_with ((with_reducible refine wpList_store_mid (op := ⟨none, .store 28 (.tmp 2) (.tmp 16), _, _, _, _⟩) rfl 28 (.tmp 2) (.tmp 16) rfl (w.heap.size + 1) 0 (tellV {} (.slice none 0 0) (.slice none 0 0) (.slice none 0 0)) ?_ ?_ (hM.b1.there _ (Nat.le_refl _)) (tellInfo' _ _ _ _) (tellOne _ _ _ _ rfl rfl rfl) ?_); (· rfl); (· rfl))
  have hb := hM.b1.store (tellV {} (.slice none 0 0) (.slice none 0 0) (.slice none 0 0)) rfl
  refine bodyPost_ret (v := .tuple #[.agg (tellV {} (.slice none 0 0) (.slice none 0 0) (.slice none 0 0)), .int .i64 5]) (dec_out _ _ _ _ _ (by rfl) (by rfl) hb rfl) rfl ?_
  exact DecP.none 5 _ _ (hM.bel.trans ((Keeps.sets (w.heap.size + 1) (.inl (List.mem_singleton.2 rfl)) _ 0 _ (Keeps.refl [w.heap.size + 1] _)).below (fun i hi => by rw [List.mem_singleton.1 hi]; omega) hM.bel.size))

set_option maxHeartbeats 800000 in
theorem dec_form (k : UInt8) (s : ByteArray) (w : World) (d : Kd) (hk : kd k = some d) (hr : rightL (k, s.data.toList) = false) (hs : s.size ≤ 281474976710656) :
    Calls Try.prog 9 #[.agg #[u8 k, .string s]] w (DecP ({}, 4) w) := by
  have hst : ∀ (i : Nat) (W : World) (p : Addr) (md), (store p (.func (.func i) #[] #[]) md).run Try.prog W = stored Try.prog W p (.func (.func i) #[] #[]) md := fun i W p md => run_store Try.prog W p _ md rfl
  have db := bodies_some k d hk
  generalize rdN d = rd at *
  generalize wrN d = wr at *
  have hmn := fun w1 => @mid_new w w1 k s (fnV rd) (fnV wr)
  have dr := fun w => right_any k s w hs
  rw [hr] at dr
  clear hr hk
  unfold u8 at *
  go_enter Try.func9, Try.ntmps9
  go_wp2_with fail
  refine (db _).mono ?_; rintro e w1 ⟨rfl, hb1⟩
  have hM := hmn w1 hb1
  clear hmn hb1 db
  have c0 : (w1.alloc (.cells #[fnV rd, fnV wr] 51)).cell? ⟨w.heap.size, 0, none⟩ = some (.int .u8 (k.toNat : Int)) := hM.b0.cell 0
  have c1 : (w1.alloc (.cells #[fnV rd, fnV wr] 51)).cell? ⟨w.heap.size, 1, none⟩ = some (.string s) := hM.b0.cell 1
  go_wp2_with fail
  refine (dr _).mono ?_; rintro e w2 ⟨rfl, hb2⟩
  have hM2 := hM.below hb2
  clear hM c0 c1 hb2
  go_wp2_with ((with_reducible refine wpList_store_mid (op := ⟨none, .store 28 (.tmp 2) (.tmp 20), _, _, _, _⟩) rfl 28 (.tmp 2) (.tmp 20) rfl (w.heap.size + 1) 0 (tellV {} (.slice none 0 0) (.slice none 0 0) (.slice none 0 0)) ?_ ?_ (hM2.b1.there _ (Nat.le_refl _)) (tellInfo' _ _ _ _) (tellOne _ _ _ _ rfl rfl rfl) ?_); (· rfl); (· rfl))
  have hb := hM2.b1.store (tellV {} (.slice none 0 0) (.slice none 0 0) (.slice none 0 0)) rfl
  refine bodyPost_ret (v := .tuple #[.agg (tellV {} (.slice none 0 0) (.slice none 0 0) (.slice none 0 0)), .int .i64 4]) (dec_out _ _ _ _ _ (by rfl) (by rfl) hb rfl) rfl ?_
  exact DecP.none 4 _ _ (hM2.bel.trans ((Keeps.sets (w.heap.size + 1) (.inl (List.mem_singleton.2 rfl)) _ 0 _ (Keeps.refl [w.heap.size + 1] _)).below (fun i hi => by rw [List.mem_singleton.1 hi]; omega) hM2.bel.size))
end Go.Proofs.Ytnjifbgjglniaaa.BK
