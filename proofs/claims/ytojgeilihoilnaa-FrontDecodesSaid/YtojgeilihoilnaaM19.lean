/- What package front's Encode answers where the kind is none, and words for the rest. Condition: what is asked is of at most so many and so long texts (Few). -/
import Derived.Test.YtojgeilihoilnaaM18
import Derived.Test.YtojgeilihoilnaaM8
import Derived.Test.YtojgeilihoilnaaM7
set_option linter.unusedSimpArgs false
set_option linter.unusedVariables false
namespace Go.Proofs.Ytojgeilihoilnaa
open Go.ChangeShapes Go.WideShapes Go.ChangeAt Go.RowKit
set_option linter.unusedVariables false
attribute [local go_sem ↓] Go.wp_at_zero Go.wp_at_succ

/-- the blocks of Encode's own, when b is made -/
structure Mi2 (w : World) (cs : Array Value) (X : Nat) (p q : Value) (wx : World) : Prop where
  b0 : Blk wx w.heap.size 29 cs
  b1 : Blk wx (w.heap.size + 1) 23 #[.int .u8 0, .string ⟨#[]⟩]
  bX : Blk wx X 42 #[p, q]
  hX : w.heap.size + 2 ≤ X
  bel : Below w.heap.size w wx
theorem Mi2.below {w : World} {cs : Array Value} {X : Nat} {p q : Value} {wx wy : World} (h : Mi2 w cs X p q wx) (hb : Below wx.heap.size wx wy) : Mi2 w cs X p q wy :=
  ⟨h.b0.below hb h.b0.lt, h.b1.below hb h.b1.lt, h.bX.below hb h.bX.lt, h.hX, h.bel.trans (hb.mono h.bel.size)⟩
theorem Mi2.kept {w : World} {cs : Array Value} {X : Nat} {p q : Value} {wx wy : World} {S : List Nat} (h : Mi2 w cs X p q wx) (hk : Keeps S wx wy) (h0 : w.heap.size ∉ S) (h1 : w.heap.size + 1 ∉ S) (h2 : X ∉ S) (h3 : ∀ i ∈ S, w.heap.size ≤ i) : Mi2 w cs X p q wy :=
  ⟨h.b0.keeps hk h0, h.b1.keeps hk h1, h.bX.keeps hk h2, h.hX, h.bel.trans (hk.below h3 h.bel.size)⟩
theorem mi2_late {w w1 : World} {cs : Array Value} {p q : Value}
    (hB : Below (((w.alloc (.cells cs 29)).alloc (.cells #[.int .u8 0, .string ⟨#[]⟩] 23)).drew).heap.size (((w.alloc (.cells cs 29)).alloc (.cells #[.int .u8 0, .string ⟨#[]⟩] 23)).drew) w1) :
    Mi2 w cs w1.heap.size p q (w1.alloc (.cells #[p, q] 42)) := by
  have z : (((w.alloc (.cells cs 29)).alloc (.cells #[.int .u8 0, .string ⟨#[]⟩] 23)).drew).heap.size = w.heap.size + 2 := by simp
  have hz := hB.size
  rw [z] at hz
  have g0 := (Blk.new w 29 cs).alloc (.cells #[.int .u8 0, .string ⟨#[]⟩] 23)
  have g1 := Blk.new (w.alloc (.cells cs 29)) 23 #[.int .u8 0, .string ⟨#[]⟩]
  rw [show (w.alloc (.cells cs 29)).heap.size = w.heap.size + 1 by simp] at g1
  have c0 : Blk w1 w.heap.size 29 cs := g0.drew_.below hB (by rw [z]; omega)
  have c1 : Blk w1 (w.heap.size + 1) 23 #[.int .u8 0, .string ⟨#[]⟩] := g1.drew_.below hB (by rw [z]; omega)
  refine ⟨c0.alloc _, c1.alloc _, Blk.new _ _ _, hz, ?_⟩
  have h1 : Below w.heap.size w w1 := ((((Below.refl _ _).alloc (Nat.le_refl _) _).alloc (by simp) _).drew).trans (hB.mono (by rw [z]; omega))
  exact h1.alloc h1.size _
theorem mi2_early {w w1 : World} {cs : Array Value} {p0 q0 p q : Value}
    (hB : Below (((w.alloc (.cells cs 29)).alloc (.cells #[.int .u8 0, .string ⟨#[]⟩] 23)).alloc (.cells #[p0, q0] 42)).drew.heap.size
      (((w.alloc (.cells cs 29)).alloc (.cells #[.int .u8 0, .string ⟨#[]⟩] 23)).alloc (.cells #[p0, q0] 42)).drew w1) :
    Mi2 w cs (w.heap.size + 2) p q ((w1.setCell ⟨w.heap.size + 2, 0, none⟩ p).setCell ⟨w.heap.size + 2, 1, none⟩ q) := by
  have z : (((w.alloc (.cells cs 29)).alloc (.cells #[.int .u8 0, .string ⟨#[]⟩] 23)).alloc (.cells #[p0, q0] 42)).drew.heap.size = w.heap.size + 3 := by simp
  have hz := hB.size
  rw [z] at hz
  have g0 := ((Blk.new w 29 cs).alloc (.cells #[.int .u8 0, .string ⟨#[]⟩] 23)).alloc (.cells #[p0, q0] 42)
  have g1 := (Blk.new (w.alloc (.cells cs 29)) 23 #[.int .u8 0, .string ⟨#[]⟩]).alloc (.cells #[p0, q0] 42)
  have g2 := Blk.new ((w.alloc (.cells cs 29)).alloc (.cells #[.int .u8 0, .string ⟨#[]⟩] 23)) 42 #[p0, q0]
  rw [show (w.alloc (.cells cs 29)).heap.size = w.heap.size + 1 by simp] at g1
  rw [show ((w.alloc (.cells cs 29)).alloc (.cells #[.int .u8 0, .string ⟨#[]⟩] 23)).heap.size = w.heap.size + 2 by simp] at g2
  have c0 : Blk w1 w.heap.size 29 cs := g0.drew_.below hB (by rw [z]; omega)
  have c1 : Blk w1 (w.heap.size + 1) 23 #[.int .u8 0, .string ⟨#[]⟩] := g1.drew_.below hB (by rw [z]; omega)
  have c2 : Blk w1 (w.heap.size + 2) 42 #[p0, q0] := g2.drew_.below hB (by rw [z]; omega)
  have k1 : Keeps [w.heap.size + 2] w1 ((w1.setCell ⟨w.heap.size + 2, 0, none⟩ p).setCell ⟨w.heap.size + 2, 1, none⟩ q) := ((Keeps.refl _ _).set _ _ _ (.inl (by simp))).set _ _ _ (.inl (by simp))
  refine ⟨c0.keeps k1 (by simp), c1.keeps k1 (by simp), ?_, Nat.le_refl _, ?_⟩
  · exact (c2.set_ 0 p).set_ 1 q
  · have h1 : Below w.heap.size w w1 := (((((Below.refl _ _).alloc (Nat.le_refl _) _).alloc (by simp) _).alloc (by simp; omega) _).drew).trans (hB.mono (by rw [z]; omega))
    exact h1.trans (k1.below (fun i hi => by rw [List.mem_singleton.1 hi]; omega) h1.size)
/-- what an answer of Encode is -/
def EncP (r : (UInt8 × Tx) × Int) (w : World) (e : Ending) (w' : World) : Prop :=
  e = .returned (.tuple #[.agg #[u8 r.1.1, .string (ba r.1.2)], .int .i64 r.2]) ∧ Below w.heap.size w w'
theorem box_cut (a : Ask) (kv vv av nv fv : Value) : askV a kv vv av nv fv = #[.int .u8 (a.kind.toNat : Int), .string (ba a.name), .string (ba a.portal), .string (ba a.sql), kv, vv, av, nv, fv, .int .i64 a.most, .int .u8 (a.what.toNat : Int), .bool a.cancel, .int .i64 a.pid, .int .i64 a.secret] := rfl
theorem msgTy : ∃ fs, Try.prog.underlying 23 = some (.struct fs) := by
  have h : (Try.prog.underlying 23).map (fun d => match d with | .struct _ => true | _ => false) = some true := by kernel_rfl
  cases e : Try.prog.underlying 23 with
  | none => rw [e] at h; cases h
  | some d => rw [e] at h; cases d with
    | struct fs => exact ⟨fs, rfl⟩
    | _ => simp at h
theorem msgInfo : (Try.prog.info? 23).map (·.size) = some 2 := by kernel_rfl
theorem enc_out (g : Nat) (wf : World) (tmps : Array Value) (c : Int) (cs : Array Value) (h2 : tmps.getD 2 undef = .pointer (some ⟨g, 0, none⟩)) (h3 : tmps.getD 3 undef = .int .i64 c) (hb : Blk wf g 23 cs) (hz : cs.size = 2) :
    (results Try.f13 tmps).run Try.prog wf = .ok (.tuple #[.agg cs, .int .i64 c]) wf := by
  obtain ⟨fs, hu⟩ := msgTy
  have hl := run_loadVar_row (P := Try.prog) wf g 23 23 cs (0, 0) (.struct fs) hb hu rfl (by rw [msgInfo, hz])
  have h2' : tmps[2]?.getD undef = .pointer (some ⟨g, 0, none⟩) := by simpa using h2
  have h3' : tmps[3]?.getD undef = .int .i64 c := by simpa using h3
  simp [results, Try.f13, h2', h3', asAddr, hl]
theorem Blk.all14 {w : World} {g : Nat} {t : TypeId} {a b c d e f x h i j k l m n : Value} (q : Blk w g t #[a, b, c, d, e, f, x, h, i, j, k, l, m, n]) :
    w.cell? ⟨g, 0, none⟩ = some a ∧ w.cell? ⟨g, 1, none⟩ = some b ∧ w.cell? ⟨g, 2, none⟩ = some c ∧ w.cell? ⟨g, 3, none⟩ = some d ∧ w.cell? ⟨g, 4, none⟩ = some e ∧ w.cell? ⟨g, 5, none⟩ = some f ∧ w.cell? ⟨g, 6, none⟩ = some x ∧
    w.cell? ⟨g, 7, none⟩ = some h ∧ w.cell? ⟨g, 8, none⟩ = some i ∧ w.cell? ⟨g, 9, none⟩ = some j ∧ w.cell? ⟨g, 10, none⟩ = some k ∧ w.cell? ⟨g, 11, none⟩ = some l ∧ w.cell? ⟨g, 12, none⟩ = some m ∧ w.cell? ⟨g, 13, none⟩ = some n :=
  ⟨q.cell 0, q.cell 1, q.cell 2, q.cell 3, q.cell 4, q.cell 5, q.cell 6, q.cell 7, q.cell 8, q.cell 9, q.cell 10, q.cell 11, q.cell 12, q.cell 13⟩
/-- what Encode makes of what is asked -/
def encR (a : Ask) (d : Kd) : (UInt8 × Tx) × Int :=
  if shortB a = true ∧ (decP a.kind (bodyD d a)).2 = 0 ∧ a = (decP a.kind (bodyD d a)).1 then ((a.kind, bodyD d a), 0) else ((0, []), 4)

set_option maxHeartbeats 800000 in
set_option maxRecDepth 100000 in
theorem enc_kind (a : Ask) (kv vv av nv fv : Value) (w : World) (hk : Instr.findNow (.int .u8) (u8 a.kind) kEs.toList 0 = some none) :
    Calls Try.prog 13 #[.agg (askV a kv vv av nv fv)] w (EncP ((0, []), 4) w) := by
  have hml := fun w1 => @mi2_late w w1 (askV a kv vv av nv fv) .nilFunc .nilFunc
  have hme := fun w1 => @mi2_early w w1 (askV a kv vv av nv fv) .nilFunc .nilFunc .nilFunc .nilFunc
  unfold u8 at hk
  rw [box_cut] at hml hme ⊢
  go_enter Try.func13, Try.ntmps13
  go_upto_region 1 with fail
  go_cut [4, 5] (fun s4 s5 wx => ∃ X, s4 = .pointer (some ⟨X, 0, none⟩) ∧ s5 = .bool false ∧ Mi2 w #[.int .u8 (a.kind.toNat : Int), .string (ba a.name), .string (ba a.portal), .string (ba a.sql), kv, vv, av, nv, fv, .int .i64 a.most, .int .u8 (a.what.toNat : Int), .bool a.cancel, .int .i64 a.pid, .int .i64 a.secret] X .nilFunc .nilFunc wx)
  case first =>
    go_region_held3 (fun w' => w'.cell? ⟨w.heap.size, 0, none⟩ = some (.int .u8 (a.kind.toNat : Int))) (go_keep) ((go_at_call 17; refine (kinds_kp _).mono ?_; rintro e w1 ⟨b, rfl, hb, hB⟩; have hl := look_no w1 b _ _ hb _  hk; have hl2 := look_no (w1.alloc (.cells #[.nilFunc, .nilFunc] 42)) b _ _ ((Below.heap_alloc w1 _ b (Array.getElem?_eq_some_iff.1 hb).1).trans hb) _  hk; have c0 : w1.cell? ⟨w.heap.size, 0, none⟩ = some (.int .u8 (a.kind.toNat : Int)) := (by rw [(bcell hB).1 _ _ (by simp; omega)]; simp [go_sem]); have n1 : w1.heap.size ≠ w.heap.size := (by have := hB.size; simp at this; omega); have n2 : w.heap.size ≠ w1.heap.size := n1.symm; have n3 : w.heap.size + 2 ≠ w.heap.size := (by omega); obtain ⟨hcc, hff⟩ := bcell hB))
    all_goals
      clear hcc hff hl hl2
      go_wp2_with fail
      go_meet
      first
        | exact ⟨w1.heap.size, rfl, rfl, hml _ hB⟩
        | exact ⟨w.heap.size + 2, rfl, rfl, hme _ hB⟩
  case rest =>
    obtain ⟨X, rfl, rfl, hM⟩ := hcut
    clear hml hme
    have f0 := hM.b1.frozen 0
    have f1 := hM.b1.frozen 1
    have c0 : wc.cell? ⟨w.heap.size + 1, 0, none⟩ = some (.int .u8 0) := hM.b1.cell 0
    have c1 : wc.cell? ⟨w.heap.size + 1, 1, none⟩ = some (.string ⟨#[]⟩) := hM.b1.cell 1
    have hbel := hM.bel
    have hb2 := (hM.b1.set_ 0 (.int .u8 0)).set_ 1 (.string ⟨#[]⟩)
    have x0 := hb2.cell 0
    have x1 := hb2.cell 1
    go_wp2
    exact bodyPost_ret (v := .tuple #[.agg #[.int .u8 0, .string ⟨#[]⟩], .int .i64 4]) (enc_out _ _ _ _ _ (by rfl) (by rfl) hb2 rfl) rfl ⟨rfl, (hbel.setCell (p := ⟨w.heap.size + 1, 0, none⟩) (by simp) _).setCell (p := ⟨w.heap.size + 1, 1, none⟩) (by simp) _⟩
end Go.Proofs.Ytojgeilihoilnaa
